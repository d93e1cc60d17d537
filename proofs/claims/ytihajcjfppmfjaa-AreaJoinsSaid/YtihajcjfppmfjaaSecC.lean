/- Calls of a disk: writeOf and its closure, Read. -/
import Derived.Test.YtihajcjfppmfjaaSecB
import Derived.StillTailTactics
import Derived.RegionTactic
import Derived.Deep.RegionLaw
namespace Go.Proofs.Ytihajcjfppmfjaa
open Go.RowKit Sec

/-- A pending write, made. -/
theorem writeOf_any (o : Nat) (b : List UInt8) (w : World) :
    Calls Try.prog 33 #[.int .i64 (o : Nat), .string ⟨b.toArray⟩] w fun e w' =>
      e = .returned (.func (.func 35) #[] #[.pointer (some ⟨w.heap.size, 0, none⟩), .pointer (some ⟨w.heap.size + 1, 0, none⟩)]) ∧
      w' = (w.alloc (.cells #[.int .i64 (o : Nat)] 3)).alloc (.cells #[.string ⟨b.toArray⟩] 9) := by
  go_enter Try.func33, Try.ntmps33
  go_wp2_with fail
  go_ret
  exact ⟨rfl, rfl⟩

theorem info_cpy (w : World) : (Go.sizeOf 5).run Try.prog w = .ok 1 w := by kernel_rfl

/-- A COPY of a text into a row, as an operation of a plain list. -/
theorem wpList_copy_str {ops : Array Oper} {rest : List Oper} {o : Oper} {a : Act} {w : World} {Q : Exit → Act → World → Prop} (hgd : o.guard = none) (d x : Operand)
    (ho : o.op = .call { callee := .builtin .copy, args := #[d, x], argTypes := #[38, 9] })
    (g off dLen dCap : Nat) (hd : a.eval d = .slice (some ⟨g, off, none⟩) dLen dCap) (s : ByteArray) (hx : a.eval x = .string s) (hle : s.size ≤ dLen) (ht : w.there g off s.size)
    (h : wpList Try.prog ops Q rest (a.put o.dst (goInt s.size)) (w.setCells g off (bys s.data.toList))) : wpList Try.prog ops Q (o :: rest) a w :=
  wpList_plain hgd fun K hK => by
    have hrun := run_copy_string (P := Try.prog) w 38 9 o.type 5 g off dLen dCap s Try.underlying38 info_cpy hle (fun j hj => (ht j hj).1) (fun j hj => (ht j hj).2)
    unfold Oper.wp
    simp [execOp, ho, resolve, invoke, builtin, hd, hx, hrun, Result.andThen]
    exact hK _ _ h

/-- A pending write, done in its first bytes. -/
theorem laid_any (gl n bf bs o f : Nat) (b L : List UInt8) (hL : L.length = n) (ho : o + f ≤ n) (hn : o < n) (hf : f ≤ b.length) (_hm : n ≤ 16777216) (_hb : b.length ≤ 16777216) (w : World) (h1 : Has w bf 3 [.int .i64 (o : Nat)]) (h2 : Has w bs 9 [.string ⟨b.toArray⟩]) (h3 : Has w gl 5 (bys L)) :
    Calls Try.prog 35 #[.slice (some ⟨gl, 0, none⟩) n n, .int .i64 (f : Nat), .pointer (some ⟨bf, 0, none⟩), .pointer (some ⟨bs, 0, none⟩)] w fun e w' =>
      e = .returned (.tuple #[]) ∧ w' = w.drew.setCells gl o (bys (b.take f)) := by
  have f1 := h1.at (i := 0) rfl
  have f2 := h2.at (i := 0) rfl
  have HT := Lib.hid (h3.there o f (by rw [bys_length]; omega))
  have hsz : (⟨b.toArray⟩ : ByteArray).size = b.length := text_list b
  have e1 : (⟨b.toArray⟩ : ByteArray).extract 0 f = ⟨(b.take f).toArray⟩ := by rw [extract_mid]; simp
  have l1 : (⟨(b.take f).toArray⟩ : ByteArray).size = f := by rw [text_list, List.length_take]; omega
  have k1 : (o : Int) ≤ (n : Int) := by omega
  have k2 : (f : Int) ≤ (b.length : Int) := by omega
  have k3 : ¬ (n = o) := by omega
  have k4 : o ≤ n := by omega
  have EH := Lib.hid e1
  have LH := Lib.hid l1
  clear h1 h2 h3 e1 l1
  go_enter Try.func35, Try.ntmps35
  go_wp2_with fail
  go_still_tail 6, (by kernel_rfl)
  change wpList _ _ _ _ _ w.drew
  rw [EH.out]
  refine wpList_copy_str rfl (.tmp 8) (.tmp 11) rfl gl o (n - o) (n - o) rfl ⟨(b.take f).toArray⟩ rfl (by rw [LH.out]; omega) (by rw [LH.out]; exact HT.out) ?_
  obtain ⟨W, hW⟩ : ∃ W, W = w.drew.setCells gl o (bys (b.take f)) := ⟨_, rfl⟩
  change wpList _ _ _ _ _ (w.drew.setCells gl o (bys (b.take f)))
  rw [← hW]
  have HW := Lib.hid hW
  clear hW
  go_wp2_with fail
  go_end0
  exact ⟨rfl, HW.out⟩

end Go.Proofs.Ytihajcjfppmfjaa
