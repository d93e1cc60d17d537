/- When written makes no disk; disks apart; slices of bools that a call makes. -/
import Derived.Test.YtbkieheebilopaaWritten
namespace Go.Proofs.Ytbkieheebilopaa.Sec

theorem Dk.flush_br (D : Dk) : D.flush.1.br = D.br := by
  unfold Dk.flush
  split
  · rfl
  · exact D.counted_br
theorem Dk.write_br (D : Dk) (a : Int) (b : List UInt8) : (D.write a b).1.br = D.br := by
  unfold Dk.write
  split
  · split
    · exact D.counted_br
    · rfl
  · rfl
theorem wst_br (fl : Int) (D : Dk) (ats : List Int) : ∀ k, (wst fl D ats k).br = D.br
  | 0 => rfl
  | k + 1 => by
    rw [wst]
    unfold stp
    rw [Dk.write_br]
    split
    · rw [Dk.flush_br, wst_br fl D ats k]
    · exact wst_br fl D ats k
theorem wst_ok (fl : Int) {D : Dk} (h : D.Ok) (ats : List Int) : ∀ k, (wst fl D ats k).Ok
  | 0 => h
  | k + 1 => by
    rw [wst]
    unfold stp
    refine Dk.Ok.write ?_ _ _
    split
    · exact (wst_ok fl h ats k).flush
    · exact wst_ok fl h ats k

end Go.Proofs.Ytbkieheebilopaa.Sec
namespace Go.Proofs.Ytbkieheebilopaa
open Go.RowKit Sec

theorem written_bad (m n fl : Int) (A : Option Addr) (l c : Nat) (hb : m < 1 ∨ 64 < m ∨ n < 64 ∨ 1024 < n ∨ 60 < l) (w : World) :
    Calls Try.prog 7 #[.int .i64 m, .int .i64 n, .int .i64 fl, .slice A l c, .int .u8 1] w fun e w' => e = .returned (.pointer none) ∧ Below w.heap.size w w' := by
  by_cases h : m < 1 ∨ 4096 < m ∨ n < 64 ∨ 1024 < n
  · have C := Lib.hid (new_bad m n h)
    clear h hb
    go_enter Try.func7, Try.ntmps7
    go_wp2_with fail
    refine (C.out _).mono ?_; rintro e w1 ⟨rfl, rfl⟩
    go_wp2_with fail
    go_ret
    exact ⟨rfl, Below.refl _ _⟩
  · obtain ⟨m, rfl⟩ : ∃ k : Nat, m = k := ⟨m.toNat, by omega⟩
    obtain ⟨n, rfl⟩ : ∃ k : Nat, n = k := ⟨n.toNat, by omega⟩
    have C := Lib.hid (new_ok m n (by omega) (by omega) (by omega) (by omega))
    by_cases h64 : (64 : Int) < m
    · clear h hb
      go_enter Try.func7, Try.ntmps7
      go_wp2_with fail
      refine (C.out _).mono ?_; rintro e w1 ⟨d, rfl, _, b1⟩
      have B1 := Lib.hid b1
      clear b1
      go_wp2_with fail
      go_ret
      exact ⟨rfl, B1.out⟩
    · have h60 : (60 : Int) < (l : Int) := by omega
      have h64' : (m : Int) ≤ 64 := by omega
      clear h hb
      go_enter Try.func7, Try.ntmps7
      go_wp2_with fail
      refine (C.out _).mono ?_; rintro e w1 ⟨d, rfl, _, b1⟩
      have B1 := Lib.hid b1
      clear b1
      go_wp2_with fail
      go_ret
      exact ⟨rfl, B1.out⟩

/-- A disk's blocks are those that are there. -/
theorem Dsk.narrow {F : Nat → Prop} {w : World} {d : Nat} {D : Dk} (h : Dsk F w d D) : Dsk (fun k => F k ∧ k < w.heap.size) w d D := by
  obtain ⟨ok, gl, gt, v, fs, h⟩ := h
  refine ⟨ok, gl, gt, v, fs, h.hD, h.hL, h.hT, h.own, ⟨h.hW.len, fun i p f hp hf => ?_⟩, ⟨h.fd, h.hD.lt⟩, ⟨h.fl, h.hL.lt⟩, ⟨h.ft, h.hT.lt⟩, fun g hg => ⟨h.fv g hg, h.lt.2.2.2 g hg⟩⟩
  obtain ⟨bf, bs, e, h1, h2, h3, h4, h5⟩ := h.hW.wr i p f hp hf
  exact ⟨bf, bs, e, h1, h2, ⟨h3, h1.lt⟩, ⟨h4, h2.lt⟩, h5⟩

theorem info_bl : (Try.prog.info? 4).map (fun i => (i.zero, i.size, i.bytes)) = some (some (.bool false), 1, 1) := by kernel_rfl

/-- A slice of bools that the call itself made. -/
structure OwnBo (B : Nat) (v : Value) (l : List Bool) (W : World) : Prop where
  out : W.ownsRow B 4 1 v l.length (l.map Value.bool)

theorem OwnBo.nil (B : Nat) (W : World) : OwnBo B (.slice none 0 0) [] W := ⟨World.ownsRow_nil _ _ _ _⟩
theorem OwnBo.up {B : Nat} {v : Value} {l : List Bool} {W w1 : World} (h : OwnBo B v l W) (hb : Below W.heap.size W w1) : OwnBo B v l w1 := ⟨own_below h.out hb⟩
theorem OwnBo.open {B : Nat} {v : Value} {l : List Bool} {W : World} (h : OwnBo B v l W) : ∃ A c, v = .slice A l.length c ∧ BoSl W A l ∧ ∀ g o, A = some ⟨g, o, none⟩ → B ≤ g ∧ g < W.heap.size := by
  obtain ⟨h0, ⟨rfl, hn⟩ | ⟨g, cap, cur, rfl, hg, hh, hn, _, _, ht⟩⟩ := h.out
  · exact ⟨none, 0, by rw [hn], ⟨fun hl => by omega⟩, fun g o e => by cases e⟩
  · refine ⟨_, cap, rfl, ⟨fun _ => ⟨g, 0, rfl, fun i b hb => ?_⟩⟩, fun g' o' e => ?_⟩
    · have h1 : (l.map Value.bool)[i]? = some (.bool b) := by simp [hb]
      rw [← ht, List.getElem?_take] at h1
      rw [Nat.zero_add]
      split at h1
      · simpa [World.cell?, hh] using h1
      · cases h1
    · injection e with e
      have : g = g' := congrArg Addr.block e
      subst this
      exact ⟨hg, lt_of_block hh⟩

/-- AN APPEND of one bool. -/
theorem wpList_pushBo {ops : Array Oper} {rest : List Oper} {o : Oper} {a : Act} {w : World} {Q : Exit → Act → World → Prop} (hgd : o.guard = none) (s x : Operand)
    (ho : o.op = .call { callee := .builtin .append, args := #[s, x], argTypes := #[23, 23] })
    (B : Nat) (v : Value) (l : List Bool) (hs : a.eval s = v) (hown : OwnBo B v l w) (g : Nat) (b : Bool) (hx : a.eval x = .slice (some ⟨g, 0, none⟩) 1 1) (hg : Has w g 4 [.bool b])
    (h63 : l.length + 1 ≤ 1000000) (hB : B ≤ w.heap.size)
    (h : ∀ v' w', OwnBo B v' (l ++ [b]) w' → Below B w w' → wpList Try.prog ops Q rest (a.put o.dst v') w') : wpList Try.prog ops Q (o :: rest) a w := by
  obtain ⟨i0, hi, hz0, hz1, hz2⟩ := info_parts info_bl
  refine wpList_append_lies w hgd s x 23 ho B 4 i0 _ 1 1 Try.underlying23 hi hz0 hz1 hz2 rfl (by omega) v l.length (l.map Value.bool) hs hown.out ⟨g, 0, none⟩ 1 1 [.bool b] hx rfl
    (World.news_of_block (cs := #[.bool b]) hg) (by intro u hu; obtain rfl := List.mem_singleton.1 hu; rfl) (by omega) (by unfold maxLen; omega) (by omega) hB _ rfl ?_
  intro g' cap w1 hown1 hgrow hat hlt
  refine h _ w1 ⟨?_⟩ ((Below.refl B w).grown hgrow hB (fun j hj => (hown.out.lt j hj).1))
  rw [List.length_append, List.map_append]
  exact hown1

end Go.Proofs.Ytbkieheebilopaa
