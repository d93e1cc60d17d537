/- Slices of bytes that a call itself makes, under names that no tactic opens; their text. -/
import Derived.Test.YtalfmkgcelipdaaMem
import Derived.Test.YtalfmkgcelipdaaWord
import Derived.Deep.AppendLies
import Derived.Laws.BytesArg
import Derived.Laws.MakeOwn
namespace Go.Proofs.Ytalfmkgcelipdaa
open Go.RowKit

theorem info_u8 : (Try.prog.info? 5).map (fun i => (i.zero, i.size, i.bytes)) = some (some (.int .u8 0), 1, 1) := by kernel_rfl

theorem own_text (v : Value) (k : Nat) (l : List UInt8) (hl : l.length = k) (B : Nat) (W : World) (h : W.ownsRow B 5 1 v k (l.map fun c => Value.int .u8 c.toNat)) :
    (convert 39 9 v).run Try.prog W = .ok (.string ⟨l.toArray⟩) W := by
  obtain ⟨h0, ⟨rfl, rfl⟩ | ⟨g, cap, cur, rfl, hg, hh, hn, hc, hs, ht⟩⟩ := h
  · obtain rfl : l = [] := List.length_eq_zero_iff.1 hl
    exact run_convert_bytes_nil W 39 5 Try.underlying39 Try.underlying5 0 0 9 Try.underlying9
  · subst hl
    refine run_convert_bytes_back (P := Try.prog) W 39 9 5 ⟨g, 0, none⟩ cap l Try.underlying39 Try.underlying5 Try.underlying9 ?_
    intro j hj
    have hadd : (⟨g, 0, none⟩ : Addr).add j = ⟨g, j, none⟩ := by unfold Addr.add; split <;> simp_all
    rw [hadd]
    have hcur : cur[j]? = some (Value.int .u8 l[j].toNat) := by
      have := congrArg (fun m => m[j]?) ht
      simp [hj] at this
      exact this
    simp [World.cell?, hh, hcur]

theorem own_below {B e s n : Nat} {v : Value} {xs : List Value} {W w1 : World} (h : W.ownsRow B e s v n xs) (hb : Below W.heap.size W w1) : w1.ownsRow B e s v n xs := by
  obtain ⟨h0, h1 | ⟨g, cap, cur, hv, hg, hh, hr⟩⟩ := h
  · exact ⟨h0, Or.inl h1⟩
  · exact ⟨h0, Or.inr ⟨g, cap, cur, hv, hg, (hb.block g (lt_of_block hh)).trans hh, hr⟩⟩

/-- Bytes, as cells. -/
def bys (l : List UInt8) : List Value := l.map fun c => Value.int .u8 c.toNat

/-- A slice of bytes that the call itself made, under one name that no tactic opens. -/
structure OwnB (B : Nat) (v : Value) (l : List UInt8) (W : World) : Prop where
  out : W.ownsRow B 5 1 v l.length (bys l)

theorem OwnB.text {B : Nat} {v : Value} {l : List UInt8} {W : World} (h : OwnB B v l W) : (convert 39 9 v).run Try.prog W = .ok (.string ⟨l.toArray⟩) W := own_text v _ l rfl B W h.out
theorem OwnB.below {B : Nat} {v : Value} {l : List UInt8} {W w1 : World} (h : OwnB B v l W) (hb : Below W.heap.size W w1) : OwnB B v l w1 := ⟨own_below h.out hb⟩
theorem OwnB.alloc {B : Nat} {v : Value} {l : List UInt8} {W : World} (h : OwnB B v l W) (o : Obj) : OwnB B v l (W.alloc o) := ⟨h.out.alloc o⟩
theorem OwnB.drew {B : Nat} {v : Value} {l : List UInt8} {W : World} (h : OwnB B v l W) : OwnB B v l W.drew := ⟨h.out.drew⟩

/-- What an append onto a row from block B on leaves: all that lies below B as it was. -/
theorem wpList_push {ops : Array Oper} {rest : List Oper} {o : Oper} {a : Act} {w : World} {Q : Exit → Act → World → Prop} (hgd : o.guard = none) (s x : Operand)
    (ho : o.op = .call { callee := .builtin .append, args := #[s, x], argTypes := #[39, 39] })
    (B : Nat) (v : Value) (l : List UInt8) (hs : a.eval s = v) (hown : OwnB B v l w) (g m : Nat) (news : List UInt8) (hx : a.eval x = .slice (some ⟨g, 0, none⟩) m m) (hg : Has w g 5 (bys news))
    (hl : news.length = m) (hm : 0 < m) (h63 : l.length + m ≤ 16777216) (hB : B ≤ w.heap.size)
    (h : ∀ v' w', OwnB B v' (l ++ news) w' → Below B w w' → wpList Try.prog ops Q rest (a.put o.dst v') w') : wpList Try.prog ops Q (o :: rest) a w := by
  obtain ⟨i0, hi, hz0, hz1, hz2⟩ := info_parts info_u8
  refine wpList_append_lies w hgd s x 39 ho B 5 i0 _ 1 1 Try.underlying39 hi hz0 hz1 hz2 rfl (by omega) v l.length (bys l) hs hown.out ⟨g, 0, none⟩ m m (bys news) hx (by simp [bys, hl])
    (World.news_of_block (cs := (bys news).toArray) hg) (by intro u hu; obtain ⟨c, _, rfl⟩ := List.mem_map.1 hu; rfl) hm (by unfold maxLen; omega) (by omega) hB _ rfl ?_
  intro g' cap w1 hown1 hgrow hat hlt
  refine h _ w1 ⟨?_⟩ ((Below.refl B w).grown hgrow hB (fun j hj => (hown.out.lt j hj).1))
  have : bys (l ++ news) = bys l ++ bys news := by simp [bys]
  rw [this, List.length_append, hl]
  exact hown1

theorem step_push {ops : Array Oper} {o : Oper} {a : Act} {w : World} {K : Act → World → Prop} {Q : Exit → Act → World → Prop} {E : Prop} (hgd : o.guard = none) (s x : Operand)
    (ho : o.op = .call { callee := .builtin .append, args := #[s, x], argTypes := #[39, 39] })
    (B : Nat) (v : Value) (l : List UInt8) (hs : a.eval s = v) (hown : OwnB B v l w) (g m : Nat) (news : List UInt8) (hx : a.eval x = .slice (some ⟨g, 0, none⟩) m m) (hg : Has w g 5 (bys news))
    (hl : news.length = m) (hm : 0 < m) (h63 : l.length + m ≤ 16777216) (hB : B ≤ w.heap.size)
    (h : ∀ v' w', OwnB B v' (l ++ news) w' → Below B w w' → K (a.put o.dst v') w') :
    if Region.wanted o (yielded ops a.tmps) = true then Oper.wp Try.prog o a w K Q else E := by
  obtain ⟨i0, hi, hz0, hz1, hz2⟩ := info_parts info_u8
  refine step_append_lies w hgd s x 39 ho B 5 i0 _ 1 1 Try.underlying39 hi hz0 hz1 hz2 rfl (by omega) v l.length (bys l) hs hown.out ⟨g, 0, none⟩ m m (bys news) hx (by simp [bys, hl])
    (World.news_of_block (cs := (bys news).toArray) hg) (by intro u hu; obtain ⟨c, _, rfl⟩ := List.mem_map.1 hu; rfl) hm (by unfold maxLen; omega) (by omega) hB _ rfl ?_
  intro g' cap w1 hown1 hgrow hat hlt
  refine h _ w1 ⟨?_⟩ ((Below.refl B w).grown hgrow hB (fun j hj => (hown.out.lt j hj).1))
  have : bys (l ++ news) = bys l ++ bys news := by simp [bys]
  rw [this, List.length_append, hl]
  exact hown1

/-- A row of bytes that was made with n bytes, of which k count. -/
theorem OwnB.of_block {B g n : Nat} {W : World} {l r : List UInt8} (hB : B ≤ g) (h : Has W g 5 (bys (l ++ r))) (hn : (l ++ r).length = n) (hm : n ≤ 16777216) : OwnB B (.slice (some ⟨g, 0, none⟩) l.length n) l W := by
  refine ⟨⟨by simp [bys], Or.inr ⟨g, n, _, rfl, hB, h, ?_, ?_, ?_, ?_⟩⟩⟩
  · have : (l ++ r).length = l.length + r.length := List.length_append
    omega
  · unfold maxLen; omega
  · simp [bys] at hn ⊢; omega
  · simp [bys]

theorem made_bys (n : Nat) : madeCells #[Value.int .u8 0] n = (bys (List.replicate n 0)).toArray := by
  unfold madeCells bys
  apply Array.ext
  · simp
  · intro i h1 h2
    simp [Nat.mod_one]

theorem run_make_bys (n c : Nat) (hnc : n ≤ c) (hc : c ≤ 16777216) (w : World) :
    (Instr.makeSlice 39 (.int .i64 (n : Int)) (.int .i64 (c : Int))).run Try.prog w = .ok (.slice (some ⟨w.heap.size, 0, none⟩) n c) (w.alloc (.cells (bys (List.replicate c 0)).toArray 5)) := by
  obtain ⟨i0, hi, hz0, hz1, hz2⟩ := info_parts info_u8
  have hr := run_make (P := Try.prog) w 39 5 i0 _ Try.underlying39 hi hz0 .i64 .i64 n c (by omega) (by omega) (by rw [hz2]; omega) (by omega)
  rw [hz1] at hr
  simp only [Int.toNat_natCast, Nat.mul_one] at hr
  rw [hr, ← made_bys]
  rfl

end Go.Proofs.Ytalfmkgcelipdaa
