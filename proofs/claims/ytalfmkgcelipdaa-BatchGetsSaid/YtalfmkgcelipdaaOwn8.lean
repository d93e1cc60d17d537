/- Slices of 64-bit numbers that a call itself makes, under a name that no tactic opens. -/
import Derived.Test.YtalfmkgcelipdaaBytes
namespace Go.Proofs.Ytalfmkgcelipdaa
open Go.RowKit

theorem info_u64 : (Try.prog.info? 22).map (fun i => (i.zero, i.size, i.bytes)) = some (some (.int .u64 0), 1, 8) := by kernel_rfl

/-- A slice of 64-bit numbers that the call itself made. -/
structure Own8 (B : Nat) (v : Value) (l : List Nat) (W : World) : Prop where
  out : W.ownsRow B 22 1 v l.length (nums .u64 l)

theorem Own8.below {B : Nat} {v : Value} {l : List Nat} {W w1 : World} (h : Own8 B v l W) (hb : Below W.heap.size W w1) : Own8 B v l w1 := ⟨own_below h.out hb⟩
theorem Own8.alloc {B : Nat} {v : Value} {l : List Nat} {W : World} (h : Own8 B v l W) (o : Obj) : Own8 B v l (W.alloc o) := ⟨h.out.alloc o⟩
theorem Own8.drew {B : Nat} {v : Value} {l : List Nat} {W : World} (h : Own8 B v l W) : Own8 B v l W.drew := ⟨h.out.drew⟩
theorem Own8.nil (B : Nat) (W : World) : Own8 B (.slice none 0 0) [] W := ⟨⟨rfl, Or.inl ⟨rfl, rfl⟩⟩⟩

/-- Such a slice that is not empty, opened. -/
theorem Own8.opened {B : Nat} {v : Value} {l : List Nat} {W : World} (h : Own8 B v l W) (hl : 0 < l.length) : ∃ g cap, v = .slice (some ⟨g, 0, none⟩) l.length cap ∧ B ≤ g ∧ g < W.heap.size ∧ l.length ≤ cap ∧ ∀ j x, l[j]? = some x → W.cell? ⟨g, j, none⟩ = some (.int .u64 (x : Nat)) := by
  obtain ⟨h0, ⟨_, hn⟩ | ⟨g, cap, cur, hv, hg, hh, hn, hc, hs, ht⟩⟩ := h.out
  · omega
  · refine ⟨g, cap, hv, hg, lt_of_block hh, by omega, fun j x hx => ?_⟩
    have hj : j < l.length := by
      rcases Nat.lt_or_ge j l.length with h | h
      · exact h
      · rw [List.getElem?_eq_none h] at hx; cases hx
    have hcur : cur[j]? = some (Value.int .u64 (x : Nat)) := by
      have := congrArg (fun m => m[j]?) ht
      simp [nums, hj] at this
      rw [List.getElem?_eq_getElem hj] at hx
      obtain rfl := Option.some.inj hx
      exact this
    simp [World.cell?, hh, hcur]

/-- AN APPEND onto such a slice. -/
theorem wpList_push8 {ops : Array Oper} {rest : List Oper} {o : Oper} {a : Act} {w : World} {Q : Exit → Act → World → Prop} (hgd : o.guard = none) (s x : Operand)
    (ho : o.op = .call { callee := .builtin .append, args := #[s, x], argTypes := #[87, 87] })
    (B : Nat) (v : Value) (l : List Nat) (hs : a.eval s = v) (hown : Own8 B v l w) (g m : Nat) (news : List Nat) (hx : a.eval x = .slice (some ⟨g, 0, none⟩) m m) (hg : Has w g 22 (nums .u64 news))
    (hl : news.length = m) (hm : 0 < m) (h63 : l.length + m ≤ 1000000) (hB : B ≤ w.heap.size)
    (h : ∀ v' w', Own8 B v' (l ++ news) w' → Below B w w' → wpList Try.prog ops Q rest (a.put o.dst v') w') : wpList Try.prog ops Q (o :: rest) a w := by
  obtain ⟨i0, hi, hz0, hz1, hz2⟩ := info_parts info_u64
  refine wpList_append_lies w hgd s x 87 ho B 22 i0 _ 1 8 Try.underlying87 hi hz0 hz1 hz2 rfl (by omega) v l.length (nums .u64 l) hs hown.out ⟨g, 0, none⟩ m m (nums .u64 news) hx (by simp [nums, hl])
    (World.news_of_block (cs := (nums .u64 news).toArray) hg) (by intro u hu; obtain ⟨c, _, rfl⟩ := List.mem_map.1 hu; rfl) hm (by unfold maxLen; omega) (by omega) hB _ rfl ?_
  intro g' cap w1 hown1 hgrow hat hlt
  refine h _ w1 ⟨?_⟩ ((Below.refl B w).grown hgrow hB (fun j hj => (hown.out.lt j hj).1))
  have : nums .u64 (l ++ news) = nums .u64 l ++ nums .u64 news := by simp [nums]
  rw [this, List.length_append, hl]
  exact hown1

end Go.Proofs.Ytalfmkgcelipdaa
