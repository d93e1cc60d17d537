/- Slices of words that a call itself makes; the other side's words of a block. -/
import Derived.Test.YtanjebmpjenmiaaDoorRefA
import Derived.Test.YtanjebmpjenmiaaDoorBytes
namespace Go.Proofs.YtanjebmpjenmiaaDoor
open Go.RowKit Word

attribute [local go_sem ↓] shl_nat shr_nat shl_lit shr_lit
attribute [local go_sem] wrap_add bits_xor bits_and bits_or wrap_less bits_not wrap_byte wrap_bt

theorem below_nx {w W W' : World} (h : Below w.heap.size w W) (h' : Below W.heap.size W W') : Below w.heap.size w W' := h.trans (h'.mono h.size)

theorem turn_b (n k : Nat) (h1 : 1 ≤ k) (h2 : k ≤ 31) (w : World) :
    Calls Tryd.prog 32 #[.int .u32 n, .int .i64 (k : Int)] w fun e w' => e = .returned (.int .u32 (rr n k : Nat)) ∧ Below w.heap.size w w' :=
  (turn_any n k h1 h2 w).mono fun _ _ ⟨he, m, hm⟩ => ⟨he, by rw [hm]; exact below_drewN (Below.refl _ _) m⟩

theorem info_u32 : (Tryd.prog.info? 22).map (fun i => (i.zero, i.size, i.bytes)) = some (some (.int .u32 0), 1, 4) := by kernel_rfl

/-- A slice of words that the call itself made, under one name that no tactic opens. -/
structure OwnW (B : Nat) (v : Value) (l : List Nat) (W : World) : Prop where
  out : W.ownsRow B 22 1 v l.length (nums .u32 l)

theorem OwnW.below {B : Nat} {v : Value} {l : List Nat} {W w1 : World} (h : OwnW B v l W) (hb : Below W.heap.size W w1) : OwnW B v l w1 := ⟨own_below h.out hb⟩
theorem OwnW.alloc {B : Nat} {v : Value} {l : List Nat} {W : World} (h : OwnW B v l W) (o : Obj) : OwnW B v l (W.alloc o) := ⟨h.out.alloc o⟩
theorem OwnW.drew {B : Nat} {v : Value} {l : List Nat} {W : World} (h : OwnW B v l W) : OwnW B v l W.drew := ⟨h.out.drew⟩
theorem OwnW.drewN {B : Nat} {v : Value} {l : List Nat} {W : World} (h : OwnW B v l W) (n : Nat) : OwnW B v l (W.drewN n) := h.below (below_drewN (Below.refl _ _) n)
theorem OwnW.nil (B : Nat) (W : World) : OwnW B (.slice none 0 0) [] W := ⟨⟨rfl, Or.inl ⟨rfl, rfl⟩⟩⟩

/-- A slice of words that is not empty, opened. -/
theorem OwnW.opened {B : Nat} {v : Value} {l : List Nat} {W : World} (h : OwnW B v l W) (hl : 0 < l.length) : ∃ g cap, v = .slice (some ⟨g, 0, none⟩) l.length cap ∧ B ≤ g ∧ l.length ≤ cap ∧ ∀ j x, l[j]? = some x → W.cell? ⟨g, j, none⟩ = some (.int .u32 (x : Nat)) := by
  obtain ⟨h0, ⟨_, hn⟩ | ⟨g, cap, cur, hv, hg, hh, hn, hc, hs, ht⟩⟩ := h.out
  · omega
  · refine ⟨g, cap, hv, hg, by omega, fun j x hx => ?_⟩
    have hj : j < l.length := by
      rcases Nat.lt_or_ge j l.length with h | h
      · exact h
      · rw [List.getElem?_eq_none h] at hx; cases hx
    have hcur : cur[j]? = some (Value.int .u32 (x : Nat)) := by
      have := congrArg (fun m => m[j]?) ht
      simp [nums, hj] at this
      rw [List.getElem?_eq_getElem hj] at hx
      obtain rfl := Option.some.inj hx
      exact this
    simp [World.cell?, hh, hcur]

theorem step_pushW {ops : Array Oper} {o : Oper} {a : Act} {w : World} {K : Act → World → Prop} {Q : Exit → Act → World → Prop} {E : Prop} (hgd : o.guard = none) (s x : Operand)
    (ho : o.op = .call { callee := .builtin .append, args := #[s, x], argTypes := #[52, 52] })
    (B : Nat) (v : Value) (l : List Nat) (hs : a.eval s = v) (hown : OwnW B v l w) (g m : Nat) (news : List Nat) (hx : a.eval x = .slice (some ⟨g, 0, none⟩) m m) (hg : Has w g 22 (nums .u32 news))
    (hl : news.length = m) (hm : 0 < m) (h63 : l.length + m ≤ 1000000) (hB : B ≤ w.heap.size)
    (h : ∀ v' w', OwnW B v' (l ++ news) w' → Below B w w' → K (a.put o.dst v') w') :
    if Region.wanted o (yielded ops a.tmps) = true then Oper.wp Tryd.prog o a w K Q else E := by
  obtain ⟨i0, hi, hz0, hz1, hz2⟩ := info_parts info_u32
  refine step_append_lies w hgd s x 52 ho B 22 i0 _ 1 4 Tryd.underlying52 hi hz0 hz1 hz2 rfl (by omega) v l.length (nums .u32 l) hs hown.out ⟨g, 0, none⟩ m m (nums .u32 news) hx (by simp [nums, hl])
    (World.news_of_block (cs := (nums .u32 news).toArray) hg) (by intro u hu; obtain ⟨c, _, rfl⟩ := List.mem_map.1 hu; rfl) hm (by unfold maxLen; omega) (by omega) hB _ rfl ?_
  intro g' cap w1 hown1 hgrow hat hlt
  refine h _ w1 ⟨?_⟩ ((Below.refl B w).grown hgrow hB (fun j hj => (hown.out.lt j hj).1))
  have : nums .u32 (l ++ news) = nums .u32 l ++ nums .u32 news := by simp [nums]
  rw [this, List.length_append, hl]
  exact hown1


end Go.Proofs.YtanjebmpjenmiaaDoor
