/- Slices of events that a call itself makes: appended to. -/
import Derived.Test.YthhcopeejhhpgaaDoorEvRuns
import Derived.Laws.AppendOwnNone
namespace Go.Proofs.YthhcopeejhhpgaaDoor
open Go.RowKit Wire Evt

theorem info_ev : (Tryd.prog.info? 47).map (fun i => (i.zero, i.size, i.bytes)) = some (some (.agg #[.int .u64 0, .int .i64 0, .int .i64 0, .int .i64 0, .int .i64 0, .int .i64 0]), 6, 48) := by kernel_rfl

theorem flat_back : ∀ (l : List Ev) (j : Nat) (v : Value), (l.flatMap evc)[j]? = some v → ∃ i x r, l[i]? = some x ∧ (evc x)[r]? = some v ∧ j = i * 6 + r
  | [], j, v, h => by simp at h
  | y :: l, j, v, h => by
    have hl : (evc y).length = 6 := rfl
    rw [List.flatMap_cons] at h
    by_cases hj : j < 6
    · rw [List.getElem?_append_left (by omega)] at h
      exact ⟨0, y, j, rfl, h, by omega⟩
    · rw [List.getElem?_append_right (by omega), hl] at h
      obtain ⟨i, x, r, hx, hr, he⟩ := flat_back l (j - 6) v h
      exact ⟨i + 1, x, r, by simpa using hx, hr, by omega⟩

theorem flat_len (l : List Ev) : (l.flatMap evc).length = l.length * 6 := by
  induction l with
  | nil => rfl
  | cons x l ih => rw [List.flatMap_cons, List.length_append, ih, List.length_cons]; show 6 + _ = _; omega

theorem flat_one (l : List Ev) : ∀ u ∈ l.flatMap evc, u.oneCell' = true := by
  intro u hu
  obtain ⟨x, _, h⟩ := List.mem_flatMap.1 hu
  simp only [evc, List.mem_cons, List.not_mem_nil, or_false] at h
  rcases h with rfl | rfl | rfl | rfl | rfl | rfl <;> rfl

/-- A slice of events that the call itself made. -/
structure OwnE (B : Nat) (v : Value) (l : List Ev) (W : World) : Prop where
  out : W.ownsRow B 47 6 v l.length (l.flatMap evc)

theorem OwnE.nil (B : Nat) (W : World) : OwnE B (.slice none 0 0) [] W := ⟨⟨rfl, Or.inl ⟨rfl, rfl⟩⟩⟩
theorem OwnE.opened {B : Nat} {v : Value} {l : List Ev} {W : World} (h : OwnE B v l W) : ∃ A n cap, v = .slice A n cap ∧ n = l.length ∧ l.length ≤ cap ∧ EvSl W A l := by
  obtain ⟨h0, ⟨rfl, hn⟩ | ⟨g, cap, cur, hv, hg, hh, hn, hc, hs, ht⟩⟩ := h.out
  · exact ⟨none, _, 0, rfl, by rw [hn], by omega, fun h => by omega⟩
  · refine ⟨some ⟨g, 0, none⟩, _, cap, hv, rfl, by omega, fun _ => ⟨g, 0, rfl, fun i x hx j u hu => ?_⟩⟩
    have h1 := flat_at l i x hx j u hu
    rw [← ht, List.getElem?_take] at h1
    rw [Nat.zero_add]
    split at h1
    · simpa [World.cell?, hh] using h1
    · cases h1

theorem ad_add (g o j : Nat) : (⟨g, o, none⟩ : Addr).add j = ⟨g, o + j, none⟩ := by
  unfold Addr.add
  split
  · next h => rw [h, Nat.add_zero]
  · rfl

/-- AN APPEND of the events of any slice, nil too. -/
theorem wpList_pushE {ops : Array Oper} {rest : List Oper} {o : Oper} {a : Act} {w : World} {Q : Exit → Act → World → Prop} (hgd : o.guard = none) (s x : Operand)
    (ho : o.op = .call { callee := .builtin .append, args := #[s, x], argTypes := #[24, 24] })
    (B : Nat) (v : Value) (l : List Ev) (hs : a.eval s = v) (hown : OwnE B v l w) (A : Option Addr) (m c : Nat) (news : List Ev) (hx : a.eval x = .slice A m c) (hl : news.length = m) (hA : EvSl w A news) (hc : A = none → c = 0)
    (h63 : l.length + m ≤ 1000000) (hB : B ≤ w.heap.size)
    (h : ∀ v' w', OwnE B v' (l ++ news) w' → Below B w w' → wpList Tryd.prog ops Q rest (a.put o.dst v') w') : wpList Tryd.prog ops Q (o :: rest) a w := by
  obtain ⟨i0, hi, hz0, hz1, hz2⟩ := info_parts info_ev
  cases A with
  | none =>
    have hm : m = 0 := by
      refine Nat.eq_zero_of_not_pos fun hp => ?_
      obtain ⟨g, o, h1, _⟩ := hA (by omega)
      cases h1
    obtain rfl := hc rfl
    subst hm
    obtain rfl : news = [] := List.length_eq_zero_iff.1 hl
    refine wpList_append_own_none hgd s x 24 ho B 47 i0 6 Tryd.underlying24 hi v l.length (l.flatMap evc) hs hown.out hx ?_
    exact h v w (by rw [List.append_nil]; exact hown) (Below.refl _ _)
  | some ad =>
    refine wpList_append_own w hgd s x 24 ho B 47 i0 _ 6 48 Tryd.underlying24 hi hz0 hz1 hz2 rfl (by omega) v l.length (l.flatMap evc) hs hown.out ad m c (news.flatMap evc) hx (by rw [flat_len, hl]) ?_ (flat_one news) (by unfold maxLen; omega) (by omega) hB ?_
    · intro j u hu
      obtain ⟨i, y, r, hy, hr, he⟩ := flat_back news j u hu
      obtain ⟨g, o', h1, hat⟩ := hA (by have := (List.getElem?_eq_some_iff.1 hy).1; omega)
      obtain rfl : ad = ⟨g, o', none⟩ := by injection h1
      rw [ad_add, he, ← Nat.add_assoc]
      exact hat i y hy r u hr
    · intro v' w1 hown1 hgrow _
      refine h v' w1 ⟨?_⟩ ((Below.refl B w).grown hgrow hB (fun j hj => (hown.out.lt j hj).1))
      rw [List.flatMap_append, List.length_append, hl]
      exact hown1

theorem run_len (A : Option Addr) (l : List Ev) (n cap : Nat) (hn : n = l.length) (hm : l.length ≤ 140737488355327) (hcap : l.length ≤ cap) (hs : ∀ x ∈ l, x.seq < 18446744073709551616) (w : World) (hA : EvSl w A l) :
    Calls Tryd.prog 19 #[.slice A n cap] w fun e w' => e = .returned (.bool (runL l)) ∧ Below w.heap.size w w' := by
  subst hn
  exact run_any A l cap hm hcap hs w hA

end Go.Proofs.YthhcopeejhhpgaaDoor
