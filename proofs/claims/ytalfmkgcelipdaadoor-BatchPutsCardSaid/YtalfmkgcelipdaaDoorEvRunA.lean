/- Rows of events in memory; the contract of event.runsOn. -/
import Derived.Test.YtalfmkgcelipdaaDoorPureRun
import Derived.Test.YtalfmkgcelipdaaDoorEvA
import Derived.Test.YtalfmkgcelipdaaDoorBase
import Derived.Lib.Hide
namespace Go.Proofs.YtalfmkgcelipdaaDoor
open Go.RowKit Wire Evt

/-- An event's cells. -/
def evc (x : Ev) : List Value := [.int .u64 (x.seq : Nat), .int .i64 x.tick, .int .i64 x.part, .int .i64 x.kind, .int .i64 x.a, .int .i64 x.b]

/-- At this place stand these events. -/
def EvAt (w : World) (g o : Nat) (l : List Ev) : Prop := ∀ i x, l[i]? = some x → ∀ j v, (evc x)[j]? = some v → w.cell? ⟨g, o + i * 6 + j, none⟩ = some v

theorem EvAt.up {w w' : World} {g o : Nat} {l : List Ev} (h : EvAt w g o l) (hb : Below w.heap.size w w') : EvAt w' g o l := fun i x hx j v hv => by
  have h1 := h i x hx j v hv
  exact (hb.cell (p := ⟨g, o + i * 6 + j, none⟩) (World.block_lt_of_cell? w _ h1)).trans h1
theorem EvAt.drew {w : World} {g o : Nat} {l : List Ev} (h : EvAt w g o l) : EvAt w.drew g o l := h

/-- A slice with these events. -/
def EvSl (w : World) (A : Option Addr) (l : List Ev) : Prop := 0 < l.length → ∃ g o, A = some ⟨g, o, none⟩ ∧ EvAt w g o l
theorem EvSl.up {w w' : World} {A : Option Addr} {l : List Ev} (h : EvSl w A l) (hb : Below w.heap.size w w') : EvSl w' A l := fun hl => by
  obtain ⟨g, o, rfl, h1⟩ := h hl
  exact ⟨g, o, rfl, h1.up hb⟩

theorem runsOn_nil (A : Option Addr) (c : Nat) (s : Nat) (t p k a b : Int) (w : World) :
    Calls Tryd.prog 35 #[.slice A 0 c, .agg #[.int .u64 (s : Nat), .int .i64 t, .int .i64 p, .int .i64 k, .int .i64 a, .int .i64 b]] w fun e w' => e = .returned (.bool true) ∧ Below w.heap.size w w' := by
  go_enter Tryd.func35, Tryd.ntmps35
  go_wp2_with fail
  go_ret
  exact ⟨rfl, up_alloc (Below.refl _ _) _⟩

set_option maxHeartbeats 1000000 in
theorem runsOn_some (g o n cap : Nat) (hn : n < 281474976710656) (q s : Nat) (hs : s < 18446744073709551616) (t p k a b : Int) (w : World) (hc : w.cell? ⟨g, o + n * 6, none⟩ = some (.int .u64 (q : Nat))) :
    Calls Tryd.prog 35 #[.slice (some ⟨g, o, none⟩) (n + 1) cap, .agg #[.int .u64 (s : Nat), .int .i64 t, .int .i64 p, .int .i64 k, .int .i64 a, .int .i64 b]] w fun e w' => e = .returned (.bool (on q s)) ∧ Below w.heap.size w w' := by
  have hl := World.block_lt_of_cell? w _ hc
  simp only at hl
  have hc' : ∀ x, (w.alloc x).cell? ⟨g, o + n * 6, none⟩ = some (.int .u64 (q : Nat)) := fun x => (World.cell?_alloc_lt w _ _ hl).trans hc
  have d1 : ((n : Int) + 1 == 0) = false := by rw [beq_eq_false_iff_ne]; omega
  by_cases h0 : s = 0
  · subst h0
    have H := Lib.hid (on_no (p := q) (s := 0) (by omega))
    have d : ((0 : Int) != 0) = false := rfl
    clear hc hc'
    go_enter Tryd.func35, Tryd.ntmps35
    go_wp2_with fail
    go_quiet (fail)
    go_wp2_with fail
    go_ret
    exact ⟨by rw [H.out]; rfl, below_drewN (up_alloc (Below.refl _ _) _) _⟩
  · obtain ⟨s', rfl⟩ : ∃ s', s = s' + 1 := ⟨s - 1, by omega⟩
    have d : (((s' : Int) + 1) != 0) = true := by rw [bne_iff_ne]; omega
    have e1 : IntKind.u64.wrap (s' : Int) = (s' : Int) := by rw [IntKind.wrap_u64]; omega
    have e2 : IntKind.i64.wrap (n : Int) = (n : Int) := IntWalk.i64_in _ (by omega)
    have n0 : (0 : Int) ≤ (n : Int) := by omega
    by_cases hq : s' = q
    · subst hq
      have H := Lib.hid (on_yes.2 (show s' + 1 = s' + 1 from rfl))
      clear hc
      go_enter Tryd.func35, Tryd.ntmps35
      go_wp2_with fail
      go_quiet (fail)
      go_wp2_with fail
      go_ret
      exact ⟨by rw [H.out]; rfl, below_drewN (up_alloc (Below.refl _ _) _) _⟩
    · have H := Lib.hid (on_no (p := q) (s := s' + 1) (by omega))
      have d2 : ((s' : Int) == (q : Int)) = false := by rw [beq_eq_false_iff_ne]; omega
      clear hc
      go_enter Tryd.func35, Tryd.ntmps35
      go_wp2_with fail
      go_quiet (fail)
      go_wp2_with fail
      go_ret
      exact ⟨by rw [H.out]; rfl, below_drewN (up_alloc (Below.refl _ _) _) _⟩

theorem runsOn_at {l : List Ev} {k : Nat} (hk : k < l.length) (hl : l.length ≤ 140737488355327) (g o cap : Nat) (s : Nat) (hs : s < 18446744073709551616) (t p kd a b : Int) (w : World) (hev : EvAt w g o l) :
    Calls Tryd.prog 35 #[.slice (some ⟨g, o, none⟩) k cap, .agg #[.int .u64 (s : Nat), .int .i64 t, .int .i64 p, .int .i64 kd, .int .i64 a, .int .i64 b]] w fun e w' => e = .returned (.bool (onB (lastOf none (l.take k)) s)) ∧ Below w.heap.size w w' := by
  cases k with
  | zero => exact runsOn_nil _ _ _ _ _ _ _ _ _
  | succ m =>
    have hy : l[m]? = some l[m] := List.getElem?_eq_getElem (by omega)
    rw [last_succ hy]
    exact runsOn_some g o m cap (by omega) _ s hs t p kd a b w (hev m _ hy 0 _ rfl)

theorem flat_at : ∀ (l : List Ev) (i : Nat) (x : Ev), l[i]? = some x → ∀ j v, (evc x)[j]? = some v → (l.flatMap evc)[i * 6 + j]? = some v
  | [], i, x, h, _, _, _ => by simp at h
  | y :: l, 0, x, h, j, v, hv => by
    obtain rfl : y = x := by simpa using h
    have hj : j < (evc y).length := by
      rcases Nat.lt_or_ge j (evc y).length with h1 | h1
      · exact h1
      · rw [List.getElem?_eq_none h1] at hv; cases hv
    rw [List.flatMap_cons, Nat.zero_mul, Nat.zero_add, List.getElem?_append_left hj]
    exact hv
  | y :: l, i + 1, x, h, j, v, hv => by
    have h' : l[i]? = some x := by simpa using h
    have hl : (evc y).length = 6 := rfl
    rw [List.flatMap_cons, List.getElem?_append_right (by omega), hl, show (i + 1) * 6 + j - 6 = i * 6 + j by omega]
    exact flat_at l i x h' j v hv

theorem EvAt.of_has {w : World} {g : Nat} {l : List Ev} (h : Has w g 50 (l.flatMap evc)) : EvAt w g 0 l := fun i x hx j v hv => by
  rw [Nat.zero_add]
  exact h.at (flat_at l i x hx j v hv)

end Go.Proofs.YtalfmkgcelipdaaDoor
