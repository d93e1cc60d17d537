/- Right events: contracts of event.isKind, event.isArg, event.Is, event.small and the document's own Is. -/
import Derived.Test.YthhcopeejhhpgaaDoorPureEv
import Derived.Test.YthhcopeejhhpgaaDoorBase
import Derived.Deep.QuietTactic
import Derived.BigQuiet
namespace Go.Proofs.YthhcopeejhhpgaaDoor
open Go.RowKit Wire Evt

theorem isKind_any (k : Int) (w : World) : Calls Tryd.prog 53 #[.int .i64 k] w fun e w' => e = .returned (.bool (isK k)) ∧ w = w' := by
  have H := Lib.hid (show isK k = (decide (1 ≤ k) && decide (k ≤ 8)) from rfl)
  cases h1 : decide (1 ≤ k) <;> cases h2 : decide (k ≤ 8)
  all_goals
    go_enter Tryd.func53, Tryd.ntmps53
    go_wp2
    go_ret
    exact ⟨by rw [H.out, h1, h2]; rfl, rfl⟩

theorem isArg_any (n : Int) (w : World) : Calls Tryd.prog 54 #[.int .i64 n] w fun e w' => e = .returned (.bool (isG n)) ∧ w = w' := by
  have H := Lib.hid (show isG n = (decide (0 ≤ n) && decide (n ≤ 4294967295)) from rfl)
  cases h1 : decide (0 ≤ n) <;> cases h2 : decide (n ≤ 4294967295)
  all_goals
    go_enter Tryd.func54, Tryd.ntmps54
    go_wp2
    go_ret
    exact ⟨by rw [H.out, h1, h2]; rfl, rfl⟩

set_option maxRecDepth 100000 in
theorem is_any (s : Nat) (t p k a b : Int) (w : World) :
    Calls Tryd.prog 31 #[.agg #[.int .u64 (s : Nat), .int .i64 t, .int .i64 p, .int .i64 k, .int .i64 a, .int .i64 b]] w fun e w' => e = .returned (.bool (isE t p k a b)) ∧ Below w.heap.size w w' := by
  have H := Lib.hid (show isE t p k a b = (isK k && decide (0 ≤ t) && decide (t ≤ 1099511627776) && decide (-1 ≤ p) && decide (p < 32) && isG a && isG b) from rfl)
  rcases isE_ways t p k a with d1 | ⟨d1, d2⟩ | ⟨d1, d2, d3⟩ | ⟨d1, d2, d3, d4⟩ | ⟨d1, d2, d3, d4, d5⟩ | ⟨d1, d2, d3, d4, d5, d6⟩ | ⟨d1, d2, d3, d4, d5, d6⟩
  all_goals
    go_enter Tryd.func31, Tryd.ntmps31
    go_wp2_with (first | (go_at_call 53; refine (isKind_any _ _).mono ?_; rintro e w1 ⟨rfl, rfl⟩) | (go_at_call 54; refine (isArg_any _ _).mono ?_; rintro e w1 ⟨rfl, rfl⟩))
    go_ret
    refine ⟨?_, up_alloc (Below.refl _ _) _⟩
    rw [H.out]
    first | rw [d1, d2, d3, d4, d5, d6] | rw [d1, d2, d3, d4, d5] | rw [d1, d2, d3, d4] | rw [d1, d2, d3] | rw [d1, d2] | rw [d1]
    rfl

set_option maxRecDepth 100000 in
theorem ris_any (s : Nat) (t p k a b : Int) (w : World) :
    Calls Tryd.prog 69 #[.agg #[.int .u64 (s : Nat), .int .i64 t, .int .i64 p, .int .i64 k, .int .i64 a, .int .i64 b]] w fun e w' => e = .returned (.bool (isE t p k a b)) ∧ Below w.heap.size w w' := by
  have H := Lib.hid (isE_two t p k a b)
  rcases isE_ways2 t p k a b with d1 | ⟨d1, d2⟩ | ⟨d1, d2, d3⟩ | ⟨d1, d2, d3, d4⟩ | ⟨d1, d2, d3, d4, d5⟩ | ⟨d1, d2, d3, d4, d5, d6⟩ | ⟨d1, d2, d3, d4, d5, d6, d7⟩ | ⟨d1, d2, d3, d4, d5, d6, d7, d8⟩ | ⟨d1, d2, d3, d4, d5, d6, d7, d8, d9⟩ | ⟨d1, d2, d3, d4, d5, d6, d7, d8, d9⟩
  all_goals
    go_enter Tryd.func69, Tryd.ntmps69
    go_wp2_with fail
    go_ret
    refine ⟨?_, up_alloc (Below.refl _ _) _⟩
    rw [H.out]
    first | rw [d1, d2, d3, d4, d5, d6, d7, d8, d9] | rw [d1, d2, d3, d4, d5, d6, d7, d8] | rw [d1, d2, d3, d4, d5, d6, d7] | rw [d1, d2, d3, d4, d5, d6] | rw [d1, d2, d3, d4, d5] | rw [d1, d2, d3, d4] | rw [d1, d2, d3] | rw [d1, d2] | rw [d1]
    rfl

theorem small_any (n : Nat) (hn : n < 18446744073709551616) (w : World) : Calls Tryd.prog 101 #[.int .u64 (n : Nat)] w fun e w' => e = .returned (.int .i64 (sm n)) ∧ w = w' := by
  by_cases h : 1099511627776 < n
  · have H := Lib.hid (show sm n = -2 by rw [sm, if_pos h])
    have h' : (1099511627776 : Int) < (n : Int) := by omega
    go_enter Tryd.func101, Tryd.ntmps101
    go_wp2
    go_ret
    exact ⟨by rw [H.out]; rfl, rfl⟩
  · have H := Lib.hid (show sm n = n by rw [sm, if_neg h])
    have h' : ¬ (1099511627776 : Int) < (n : Int) := by omega
    have hw := IntWalk.i64_in (n : Int) (by omega)
    go_enter Tryd.func101, Tryd.ntmps101
    go_wp2
    go_ret
    exact ⟨by rw [H.out]; rfl, rfl⟩

end Go.Proofs.YthhcopeejhhpgaaDoor
