/- The walk of the law EventRow: a row runs on just if the document says so. -/
import Derived.Test.YtjiepfcohhbjkaaDoorHappened
import Derived.Test.YtjiepfcohhbjkaaDoorEvRunC
namespace Go.Proofs.YtjiepfcohhbjkaaDoor
open Go.RowKit Wire Evt

set_option maxHeartbeats 4000000 in
set_option maxRecDepth 100000 in
theorem EventRow_core (A : Option Addr) (l : List Ev) (cap : Nat) (hcap : l.length ≤ cap) (hs : ∀ x ∈ l, x.seq < 18446744073709551616) (w : World) (hA : EvSl w A l) (hT : Names w) :
    Calls Tryd.prog 5 #[.slice A l.length cap] w fun e w' => e = .returned (.bool true) ∧ Below w.heap.size w w' := by
  have HA := Lib.hid hA
  have HT := Lib.hid hT
  clear hA hT
  obtain ⟨n, hN⟩ : ∃ n, l.length = n := ⟨_, rfl⟩
  by_cases hl : 500 < n
  · have h : (500 : Int) < (n : Int) := by omega
    rw [hN]
    clear hN hs hcap
    go_enter Tryd.func5, Tryd.ntmps5
    go_wp2_with fail
    go_ret
    exact ⟨rfl, Below.refl _ _⟩
  · have h : ¬ (500 : Int) < (n : Int) := by omega
    have R1 := Lib.hid (fun w h => run_any A l cap (by omega) hcap hs w h)
    have R2 := Lib.hid (fun w h => rrun_any A l cap (by omega) hs w h)
    rw [hN] at R1 R2 ⊢
    generalize runL l = r at *
    clear hN hs hcap hl
    go_enter Tryd.func5, Tryd.ntmps5
    go_wp2_with fail
    refine (happened_any _ HT.out).mono ?_; rintro e w1 ⟨rfl, b1⟩
    go_wp2_with fail
    refine (R1.out _ (HA.out.up b1)).mono ?_; rintro e w2 ⟨rfl, b2⟩
    have B2 := Lib.hid (up_trans b1 b2)
    clear b1 b2
    go_wp2_with fail
    refine (R2.out _ (HA.out.up B2.out)).mono ?_; rintro e w3 ⟨rfl, b3⟩
    go_wp2_with fail
    go_ret
    exact ⟨rfl, up_trans B2.out b3⟩

end Go.Proofs.YtjiepfcohhbjkaaDoor
