/- The walk of the law EventGets: bytes are just the document's event, or none. -/
import Derived.Test.YtjiepfcohhbjkaaDoorHappened
import Derived.Test.YtjiepfcohhbjkaaDoorEvGetR
import Derived.Laws.StructEq
namespace Go.Proofs.YtjiepfcohhbjkaaDoor
open Go.RowKit Wire Evt

set_option maxHeartbeats 4000000 in
set_option maxRecDepth 100000 in
theorem EventGets_core (x : ByteArray) (w : World) (hT : Names w) :
    Calls Tryd.prog 4 #[.string x] w fun e w' => e = .returned (.bool true) ∧ Below w.heap.size w w' := by
  by_cases hl : 1000 < x.size
  · have h : (1000 : Int) < (x.size : Int) := by omega
    go_enter Tryd.func4, Tryd.ntmps4
    go_wp2_with fail
    go_ret
    exact ⟨rfl, Below.refl _ _⟩
  · have h : ¬ (1000 : Int) < (x.size : Int) := by omega
    have g1 := fun w => get_any x (by omega) w
    have g2 := fun w => rget_any x (by omega) w
    generalize got x.data.toList = q at g1 g2
    obtain ⟨s, t, p, k, a, b, e⟩ := q
    simp only [ans] at g1 g2
    have G1 := Lib.hid g1
    have G2 := Lib.hid g2
    have HT := Lib.hid hT
    clear g1 g2 hT hl
    go_enter Tryd.func4, Tryd.ntmps4
    go_wp2_with fail
    refine (G1.out _).mono ?_; rintro e w1 ⟨rfl, b1⟩
    have B1 := Lib.hid b1
    clear b1
    go_wp2_with fail
    refine (G2.out _).mono ?_; rintro e w2 ⟨rfl, b2⟩
    have X1 := (Has.make w1 24 [.int .u64 (s : Nat), .int .i64 t, .int .i64 p, .int .i64 k, .int .i64 a, .int .i64 b]).up b2
    have B2 := Lib.hid (up_trans (up_alloc B1.out _) b2)
    have HX := Lib.hid X1
    clear b2 X1
    go_wp2_with fail
    refine (happened_any _ (HT.out.up (up_alloc B2.out _))).mono ?_; rintro e w3 ⟨rfl, b3⟩
    have X1 := (HX.out.alloc _).up b3
    have X2 := (Has.make w2 24 [.int .u64 (s : Nat), .int .i64 t, .int .i64 p, .int .i64 k, .int .i64 a, .int .i64 b]).up b3
    have c0 := X1.at (i := 0) rfl
    have c1 := X1.at (i := 1) rfl
    have c2 := X1.at (i := 2) rfl
    have c3 := X1.at (i := 3) rfl
    have c4 := X1.at (i := 4) rfl
    have c5 := X1.at (i := 5) rfl
    have d0 := X2.at (i := 0) rfl
    have d1 := X2.at (i := 1) rfl
    have d2 := X2.at (i := 2) rfl
    have d3 := X2.at (i := 3) rfl
    have d4 := X2.at (i := 4) rfl
    have d5 := X2.at (i := 5) rfl
    have B3 := Lib.hid (up_trans (up_alloc B2.out _) b3)
    clear X1 X2 b3
    go_wp2_with fail
    go_ret
    exact ⟨rfl, B3.out⟩

end Go.Proofs.YtjiepfcohhbjkaaDoor
