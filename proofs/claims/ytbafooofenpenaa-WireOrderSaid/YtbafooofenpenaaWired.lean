/- The document's rows for numbers as bytes hold: what blackboxlaw03.wired returns. -/
import Derived.Test.YtbafooofenpenaaWireB
import Derived.Test.YtbafooofenpenaaWireC
namespace Go.Proofs.Ytbafooofenpenaa
open Go.RowKit Wire

theorem w300 : putL 300 = [172, 2] := by rw [putL_ge (by omega), putL_lt (by omega)]; rfl
theorem wtake1 : tk [172, 2, 7] = (300, [7], 0) := by
  have := tk_put (n := 300) (by omega) [7]
  rwa [w300] at this
theorem wtake2 : tk [128, 0] = (0, [], 3) := by rfl

set_option maxRecDepth 100000 in
theorem wired_any (w : World) : Calls Try.prog 12 #[] w fun e w' => e = .returned (.bool true) ∧ Below w.heap.size w w' := by
  have c1 := fun w => take_any ⟨#[172, 2, 7]⟩ (by decide) w
  have c2 := fun w => take_any ⟨#[128, 0]⟩ (by decide) w
  have c3 := fun w => put_any 300 (by omega) w
  rw [show (⟨#[172, 2, 7]⟩ : ByteArray).data.toList = [172, 2, 7] from rfl, wtake1] at c1
  rw [show (⟨#[128, 0]⟩ : ByteArray).data.toList = [128, 0] from rfl, wtake2] at c2
  rw [w300] at c3
  have C1 := Lib.hid c1
  have C2 := Lib.hid c2
  have C3 := Lib.hid c3
  have s1 := fun w => sign_any (-1) (by omega) (by omega) w
  have s2 := fun w => sign_any 1 (by omega) (by omega) w
  have s3 := fun w => signed_any 1 (by omega) w
  rw [show sg (-1) = 1 from rfl] at s1
  rw [show sg 1 = 2 from rfl] at s2
  rw [show sd 1 = -1 from rfl] at s3
  have S1 := Lib.hid s1
  have S2 := Lib.hid s2
  have S3 := Lib.hid s3
  clear c1 c2 c3 s1 s2 s3
  go_enter Try.func12, Try.ntmps12
  go_wp2_with fail
  refine (C1.out _).mono ?_; rintro e w1 ⟨rfl, h1⟩
  go_wp2_with fail
  refine (C2.out _).mono ?_; rintro e w2 ⟨rfl, h2⟩
  go_wp2_with fail
  refine (C3.out _).mono ?_; rintro e w3 ⟨rfl, h3⟩
  go_wp2_with fail
  refine (S1.out _).mono ?_; rintro e w4 ⟨rfl, rfl⟩
  go_wp2_with fail
  refine (S2.out _).mono ?_; rintro e w4 ⟨rfl, rfl⟩
  go_wp2_with fail
  refine (S3.out _).mono ?_; rintro e w4 ⟨rfl, rfl⟩
  go_wp2_with fail
  go_ret
  exact ⟨rfl, up_trans (up_trans h1 h2) h3⟩
end Go.Proofs.Ytbafooofenpenaa
