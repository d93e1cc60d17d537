/- The document's rows for the sum of 32 bits hold: what blackboxlaw01.summed returns. -/
import Derived.Test.YtiekchlfoffnaaaCrcA
namespace Go.Proofs.Ytiekchlfoffnaaa
open Go.RowKit Crc

theorem sum_nine : sumOf [49, 50, 51, 52, 53, 54, 55, 56, 57] = 3421780262 := by decide +kernel
theorem sum_none : sumOf [] = 0 := by decide +kernel

theorem summed_any (w : World) : Calls Try.prog 8 #[] w fun e w' => e = .returned (.bool true) ∧ Below w.heap.size w w' := by
  have h9 := Lib.hid sum_nine
  have h0 := Lib.hid sum_none
  go_enter Try.func8, Try.ntmps8
  go_wp2_with fail
  refine (of_any ⟨#[49, 50, 51, 52, 53, 54, 55, 56, 57]⟩ (by decide) _).mono ?_; rintro e w' ⟨rfl, rfl⟩
  simp only [h9.out]
  go_wp2_with fail
  refine (of_any ⟨#[]⟩ (by decide) _).mono ?_; rintro e w' ⟨rfl, rfl⟩
  simp only [h0.out]
  go_wp2_with fail
  refine (start_any _).mono ?_; rintro e w' ⟨rfl, rfl⟩
  go_wp2_with fail
  refine (end_any 4294967295 (by omega) _).mono ?_; rintro e w' ⟨rfl, rfl⟩
  go_wp2_with fail
  go_ret
  exact ⟨rfl, up_alloc (up_alloc (Below.refl _ _) _) _⟩

end Go.Proofs.Ytiekchlfoffnaaa
