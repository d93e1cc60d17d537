/- The walk of the law CrcDoes: bytes have just the document's sum, added to any sum, too. -/
import Derived.Test.YtiekchlfoffnaaaCrcRef
namespace Go.Proofs.Ytiekchlfoffnaaa
open Go.RowKit Crc

theorem CrcDoes_walk (a0 : Int) (a1 : ByteArray) (w0 : (Lit.int .u32 a0).wf = true) (z1 : a1.size ≤ 140737488351232) (w : World) :
    Calls Try.prog 3 #[.int .u32 a0, .string a1] w fun e w' => e = .returned (.bool true) ∧ Below w.heap.size w w' := by
  obtain ⟨a, rfl, ha⟩ := wf_u32 w0
  have hm : a1.size ≤ maxLen := by unfold maxLen; omega
  by_cases h1 : 5000 < a1.size
  · have h1' : (5000 : Int) < (a1.size : Int) := by omega
    go_enter Try.func3, Try.ntmps3
    go_wp2_with fail
    go_ret
    exact ⟨rfl, Below.refl _ _⟩
  · have h1' : (a1.size : Int) ≤ 5000 := by omega
    have hx := u32_xor_nat a 4294967295 ha (by omega)
    simp only [Int.cast_ofNat_Int] at hx
    go_enter Try.func3, Try.ntmps3
    go_wp2_with fail
    refine (summed_any _).mono ?_; rintro e w1 ⟨rfl, hg⟩
    go_wp2_with fail
    refine (of_any a1 hm _).mono ?_; rintro e w' ⟨rfl, rfl⟩
    go_wp2_with fail
    refine (refOf_any a1 hm _).mono ?_; rintro e w' ⟨rfl, rfl⟩
    go_wp2_with fail
    refine (add_any a ha a1 hm _).mono ?_; rintro e w' ⟨rfl, rfl⟩
    go_wp2_with fail
    refine (refAdd_any a ha a1 hm _).mono ?_; rintro e w' ⟨rfl, rfl⟩
    go_wp2_with fail
    refine (end_any a ha _).mono ?_; rintro e w' ⟨rfl, rfl⟩
    go_wp2_with fail
    go_ret
    exact ⟨rfl, by repeat (first | exact hg | refine up_alloc ?_ _)⟩

end Go.Proofs.Ytiekchlfoffnaaa
