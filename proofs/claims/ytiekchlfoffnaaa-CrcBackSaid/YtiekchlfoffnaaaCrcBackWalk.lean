/- The walk of the law CrcBack: no two sums become one by the same bytes. -/
import Derived.Test.YtiekchlfoffnaaaCrcSummed
namespace Go.Proofs.Ytiekchlfoffnaaa
open Go.RowKit Crc

theorem not_not_u32 (n : Nat) : (n ^^^ 4294967295) ^^^ 4294967295 = n := by rw [Nat.xor_assoc, Nat.xor_self, Nat.xor_zero]

theorem CrcBack_walk (a0 : Int) (a1 : Int) (a2 : ByteArray) (w0 : (Lit.int .u32 a0).wf = true) (w1 : (Lit.int .u32 a1).wf = true) (z2 : a2.size ≤ 140737488351232) (w : World) :
    Calls Try.prog 7 #[.int .u32 a0, .int .u32 a1, .string a2] w fun e w' => e = .returned (.bool true) ∧ Below w.heap.size w w' := by
  obtain ⟨a, rfl, ha⟩ := wf_u32 w0
  obtain ⟨b, rfl, hb⟩ := wf_u32 w1
  have hNN := Lib.hid (not_not_u32 a)
  by_cases h1 : 5000 < a2.size
  · have h1' : (5000 : Int) < (a2.size : Int) := by omega
    go_enter Try.func7, Try.ntmps7
    go_wp2_with fail
    go_ret
    exact ⟨rfl, Below.refl _ _⟩
  · have h1' : (a2.size : Int) ≤ 5000 := by omega
    have hm : a2.size ≤ maxLen := by unfold maxLen; omega
    by_cases hab : a = b
    · subst hab
      go_enter Try.func7, Try.ntmps7
      go_wp2_with fail
      refine (summed_any _).mono ?_; rintro e w1 ⟨rfl, hg⟩
      go_wp2_with fail
      refine (add_any a ha a2 hm _).mono ?_; rintro e w' ⟨rfl, rfl⟩
      go_wp2_with fail
      refine (add_any a ha a2 hm _).mono ?_; rintro e w' ⟨rfl, rfl⟩
      go_wp2_with fail
      refine (end_any a ha _).mono ?_; rintro e w' ⟨rfl, rfl⟩
      go_wp2_with fail
      refine (end_any _ (xor_lt ha (by omega)) _).mono ?_; rintro e w' ⟨rfl, rfl⟩
      rw [hNN.out]
      go_wp2_with fail
      go_ret
      exact ⟨rfl, by repeat (first | exact hg | refine up_alloc ?_ _)⟩
    · have hne : (((adds a a2.data.toList : Nat) : Int) == ((adds b a2.data.toList : Nat) : Int)) = false := by
        rw [beq_eq_false_iff_ne]
        intro h
        exact hab (adds_inj a2.data.toList ha hb (by omega))
      have hne2 : ((a : Int) == (b : Int)) = false := by rw [beq_eq_false_iff_ne]; omega
      clear hab
      go_enter Try.func7, Try.ntmps7
      go_wp2_with fail
      refine (summed_any _).mono ?_; rintro e w1 ⟨rfl, hg⟩
      go_wp2_with fail
      refine (add_any a ha a2 hm _).mono ?_; rintro e w' ⟨rfl, rfl⟩
      go_wp2_with fail
      refine (add_any b hb a2 hm _).mono ?_; rintro e w' ⟨rfl, rfl⟩
      go_wp2_with fail
      refine (end_any a ha _).mono ?_; rintro e w' ⟨rfl, rfl⟩
      go_wp2_with fail
      refine (end_any _ (xor_lt ha (by omega)) _).mono ?_; rintro e w' ⟨rfl, rfl⟩
      rw [hNN.out]
      go_wp2_with fail
      go_ret
      exact ⟨rfl, by repeat (first | exact hg | refine up_alloc ?_ _)⟩

end Go.Proofs.Ytiekchlfoffnaaa
