/- The walk of the law CrcParts: bytes added in two pieces have the sum of the whole. -/
import Derived.Test.YtiekchlfoffnaaaCrcSummed
namespace Go.Proofs.Ytiekchlfoffnaaa
open Go.RowKit Crc

theorem CrcParts_walk (a0 : Int) (a1 : ByteArray) (a2 : ByteArray) (w0 : (Lit.int .u32 a0).wf = true) (z1 : a1.size ≤ 140737488351232) (z2 : a2.size ≤ 140737488351232) (w : World) :
    Calls Try.prog 4 #[.int .u32 a0, .string a1, .string a2] w fun e w' => e = .returned (.bool true) ∧ Below w.heap.size w w' := by
  obtain ⟨n, rfl, hn⟩ := wf_u32 w0
  have hAdd := fun (s : ByteArray) (hs : s.size ≤ 140737488351232 + 140737488351232) (m : Nat) (hm : m < 4294967296) (w : World) => add_any m hm s (by unfold maxLen; omega) w
  have hOf := fun (s : ByteArray) (hs : s.size ≤ 140737488351232 + 140737488351232) (w : World) => of_any s (by unfold maxLen; omega) w
  have hz : (a1 ++ a2).size ≤ 140737488351232 + 140737488351232 := by rw [ByteArray.size_append]; omega
  have hL : (a1 ++ a2).data.toList = a1.data.toList ++ a2.data.toList := by simp
  have hA : ∀ m : Nat, adds m (a1 ++ a2).data.toList = adds (adds m a1.data.toList) a2.data.toList := fun m => by rw [hL, adds_append]
  have hO : sumOf (a1 ++ a2).data.toList = adds (adds 4294967295 a1.data.toList) a2.data.toList ^^^ 4294967295 := by unfold sumOf; rw [hA]
  have hN : adds n (ByteArray.mk #[]).data.toList = n := rfl
  have l1 := adds_lt a1.data.toList hn
  have HA := Lib.hid hA
  have HO := Lib.hid hO
  have HN := Lib.hid hN
  clear hA hO hL hN
  by_cases h1 : 5000 < a1.size + a2.size
  · have h1' : (5000 : Int) < (a1.size : Int) + (a2.size : Int) := by omega
    go_enter Try.func4, Try.ntmps4
    go_wp2_with fail
    go_ret
    exact ⟨rfl, Below.refl _ _⟩
  · have h1' : (a1.size : Int) + (a2.size : Int) ≤ 5000 := by omega
    have h2' : (a1.size : Int) ≤ 5000 := by omega
    go_enter Try.func4, Try.ntmps4
    go_wp2_with fail
    refine (summed_any _).mono ?_; rintro e w1 ⟨rfl, hg⟩
    go_wp2_with fail
    refine (hAdd a1 (by omega) n hn _).mono ?_; rintro e w' ⟨rfl, rfl⟩
    go_wp2_with fail
    refine (hAdd a2 (by omega) _ l1 _).mono ?_; rintro e w' ⟨rfl, rfl⟩
    go_wp2_with fail
    refine (hAdd _ hz n hn _).mono ?_; rintro e w' ⟨rfl, rfl⟩
    rw [HA.out]
    go_wp2_with fail
    refine (hAdd _ (by decide) n hn _).mono ?_; rintro e w' ⟨rfl, rfl⟩
    rw [HN.out]
    go_wp2_with fail
    refine (hOf _ hz _).mono ?_; rintro e w' ⟨rfl, rfl⟩
    rw [HO.out]
    go_wp2_with fail
    refine (start_any _).mono ?_; rintro e w' ⟨rfl, rfl⟩
    go_wp2_with fail
    refine (hAdd a1 (by omega) 4294967295 (by omega) _).mono ?_; rintro e w' ⟨rfl, rfl⟩
    go_wp2_with fail
    refine (hAdd a2 (by omega) _ (adds_lt _ (by omega)) _).mono ?_; rintro e w' ⟨rfl, rfl⟩
    go_wp2_with fail
    refine (end_any _ (adds_lt _ (adds_lt _ (by omega))) _).mono ?_; rintro e w' ⟨rfl, rfl⟩
    go_wp2_with fail
    go_ret
    exact ⟨rfl, by repeat (first | exact hg | refine up_alloc ?_ _)⟩

end Go.Proofs.Ytiekchlfoffnaaa
