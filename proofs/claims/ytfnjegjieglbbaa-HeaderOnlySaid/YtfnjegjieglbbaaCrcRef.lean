/- The document's own answer for the sum of 32 bits returns the same plain functions: contracts of blackboxref01.Add and Of. -/
import Derived.Test.YtfnjegjieglbbaaCrcA
namespace Go.Proofs.Ytfnjegjieglbbaa
open Go.RowKit Crc

theorem hvs_hid (m : Nat) : Hid (hvs 0 m = m ∧ ∀ j, hvs (j + 1) m = hv (hvs j m)) := Lib.hid ⟨rfl, fun _ => rfl⟩

set_option maxRecDepth 100000 in
theorem refAdd_any (n : Nat) (hn : n < 4294967296) (s : ByteArray) (hs : s.size ≤ maxLen) (w : World) :
    Calls Try.prog 51 #[.int .u32 n, .string s] w fun e w' => e = .returned (.int .u32 (adds n s.data.toList : Nat)) ∧ w = w' := by
  unfold maxLen at hs
  have hE := Lib.hid (show adds n s.data.toList = adds n (s.data.toList.take s.size) from by rw [List.take_of_length_le (by simp)])
  have hZ := Lib.hid (show adds n (s.data.toList.take 0) = n from rfl)
  have hL := fun k => adds_lt (s.data.toList.take k) hn
  have h8 : ∀ (m : Nat) (c : UInt8), Hid (ad m c = hvs 8 (m ^^^ c.toNat)) := fun m c => Lib.hid rfl
  have h0 : ∀ m : Nat, Hid (hvs 0 m = m) := fun m => Lib.hid rfl
  go_enter Try.func51, Try.ntmps51
  go_wp2_with fail
  go_loop [0, 5] (fun t i => ∃ k : Nat, k ≤ s.size ∧ i = .int .i64 k ∧ t = .int .u32 (adds n (s.data.toList.take k) : Nat)) (fun _ i => s.size - (intOf i).toNat)
  case atStart => exact ⟨0, by omega, rfl, by rw [hZ.out]⟩
  case round =>
    obtain ⟨k, hk, rfl, rfl⟩ := hrel
    have hk' := hL k
    by_cases hlt : k < s.size
    · have hS := Lib.hid (adds_take_succ n s.data.toList k (by simpa using hlt))
      have hx := u32_xor_byte _ hk' s[k]
      have hX := xor_lt hk' (byte_lt s[k])
      have hb := s[k].toNat_lt
      have hA := Lib.hid (show ad (adds n (s.data.toList.take k)) (s.data.toList[k]'(by simpa using hlt)) = hvs 8 (adds n (s.data.toList.take k) ^^^ s[k].toNat) from rfl)
      go_wp2_with fail
      clear hx
      have hH := hvs_hid (adds n (s.data.toList.take k) ^^^ s[k].toNat)
      have hL8 := fun j => hvs_lt j hX
      generalize adds n (s.data.toList.take k) ^^^ s[k].toNat = m at *
      go_loop [0, 6] (fun t i => ∃ j : Nat, j ≤ 8 ∧ i = .int .i64 j ∧ t = .int .u32 (hvs j m : Nat)) (fun _ i => 8 - (intOf i).toNat)
      case atStart => exact ⟨0, by omega, rfl, by rw [hH.out.1]⟩
      case round =>
        obtain ⟨j, hj, rfl, rfl⟩ := hrel
        have hj' := hL8 j
        have hSt := Lib.hid (hH.out.2 j)
        by_cases hlt8 : j < 8
        · by_cases hodd : hvs j m % 2 = 1
          · have hT := Lib.hid (show hv (hvs j m) = hvs j m / 2 ^^^ 3988292384 from if_pos hodd)
            have hx2 := u32_half_turned _ hj'
            have hodd' : ((hvs j m : Nat) : Int) % 2 = 1 := by omega
            clear hodd
            generalize hvs j m = q at *
            go_wp2_with fail
            go_round
            case rel => exact ⟨j + 1, by omega, by go_num, by rw [hSt.out, hT.out]⟩
            case measure => simp [intOf]; omega
          · have hT := Lib.hid (show hv (hvs j m) = hvs j m / 2 from if_neg hodd)
            have hodd' : ((hvs j m : Nat) : Int) % 2 = 0 := by omega
            clear hodd
            generalize hvs j m = q at *
            go_wp2_with fail
            go_round
            case rel => exact ⟨j + 1, by omega, by go_num, by rw [hSt.out, hT.out]; rfl⟩
            case measure => simp [intOf]; omega
        · obtain rfl : j = 8 := by omega
          go_wp2_with fail
          go_round
          case rel => exact ⟨k + 1, by omega, by go_num, by rw [hS.out, hA.out]⟩
          case measure => simp [intOf]; omega
    · obtain rfl : k = s.size := by omega
      go_wp2
      go_ret
      exact ⟨by rw [hE.out]; rfl, rfl⟩

theorem refOf_any (s : ByteArray) (hs : s.size ≤ maxLen) (w : World) :
    Calls Try.prog 38 #[.string s] w fun e w' => e = .returned (.int .u32 (sumOf s.data.toList : Nat)) ∧ w = w' := by
  have hx := Lib.hid (u32_xor_nat (adds 4294967295 s.data.toList) 4294967295 (adds_lt _ (by omega)) (by omega))
  have hE := Lib.hid (show sumOf s.data.toList = adds 4294967295 s.data.toList ^^^ 4294967295 from rfl)
  go_enter Try.func38, Try.ntmps38
  go_wp2_with fail
  refine (refAdd_any 4294967295 (by omega) s hs _).mono ?_; rintro e w' ⟨rfl, rfl⟩
  go_wp2_with fail
  go_ret
  exact ⟨by rw [hE.out, ← hx.out]; rfl, rfl⟩

end Go.Proofs.Ytfnjegjieglbbaa
