/- A text, read as a sum by the document's own answer: contracts of blackboxref02.value and Read. -/
import Derived.Test.YtanjebmpjenmiaaDoorReadA
namespace Go.Proofs.YtanjebmpjenmiaaDoor
open Go.RowKit Word

theorem value_any (c : UInt8) (w : World) : Calls Tryd.prog 23 #[.int .u8 (c.toNat : Int)] w fun e w' => e = .returned (.int .i64 (sv c)) ∧ w = w' := by
  have hc := c.toNat_lt
  have HV := Lib.hid (show sv c = if 48 ≤ c.toNat ∧ c.toNat ≤ 57 then (c.toNat : Int) - 48 else if 97 ≤ c.toNat ∧ c.toNat ≤ 102 then (c.toNat : Int) - 87 else -1 from rfl)
  generalize sv c = v at *
  generalize c.toNat = n at *
  by_cases h1 : 48 ≤ n ∧ n ≤ 57
  · have d1 : decide ((48 : Int) ≤ (n : Int)) = true := by simp; omega
    have d2 : decide ((n : Int) ≤ 57) = true := by simp; omega
    have hv : v = (n : Int) - 48 := by rw [HV.out, if_pos h1]
    have HV2 := Lib.hid hv
    have n1 : (48 : Int) ≤ (n : Int) := by omega
    have n2 : (n : Int) ≤ 57 := by omega
    clear hv h1
    go_enter Tryd.func23, Tryd.ntmps23
    go_wp2_with fail
    go_ret
    exact ⟨by rw [HV2.out]; rfl, rfl⟩
  · by_cases h2 : 97 ≤ n ∧ n ≤ 102
    · have d0 : ¬ (n : Int) ≤ 57 := by omega
      have d2' : decide ((n : Int) ≤ 57) = false := by simp; omega
      have d1 : decide ((48 : Int) ≤ (n : Int)) = true := by simp; omega
      have d3 : decide ((97 : Int) ≤ (n : Int)) = true := by simp; omega
      have d4 : decide ((n : Int) ≤ 102) = true := by simp; omega
      have hv : v = (n : Int) - 87 := by rw [HV.out, if_neg h1, if_pos h2]
      have HV2 := Lib.hid hv
      have n1 : (97 : Int) ≤ (n : Int) := by omega
      have n2 : (n : Int) ≤ 102 := by omega
      clear hv h1 h2
      go_enter Tryd.func23, Tryd.ntmps23
      go_wp2_with fail
      go_ret
      exact ⟨by rw [HV2.out]; simp; omega, rfl⟩
    · have hv : v = -1 := by rw [HV.out, if_neg h1, if_neg h2]
      have HV2 := Lib.hid hv
      clear hv
      by_cases c1 : 48 ≤ n
      · have d1 : decide ((48 : Int) ≤ (n : Int)) = true := by simp; omega
        have d2 : decide ((n : Int) ≤ 57) = false := by simp; omega
        by_cases c2 : 97 ≤ n
        · have d3 : decide ((97 : Int) ≤ (n : Int)) = true := by simp; omega
          have d4 : decide ((n : Int) ≤ 102) = false := by simp; omega
          have n1 : (102 : Int) < (n : Int) := by omega
          clear h1 h2
          go_enter Tryd.func23, Tryd.ntmps23
          go_wp2_with fail
          go_ret
          exact ⟨by rw [HV2.out]; rfl, rfl⟩
        · have d3 : decide ((97 : Int) ≤ (n : Int)) = false := by simp; omega
          have n1 : (57 : Int) < (n : Int) := by omega
          have n2 : (n : Int) < 97 := by omega
          clear h1 h2
          go_enter Tryd.func23, Tryd.ntmps23
          go_wp2_with fail
          go_ret
          exact ⟨by rw [HV2.out]; rfl, rfl⟩
      · have d1 : decide ((48 : Int) ≤ (n : Int)) = false := by simp; omega
        have d3 : decide ((97 : Int) ≤ (n : Int)) = false := by simp; omega
        have n1 : (n : Int) < 48 := by omega
        clear h1 h2
        go_enter Tryd.func23, Tryd.ntmps23
        go_wp2_with fail
        go_ret
        exact ⟨by rw [HV2.out]; rfl, rfl⟩

set_option maxHeartbeats 200000 in
set_option maxRecDepth 100000 in
theorem rread_any (s : ByteArray) (hs : s.size ≤ maxLen) (w : World) : Calls Tryd.prog 13 #[.string s] w fun e w' => e = .returned (.tuple #[.agg (nums .u8 (rdv s.data.toList)).toArray, .int .i64 (rde s.data.toList)]) ∧ Below w.heap.size w w' := by
  unfold maxLen at hs
  have hi : (Tryd.prog.info? 29).map (·.size) = some 32 := by kernel_rfl
  have hu := Tryd.underlying29
  have hzl : (nums .u8 (zeroes 32)).length = 32 := by simp [nums, zeroes]
  by_cases h64 : s.size = 64
  · have ht : ((s.size : Int) != 64) = false := by simp [h64]
    have hsz : 64 ≤ s.size := by omega
    have hL : s.data.toList.length = 64 := by simpa using h64
    have HLen := Lib.hid hL
    have H64 := Lib.hid h64
    clear h64 hL
    go_enter Tryd.func13, Tryd.ntmps13
    go_wp2_with fail
    go_loopw [5, 6, 7] (fun i _ _ wr => ∃ k : Nat, k ≤ 32 ∧ i = .int .i64 k ∧ Hid (∀ j, j < k → okAt s.data.toList j = true) ∧ Has wr w.heap.size 29 (nums .u8 (zeroes 32)) ∧ Has wr (w.heap.size + 1) 29 (nums .u8 (vals s.data.toList k ++ zeroes (32 - k))) ∧ Below w.heap.size w wr) (fun i _ _ _ => 32 - (intOf i).toNat)
    case atStart => exact ⟨0, by omega, rfl, Lib.hid (fun j hj => absurd hj (by omega)), (Has.make w _ _).alloc _, Has.make2 w _ _ _, up_alloc (up_alloc (Below.refl _ _) _) _⟩
    case round =>
      obtain ⟨k, hk, rfl, hok, hR, hW, hb⟩ := hrel
      have HR := Lib.hid hR
      have HW := Lib.hid hW
      have HB := Lib.hid hb
      clear hR hW hb
      by_cases hlt : k < 32
      · have b0 : (2 : Int) * (k : Int) < (s.size : Int) := by omega
        have b1 : (2 : Int) * (k : Int) + 1 < (s.size : Int) := by omega
        have k0 : (0 : Int) ≤ (k : Int) := by omega
        have k1 : (k : Int) < 32 := by omega
        have e0 := IntWalk.i64_in (2 * (k : Int)) (by omega)
        have e1 := IntWalk.i64_in (2 * (k : Int) + 1) (by omega)
        have n0 : (0 : Int) ≤ 2 * (k : Int) := by omega
        have n1 : (0 : Int) ≤ 2 * (k : Int) + 1 := by omega
        have t0 : (2 * (k : Int)).toNat = 2 * k := by omega
        have t1 : (2 * (k : Int) + 1).toNat = 2 * k + 1 := by omega
        have g0 : s[2 * k]'(by omega) = s.data.toList.getD (2 * k) 0 := by
          rw [List.getD_eq_getElem?_getD, List.getElem?_eq_getElem (by rw [HLen.out]; omega)]; rfl
        have g1 : s[2 * k + 1]'(by omega) = s.data.toList.getD (2 * k + 1) 0 := by
          rw [List.getD_eq_getElem?_getD, List.getElem?_eq_getElem (by rw [HLen.out]; omega)]; rfl
        have hOk := Lib.hid (show okAt s.data.toList k = (decide (0 ≤ sv (s.data.toList.getD (2 * k) 0)) && decide (0 ≤ sv (s.data.toList.getD (2 * k + 1) 0))) from rfl)
        have hVal := Lib.hid (show valAt s.data.toList k = 16 * (sv (s.data.toList.getD (2 * k) 0)).toNat + (sv (s.data.toList.getD (2 * k + 1) 0)).toNat from rfl)
        generalize s.data.toList.getD (2 * k) 0 = ca at *
        generalize s.data.toList.getD (2 * k + 1) 0 = cb at *
        have ga := sv_ge ca
        have gb := sv_ge cb
        have la := sv_lt ca
        have lb := sv_lt cb
        go_wp2_with fail
        refine (value_any _ _).mono ?_; rintro e w' ⟨rfl, rfl⟩
        go_wp2_with fail
        refine (value_any _ _).mono ?_; rintro e w' ⟨rfl, rfl⟩
        clear e0 e1 n0 n1 t0 t1 g0 g1 b0 b1
        by_cases ha : sv ca < 0
        · have d1 : decide (sv ca < 0) = true := by simpa using ha
          have HG := Lib.hid (rdv_bad (bad_at s.data.toList k hlt (by rw [hOk.out]; simp; omega)))
          have HBn := HB
          go_wp2_with (refine wpList_store_whole rfl 29 _ _ rfl w.heap.size 29 (nums .u8 (zeroes 32)) (nums .u8 (zeroes 32)) (by rfl) (by rfl) HR.out (by rfl) (by rw [hi, hzl]) (nums_one _ _) ?_; intro w5 hF hO5)
          refine bodyPost_ret_by (results_sum Tryd.results13 _ _ w.heap.size (zeroes 32) (.int .i64 3) (by rfl) hF (by simp [zeroes]) (by rfl)) rfl ⟨by rw [HG.out.1, HG.out.2], hO5.below (Nat.le_refl _) HBn.out⟩
        · by_cases hb : sv cb < 0
          · have d1 : decide (sv ca < 0) = false := by simpa using ha
            have d2 : decide (sv cb < 0) = true := by simpa using hb
            have HG := Lib.hid (rdv_bad (bad_at s.data.toList k hlt (by rw [hOk.out]; simp; omega)))
            have HBn := HB
            go_wp2_with (refine wpList_store_whole rfl 29 _ _ rfl w.heap.size 29 (nums .u8 (zeroes 32)) (nums .u8 (zeroes 32)) (by rfl) (by rfl) HR.out (by rfl) (by rw [hi, hzl]) (nums_one _ _) ?_; intro w5 hF hO5)
            refine bodyPost_ret_by (results_sum Tryd.results13 _ _ w.heap.size (zeroes 32) (.int .i64 3) (by rfl) hF (by simp [zeroes]) (by rfl)) rfl ⟨by rw [HG.out.1, HG.out.2], hO5.below (Nat.le_refl _) HBn.out⟩
          · have d1 : decide (sv ca < 0) = false := by simpa using ha
            have d2 : decide (sv cb < 0) = false := by simpa using hb
            have HOK := Lib.hid (show ∀ j, j < k + 1 → okAt s.data.toList j = true from fun j hj => by
              by_cases h : j < k
              · exact hok.out j h
              · obtain rfl : j = k := by omega
                rw [hOk.out]; simp; omega)
            have HVS := Lib.hid (vals_set s.data.toList k hlt)
            have x1 := HW.out.free k
            have x2 := HW.out.at (vals_at s.data.toList k hlt)
            obtain ⟨a, ea⟩ := Int.eq_ofNat_of_zero_le (show 0 ≤ sv ca by omega)
            obtain ⟨b, eb⟩ := Int.eq_ofNat_of_zero_le (show 0 ≤ sv cb by omega)
            rw [ea, eb] at hVal
            simp only [Int.toNat_natCast] at hVal
            rw [ea] at la ga ha d1
            rw [eb] at lb gb hb d2
            rw [ea, eb]
            clear ea eb hOk
            rw [hVal.out] at HVS
            clear hVal
            have l1 : (a : Int) < 16 := la
            have l2 : (b : Int) < 16 := lb
            have hm : 16 * (a : Int) + (b : Int) = ((16 * a + b : Nat) : Int) := by omega
            have HVT := Lib.hid (show (nums .u8 (vals s.data.toList k ++ zeroes (32 - k))).set k (.int .u8 (16 * (a : Int) + (b : Int))) = nums .u8 (vals s.data.toList (k + 1) ++ zeroes (32 - (k + 1))) by rw [hm]; exact HVS.out)
            clear hm
            have HBn := HB
            go_wp2_with fail
            go_roundw
            case rel =>
              exact ⟨k + 1, by omega, by go_num, HOK, HR.out.other (p := ⟨w.heap.size + 1, k, none⟩) (by simp) _, (congrArg (Has _ (w.heap.size + 1) _) HVT.out).mp (HW.out.set k _), HBn.out.setCell (p := ⟨w.heap.size + 1, k, none⟩) (by simp) _⟩
            case measure => simp [intOf]; omega
      · obtain rfl : k = 32 := by omega
        have HG := Lib.hid (rdv_good (good_of s.data.toList HLen.out (fun i hi => hok.out i hi)))
        go_wp2_with (first
          | (refine wpList_load_row rfl 29 _ rfl (w.heap.size + 1) (by rfl) _ _ _ _ HW.out hu rfl (by rw [hi]; simp [nums, vals_length, zeroes]) ?_)
          | (refine wpList_store_whole rfl 29 _ _ rfl w.heap.size 29 (nums .u8 (zeroes 32)) (nums .u8 (vals s.data.toList 32)) (by rfl) (by rfl) HR.out (by simp [nums, vals_length, zeroes]) (by rw [hi]; simp [nums, vals_length]) (nums_one _ _) ?_; intro w5 hF hO5))
        refine bodyPost_ret_by (results_sum Tryd.results13 _ _ w.heap.size (vals s.data.toList 32) (.int .i64 0) (by rfl) hF (vals_length _ _) (by rfl)) rfl ⟨by rw [HG.out.1, HG.out.2], hO5.below (Nat.le_refl _) HB.out⟩
  · have HG := Lib.hid (rdv_bad (bad_len s.data.toList (by simpa using h64)))
    have ht : ((s.size : Int) != 64) = true := by rw [bne_iff_ne]; omega
    clear h64
    go_enter Tryd.func13, Tryd.ntmps13
    go_wp2_with (first | (refine wpList_load_row rfl 29 _ rfl (w.heap.size + 1) (by rfl) _ _ _ _ (Has.make2 w _ 29 (nums .u8 (zeroes 32))) hu rfl (by rw [hi]; rfl) ?_) | refine wpList_store_whole rfl 29 _ _ rfl w.heap.size 29 (nums .u8 (zeroes 32)) (nums .u8 (zeroes 32)) (by rfl) (by rfl) ((Has.make w _ _).alloc _) (by rfl) (by rw [hi, hzl]) (nums_one _ _) ?_; intro w5 hF hO5)
    refine bodyPost_ret_by (results_sum Tryd.results13 _ _ w.heap.size (zeroes 32) (.int .i64 3) (by rfl) hF (by simp [zeroes]) (by rfl)) rfl ⟨by rw [HG.out.1, HG.out.2], hO5.below (Nat.le_refl _) (up_alloc (up_alloc (Below.refl _ _) _) _)⟩
end Go.Proofs.YtanjebmpjenmiaaDoor
