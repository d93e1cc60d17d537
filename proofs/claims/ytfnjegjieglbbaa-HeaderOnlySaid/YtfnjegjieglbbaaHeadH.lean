/- What every law of heads and supers asks first: the contract of headed; heads and supers that are compared. -/
import Derived.Test.YtfnjegjieglbbaaHeadC
import Derived.Test.YtfnjegjieglbbaaHeadD
import Derived.Laws.Tables
namespace Go.Proofs.Ytfnjegjieglbbaa
open Go.RowKit Wire Crc Head

def exH : Hd := ⟨3, 258, z32⟩
def exS (n : Nat) : Sp := ⟨n, 0, 0, z32, 0, 0, 0, z32⟩
theorem exH_fits : exH.Fits := ⟨by decide, by decide, z32_length⟩
theorem exS_fits {n : Nat} (h : n < 18446744073709551616) : (exS n).Fits := have z : (0 : Nat) < 18446744073709551616 := by decide
  ⟨h, z, z, z32_length, z, z, z, z32_length⟩
theorem exH_front : (putH exH).take 17 = [72, 0, 0, 0, 0, 0, 0, 0, 3, 0, 0, 0, 0, 0, 0, 1, 2] := by
  have e : putH exH = [72, 0, 0, 0, 0, 0, 0, 0, 3, 0, 0, 0, 0, 0, 0, 1, 2] ++ (z32 ++ z11 ++ fx (sumOf (frontH exH)) 4) := by
    have e1 : fx 3 8 = [0, 0, 0, 0, 0, 0, 0, 3] := by decide
    have e2 : fx 258 8 = [0, 0, 0, 0, 0, 0, 1, 2] := by decide
    show 72 :: (fx 3 8 ++ (fx 258 8 ++ (z32 ++ z11))) ++ _ = _
    rw [e1, e2]
    simp
  rw [e]
  rfl
theorem min_225 (W : World) : (Builtin.min_ #[3, 3] 3 #[.int .i64 226, .int .i64 225]).run Try.prog W = .ok (.int .i64 225) W := by
  simp [Builtin.min_, Builtin.min2]

set_option maxHeartbeats 2000000 in
set_option maxRecDepth 100000 in
theorem headed_any (w : World) : Calls Try.prog 11 #[] w fun e w' => e = .returned (.bool true) ∧ Below w.heap.size w w' := by
  have zv := zero_super
  have hz : (hdc noH).length = 34 := hdc_length noH_fits
  have hz2 : (spc noS).length = 70 := spc_length noS_fits
  have hi := info_head
  have hi2 := info_super
  obtain ⟨S, hS⟩ : ∃ S : ByteArray, S = ⟨(putH exH).toArray⟩ := ⟨_, rfl⟩
  obtain ⟨T, hT⟩ : ∃ T : ByteArray, T = ⟨(putS (exS 1)).toArray⟩ := ⟨_, rfl⟩
  have c1 := fun w => phead_any exH exH_fits w
  have c2 := fun w => psuper_any (exS 1) (exS_fits (by decide)) w
  rw [← hS] at c1
  rw [← hT] at c2
  have zS : S.size = 64 := by rw [hS, text_list, putH_len exH_fits]
  have zT : T.size = 226 := by rw [hT, text_list, putS_len (exS_fits (by decide))]
  have d1 : ((S.extract 0 17).toList == [72, 0, 0, 0, 0, 0, 0, 0, 3, 0, 0, 0, 0, 0, 0, 1, 2]) = true := same_list (by
    rw [head_of, hS]; exact exH_front)
  have c3 := fun w => ghead_any T (by rw [zT]; unfold maxLen; omega) w
  have g3 : gotH T.data.toList = (noH, 3) := by
    have := gotH_super (exS_fits (n := 1) (by decide)) []
    rw [List.append_nil] at this
    rw [hT]; exact this
  rw [g3] at c3
  have c4 := fun w => gsuper_any (T.extract 0 225) (by rw [head_of, text_list, List.length_take]; unfold maxLen; omega) w
  have g4 : gotS (T.extract 0 225).data.toList = (noS, 4) := gotS_no (errS_few (by rw [head_of]; show (T.data.toList.take 225).length < 226; rw [List.length_take]; omega)) (by decide)
  rw [g4] at c4
  have hm := min_225
  have C1 := Lib.hid c1
  have C2 := Lib.hid c2
  have C3 := Lib.hid c3
  have C4 := Lib.hid c4
  have C5 := Lib.hid (fun w => newer_any (exS 2) (exS 1) w)
  clear c1 c2 c3 c4 g3 g4 hS hT
  go_enter Try.func11, Try.ntmps11
  go_wp2_with fail
  refine (C1.out _).mono ?_; rintro e w1 ⟨rfl, b1⟩
  go_wp2_with fail
  refine (C2.out _).mono ?_; rintro e w2 ⟨rfl, b2⟩
  replace b2 := up_trans b1 b2
  go_wp2_with fail
  refine (C3.out _).mono ?_; rintro e w3 ⟨rfl, b3⟩
  replace b3 := up_trans b2 b3
  go_wp2_with (refine wpList_store_whole rfl 26 _ _ rfl w3.heap.size 26 (hdc noH) (hdc noH) (by rfl) (by rfl) (Has.make w3 _ (hdc noH)) rfl (by rw [hi, hz]) (hdc_one _) ?_; intro w4 hF4 hO4)
  have b4 := hO4.below b3.size (up_alloc b3 _)
  refine (C4.out _).mono ?_; rintro e w5 ⟨rfl, b5⟩
  replace b5 := up_trans b4 b5
  go_wp2_with (refine wpList_store_whole rfl 34 _ _ rfl w5.heap.size 34 (spc noS) (spc noS) (by rfl) (by rfl) (Has.make w5 _ (spc noS)) rfl (by rw [hi2, hz2]) (spc_one _) ?_; intro w6 hF6 hO6)
  have b6 := hO6.below b5.size (up_alloc b5 _)
  refine (C5.out _).mono ?_; rintro e w7 ⟨rfl, b7⟩
  go_wp2_with fail
  go_ret
  exact ⟨rfl, up_trans b6 b7⟩

end Go.Proofs.Ytfnjegjieglbbaa
