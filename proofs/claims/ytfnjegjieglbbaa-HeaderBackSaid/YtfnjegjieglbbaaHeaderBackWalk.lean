/- The walk of the law HeaderBack: what is put is got again, whatever stands behind it; a head is no super, and a super no head. -/
import Derived.Test.YtfnjegjieglbbaaHeadG
import Derived.Test.YtfnjegjieglbbaaHeadH
import Derived.Test.YtfnjegjieglbbaaHeadEq
namespace Go.Proofs.Ytfnjegjieglbbaa
open Go.RowKit Wire Crc Head

set_option maxHeartbeats 4000000 in
set_option maxRecDepth 100000 in
theorem HeaderBack_core (h : Hd) (x : Sp) (hf : h.Fits) (kf : x.Fits) (s : ByteArray) (_hs : s.size ≤ maxLen) (w : World) :
    Calls Try.prog 5 #[.agg (hdc h).toArray, .agg (spc x).toArray, .string s] w fun e w' => e = .returned (.bool true) ∧ Below w.heap.size w w' := by
  have HX := Lib.hid ((Has.make w 26 (hdc h)).alloc (.cells (spc x).toArray 34))
  have HY := Lib.hid (Has.make2 w (.cells (hdc h).toArray 26) 34 (spc x))
  by_cases h1 : 1000 < s.size
  · have d : (1000 : Int) < (s.size : Int) := by omega
    generalize hdc h = L at *
    generalize spc x = N at *
    have B1 := Lib.hid (up_alloc (up_alloc (Below.refl w.heap.size w) (.cells L.toArray 26)) (.cells N.toArray 34))
    go_enter Try.func5, Try.ntmps5
    go_wp2_with fail
    go_ret
    exact ⟨rfl, B1.out⟩
  have d : ¬ (1000 : Int) < (s.size : Int) := by omega
  have zv := zero_super
  have hz : (hdc noH).length = 34 := hdc_length noH_fits
  have hz2 : (spc noS).length = 70 := spc_length noS_fits
  have hi := info_head
  have hi2 := info_super
  have hu := Try.underlying26
  have hu2 := Try.underlying34
  have hlen := hdc_length hf
  have hlen2 := spc_length kf
  have hone := hdc_one h
  have hone2 := spc_one x
  obtain ⟨NH, hNH⟩ : ∃ M, M = hdc noH := ⟨_, rfl⟩
  obtain ⟨NS, hNS⟩ : ∃ M, M = spc noS := ⟨_, rfl⟩
  have lNH : NH.length = 34 := by rw [hNH, hz]
  have lNS : NS.length = 70 := by rw [hNS, hz2]
  have hzo : ∀ v ∈ NH, v.oneCell' = true := by rw [hNH]; exact hdc_one noH
  have hzo2 : ∀ v ∈ NS, v.oneCell' = true := by rw [hNS]; exact spc_one noS
  obtain ⟨Y, hY⟩ : ∃ Y : ByteArray, Y = ⟨(putH h).toArray⟩ := ⟨_, rfl⟩
  obtain ⟨T, hT⟩ : ∃ T : ByteArray, T = ⟨(putS x).toArray⟩ := ⟨_, rfl⟩
  have p1 := fun w => phead_any h hf w
  have p2 := fun w => psuper_any x kf w
  rw [← hY] at p1
  rw [← hT] at p2
  have zY : Y.size = 64 := by rw [hY, text_list, putH_len hf]
  have zT : T.size = 226 := by rw [hT, text_list, putS_len kf]
  have lY : (Y ++ s).data.toList = putH h ++ s.data.toList := by rw [hY]; simp
  have lT : (T ++ s).data.toList = putS x ++ s.data.toList := by rw [hT]; simp
  have lA : (Y ++ T ++ s).data.toList = putH h ++ (putS x ++ s.data.toList) := by rw [hY, hT]; simp
  have g1 := fun w => ghead_any (Y ++ s) (by rw [ByteArray.size_append]; unfold maxLen; omega) w
  have g2 := fun w => gsuper_any (T ++ s) (by rw [ByteArray.size_append]; unfold maxLen; omega) w
  have g3 := fun w => ghead_any (T ++ s) (by rw [ByteArray.size_append]; unfold maxLen; omega) w
  have g4 := fun w => gsuper_any (Y ++ T ++ s) (by rw [ByteArray.size_append, ByteArray.size_append]; unfold maxLen; omega) w
  rw [lY, gotH_put hf] at g1
  rw [lT, gotS_put kf] at g2
  rw [lT, gotH_super kf, ← hNH] at g3
  rw [lA, gotS_head (by rw [List.length_append, List.length_append, putS_len kf]; omega), ← hNS] at g4
  have EQ : Hid (∀ W, (binOp .eql 26 (.agg (hdc h).toArray) (.agg (hdc h).toArray)).run Try.prog W = .ok (.bool true) W) := Lib.hid (fun W => by rw [eql_head h h hf hf W, eqH_self])
  have EQ2 : Hid (∀ W, (binOp .eql 34 (.agg (spc x).toArray) (.agg (spc x).toArray)).run Try.prog W = .ok (.bool true) W) := Lib.hid (fun W => by rw [eql_super x x kf kf W, eqS_self])
  generalize hdc h = L at *
  generalize spc x = N at *
  have B1 := Lib.hid (up_alloc (up_alloc (Below.refl w.heap.size w) (.cells L.toArray 26)) (.cells N.toArray 34))
  have P1 := Lib.hid p1
  have P2 := Lib.hid p2
  have G1 := Lib.hid g1
  have G2 := Lib.hid g2
  have G3 := Lib.hid g3
  have G4 := Lib.hid g4
  have o1 : ¬ 9223372036854775807 < 64 + s.size := by omega
  have o2 : ¬ 9223372036854775807 < 226 + s.size := by omega
  have o3 : ¬ 9223372036854775807 < 64 + 226 + s.size := by omega
  have o4 : ¬ 9223372036854775807 < 290 + s.size := by omega
  clear p1 p2 g1 g2 g3 g4 hY hT hf kf h1 lY lT lA hNH hNS
  go_enter Try.func5, Try.ntmps5
  go_wp2_with (refine wpList_load_row rfl 26 _ rfl w.heap.size (by rfl) _ _ _ _ HX.out hu rfl (by rw [hi, List.size_toArray, hlen]) ?_)
  generalize hw1 : (w.alloc (Obj.cells _ _)).alloc _ = w1
  replace HX : Hid (Has w1 w.heap.size 26 L) := by rw [← hw1]; exact HX
  replace HY : Hid (Has w1 (w.heap.size + 1) 34 N) := by rw [← hw1]; exact HY
  replace B1 : Hid (Below w.heap.size w w1) := by rw [← hw1]; exact B1
  clear hw1
  refine (P1.out _).mono ?_; rintro e w2 ⟨rfl, b2⟩
  replace HX := Lib.hid (HX.out.up b2)
  replace HY := Lib.hid (HY.out.up b2)
  replace B1 := Lib.hid (up_trans B1.out b2)
  clear b2
  go_wp2_with (refine wpList_load_row rfl 34 _ rfl (w.heap.size + 1) (by rfl) _ _ _ _ HY.out hu2 rfl (by rw [hi2, List.size_toArray, hlen2]) ?_)
  refine (P2.out _).mono ?_; rintro e w3 ⟨rfl, b3⟩
  replace HX := Lib.hid (HX.out.up b3)
  replace HY := Lib.hid (HY.out.up b3)
  replace B1 := Lib.hid (up_trans B1.out b3)
  clear b3
  have l3 := HY.out.lt
  go_wp2_with fail
  refine (G1.out _).mono ?_; rintro e w4 ⟨rfl, b4⟩
  replace HX := Lib.hid (HX.out.up b4)
  replace HY := Lib.hid (HY.out.up b4)
  replace B1 := Lib.hid (up_trans B1.out b4)
  clear b4
  have l4 := HY.out.lt
  go_wp2_with (refine wpList_store_whole rfl 26 _ _ rfl w4.heap.size 26 (hdc noH) L (by rfl) (by rfl) (Has.make w4 _ (hdc noH)) (by rw [hlen, hz]) (by rw [hi, hlen]) hone ?_; intro w5 hF5 hO5)
  replace HX := Lib.hid (hO5.keep (by omega) (HX.out.alloc _))
  replace HY := Lib.hid (hO5.keep (by omega) (HY.out.alloc _))
  replace B1 := Lib.hid (hO5.below B1.out.size (up_alloc B1.out _))
  have HA := Lib.hid hF5
  clear hF5 hO5
  refine (G2.out _).mono ?_; rintro e w6 ⟨rfl, b6⟩
  replace HX := Lib.hid (HX.out.up b6)
  replace HY := Lib.hid (HY.out.up b6)
  replace HA := Lib.hid (HA.out.up b6)
  replace B1 := Lib.hid (up_trans B1.out b6)
  clear b6
  have l6 := HA.out.lt
  go_wp2_with (refine wpList_store_whole rfl 34 _ _ rfl w6.heap.size 34 (spc noS) N (by rfl) (by rfl) (Has.make w6 _ (spc noS)) (by rw [hlen2, hz2]) (by rw [hi2, hlen2]) hone2 ?_; intro w7 hF7 hO7)
  replace HX := Lib.hid (hO7.keep (by omega) (HX.out.alloc _))
  replace HY := Lib.hid (hO7.keep (by omega) (HY.out.alloc _))
  replace HA := Lib.hid (hO7.keep (by omega) (HA.out.alloc _))
  replace B1 := Lib.hid (hO7.below B1.out.size (up_alloc B1.out _))
  have HB := Lib.hid hF7
  clear hF7 hO7
  refine (G3.out _).mono ?_; rintro e w8 ⟨rfl, b8⟩
  replace HX := Lib.hid (HX.out.up b8)
  replace HY := Lib.hid (HY.out.up b8)
  replace HA := Lib.hid (HA.out.up b8)
  replace HB := Lib.hid (HB.out.up b8)
  replace B1 := Lib.hid (up_trans B1.out b8)
  clear b8
  have l8 := HB.out.lt
  go_wp2_with (refine wpList_store_whole rfl 26 _ _ rfl w8.heap.size 26 (hdc noH) NH (by rfl) (by rfl) (Has.make w8 _ (hdc noH)) (by rw [lNH, hz]) (by rw [hi, lNH]) hzo ?_; intro w9 hF9 hO9)
  replace HX := Lib.hid (hO9.keep (by omega) (HX.out.alloc _))
  replace HY := Lib.hid (hO9.keep (by omega) (HY.out.alloc _))
  replace HA := Lib.hid (hO9.keep (by omega) (HA.out.alloc _))
  replace HB := Lib.hid (hO9.keep (by omega) (HB.out.alloc _))
  replace B1 := Lib.hid (hO9.below B1.out.size (up_alloc B1.out _))
  clear hF9 hO9
  refine (G4.out _).mono ?_; rintro e w10 ⟨rfl, b10⟩
  replace HX := Lib.hid (HX.out.up b10)
  replace HY := Lib.hid (HY.out.up b10)
  replace HA := Lib.hid (HA.out.up b10)
  replace HB := Lib.hid (HB.out.up b10)
  replace B1 := Lib.hid (up_trans B1.out b10)
  clear b10
  have l10 := HB.out.lt
  go_wp2_with (refine wpList_store_whole rfl 34 _ _ rfl w10.heap.size 34 (spc noS) NS (by rfl) (by rfl) (Has.make w10 _ (spc noS)) (by rw [lNS, hz2]) (by rw [hi2, lNS]) hzo2 ?_; intro w11 hF11 hO11)
  replace HX := Lib.hid (hO11.keep (by omega) (HX.out.alloc _))
  replace HY := Lib.hid (hO11.keep (by omega) (HY.out.alloc _))
  replace HA := Lib.hid (hO11.keep (by omega) (HA.out.alloc _))
  replace HB := Lib.hid (hO11.keep (by omega) (HB.out.alloc _))
  replace B1 := Lib.hid (hO11.below B1.out.size (up_alloc B1.out _))
  clear hF11 hO11
  refine (headed_any _).mono ?_; rintro e w12 ⟨rfl, b12⟩
  replace HX := Lib.hid (HX.out.up b12)
  replace HY := Lib.hid (HY.out.up b12)
  replace HA := Lib.hid (HA.out.up b12)
  replace HB := Lib.hid (HB.out.up b12)
  replace B1 := Lib.hid (up_trans B1.out b12)
  clear b12 zv
  go_wp2_with (first
    | (refine wpList_load_wanted (by rfl) 26 _ rfl w4.heap.size (by rfl) _ _ _ _ HA.out hu rfl (by rw [hi, List.size_toArray, hlen]) ?_)
    | (refine wpList_load_wanted (by rfl) 26 _ rfl w.heap.size (by rfl) _ _ _ _ HX.out hu rfl (by rw [hi, List.size_toArray, hlen]) ?_; refine wpList_eql_wanted (by rfl) _ _ _ _ rfl L.toArray L.toArray (by rfl) (by rfl) noGuard_head true (fun w => EQ.out w) ?_)
    | (refine wpList_load_wanted (by rfl) 34 _ rfl w6.heap.size (by rfl) _ _ _ _ HB.out hu2 rfl (by rw [hi2, List.size_toArray, hlen2]) ?_)
    | (refine wpList_load_wanted (by rfl) 34 _ rfl (w.heap.size + 1) (by rfl) _ _ _ _ HY.out hu2 rfl (by rw [hi2, List.size_toArray, hlen2]) ?_; refine wpList_eql_wanted (by rfl) _ _ _ _ rfl N.toArray N.toArray (by rfl) (by rfl) noGuard_super true (fun w => EQ2.out w) ?_))
  go_ret
  exact ⟨rfl, B1.out⟩

end Go.Proofs.Ytfnjegjieglbbaa
