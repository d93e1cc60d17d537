/- The walk of the law HeaderTorn: a super that was written over another one, or over bytes 0, up to some place, is one of both, or none. -/
import Derived.Test.YtfnjegjieglbbaaHeadG
import Derived.Test.YtfnjegjieglbbaaHeadH
import Derived.Test.YtfnjegjieglbbaaHeadEq
import Derived.Test.YtfnjegjieglbbaaBase
namespace Go.Proofs.Ytfnjegjieglbbaa
open Go.RowKit Wire Crc Head

structure OnT (gx gy : Nat) (L N : List Value) (W : World) : Prop where
  x : Has W gx 34 L
  y : Has W gy 34 N
theorem OnT.up {gx gy : Nat} {L N : List Value} {W W' : World} (h : OnT gx gy L N W) (hb : Below W.heap.size W W') : OnT gx gy L N W' := ⟨h.x.up hb, h.y.up hb⟩
theorem max_zero (z : Int) (W : World) : (Builtin.max_ #[3, 3] 3 #[.int .i64 z, .int .i64 0]).run Try.prog W = .ok (.int .i64 (max z 0)) W := by
  have h2 : (if z < 0 then (0 : Int) else z) = max z 0 := by
    split <;> omega
  simp [Builtin.max_, Builtin.max2, h2]
theorem min_226 (z : Int) (k : Nat) (h : min z 226 = (k : Int)) (W : World) : (Builtin.min_ #[3, 3] 3 #[.int .i64 z, .int .i64 226]).run Try.prog W = .ok (.int .i64 (k : Nat)) W := by
  have h2 : (if (226 : Int) < z then (226 : Int) else z) = (k : Int) := by
    rw [← h]
    split <;> omega
  simp [Builtin.min_, Builtin.min2, h2]

set_option maxHeartbeats 4000000 in
set_option maxRecDepth 100000 in
theorem HeaderTorn_plain_err (x y : Sp) (hf : x.Fits) (kf : y.Fits) (z : Int) (k : Nat) (hk : min (max z 0) 226 = (k : Int)) (T V U : ByteArray) (hT : T = ⟨(putS y).toArray⟩) (hV : V = ⟨(putS x).toArray⟩) (hU : U = T.extract 0 k ++ V.extract k 226) (m : Nat) (hm : m ≠ 0) (hk226 : k < 226) (hk0 : 0 < k) (hg : gotS U.data.toList = (noS, m)) (w : World) :
    Calls Try.prog 8 #[.agg (spc x).toArray, .agg (spc y).toArray, .int .i64 z, .bool false] w fun e w' => e = .returned (.bool true) ∧ Below w.heap.size w w' := by
  have HX := Lib.hid ((Has.make w 34 (spc x)).alloc (.cells (spc y).toArray 34))
  have HY := Lib.hid (Has.make2 w (.cells (spc x).toArray 34) 34 (spc y))
  have zv := zero_super
  have hz : (spc noS).length = 70 := spc_length noS_fits
  have hi := info_super
  have hu := Try.underlying34
  have hlen := spc_length hf
  have hleny := spc_length kf
  have p1 := fun w => psuper_any x hf w
  have p2 := fun w => psuper_any y kf w
  rw [← hT] at p2
  have zT : T.size = 226 := by rw [hT, text_list, putS_len kf]
  rw [← hV] at p1
  have zV : V.size = 226 := by rw [hV, text_list, putS_len hf]
  have hUs : U.size = 226 := by
    have e1 : (T.extract 0 k).size = k := by rw [head_of, text_list, List.length_take, list_size, zT]; omega
    have e2 : (V.extract k 226).size = 226 - k := by
      rw [extract_mid, text_list, List.length_take, List.length_drop, list_size, zV]; omega
    rw [hU, ByteArray.size_append, e1, e2]; omega
  have hov : ¬ 9223372036854775807 < min k 226 + (226 - k) := by omega
  have gu := fun w => gsuper_any U (by rw [hUs]; unfold maxLen; omega) w
  rw [hg] at gu
  rw [hU] at gu
  obtain ⟨M, hM⟩ : ∃ M, M = spc noS := ⟨_, rfl⟩
  rw [← hM] at gu
  have hml : M.length = 70 := by rw [hM, hz]
  have hmo : ∀ v ∈ M, v.oneCell' = true := by rw [hM]; exact spc_one noS
  have EQ : Hid (∀ W, (binOp .eql 34 (.agg M.toArray) (.agg (spc noS).toArray)).run Try.prog W = .ok (.bool true) W) := Lib.hid (fun W => by rw [hM, eql_super noS noS noS_fits noS_fits W, eqS_self])
  have dm : ((m : Int) == 0) = false := by rw [beq_eq_false_iff_ne]; omega
  have dm2 : ((m : Int) != 0) = true := by rw [bne_iff_ne]; omega
  clear hM
  have hmx := max_zero z
  generalize max z 0 = q at *
  have hmn := min_226 q k hk
  have k0 : (0 : Int) ≤ (k : Int) := by omega
  have k1 : (k : Int) ≤ 226 := by omega
  have d226 : (k : Int) < 226 := by omega
  generalize spc x = L at *
  generalize spc y = N at *
  have B1 := Lib.hid (up_alloc (up_alloc (Below.refl w.heap.size w) (.cells L.toArray 34)) (.cells N.toArray 34))
  have P1 := Lib.hid p1
  have P2 := Lib.hid p2
  have GU := Lib.hid gu
  clear p1 p2 gu hT hV hf kf hg hUs hm hk226
  go_enter Try.func8, Try.ntmps8
  go_wp2_with (refine wpList_load_row rfl 34 _ rfl w.heap.size (by rfl) _ _ _ _ HX.out hu rfl (by rw [hi, List.size_toArray, hlen]) ?_)
  generalize hw1 : (w.alloc (Obj.cells _ _)).alloc _ = w1
  have ON : Hid (OnT w.heap.size (w.heap.size + 1) L N w1) := Lib.hid (by rw [← hw1]; exact ⟨HX.out, HY.out⟩)
  replace B1 : Hid (Below w.heap.size w w1) := by rw [← hw1]; exact B1
  clear hw1 HX HY
  refine (P1.out _).mono ?_; rintro e w2 ⟨rfl, b2⟩
  replace ON := Lib.hid (ON.out.up b2)
  replace B1 := Lib.hid (up_trans B1.out b2)
  clear b2
  go_wp2_with (refine wpList_load_row rfl 34 _ rfl (w.heap.size + 1) (by rfl) _ _ _ _ ON.out.y hu rfl (by rw [hi, List.size_toArray, hleny]) ?_)
  refine (P2.out _).mono ?_; rintro e w3 ⟨rfl, b3⟩
  replace ON := Lib.hid (ON.out.up b3)
  replace B1 := Lib.hid (up_trans B1.out b3)
  clear b3
  go_wp2_with fail
  have l3 := ON.out.y.lt
  refine wp_region_held_drew (S := fun _ => True) (by kernel_rfl) (trivial) (fun hHeld => ?_)
  refine wpAnyH_take (i := 0) (v := ?_) rfl (by kernel_rfl) (by kernel_rfl) (by kernel_rfl) (fun _ _ _ h => h) (Or.inl ⟨by rfl, ?_⟩) (by assumption) ?_
  rotate_left
  · intro w hSw; (try dsimp only at hSw); go_simp; try with_reducible rfl
  try simp only [Act.put, List.getElem_toArray, List.getElem_cons_zero, List.setIfInBounds_toArray, List.set_cons_zero, List.set_cons_succ]
  refine wpAnyH_take (i := 1) (v := ?_) rfl (by kernel_rfl) (by kernel_rfl) (by kernel_rfl) (fun _ _ _ h => h) (Or.inl ⟨by rfl, ?_⟩) (by assumption) ?_
  rotate_left
  · intro w hSw; (try dsimp only at hSw); go_simp; try with_reducible rfl
  try simp only [Act.put, List.getElem_toArray, List.getElem_cons_zero, List.getElem_cons_succ, List.setIfInBounds_toArray, List.set_cons_zero, List.set_cons_succ]
  refine wpAnyH_take (i := 2) (v := ?_) rfl (by kernel_rfl) (by kernel_rfl) (by kernel_rfl) (fun _ _ _ h => h) (Or.inl ⟨by rfl, ?_⟩) (by assumption) ?_
  rotate_left
  · intro w hSw; (try dsimp only at hSw); go_simp; try with_reducible rfl
  try simp only [Act.put, List.getElem_toArray, List.getElem_cons_zero, List.getElem_cons_succ, List.setIfInBounds_toArray, List.set_cons_zero, List.set_cons_succ]
  refine wpAnyH_take (i := 3) (v := ?_) rfl (by kernel_rfl) (by kernel_rfl) (by kernel_rfl) (fun _ _ _ h => h) (Or.inl ⟨by rfl, ?_⟩) (by assumption) ?_
  rotate_left
  · intro w hSw; (try dsimp only at hSw); go_simp; try with_reducible rfl
  try simp only [Act.put, List.getElem_toArray, List.getElem_cons_zero, List.getElem_cons_succ, List.setIfInBounds_toArray, List.set_cons_zero, List.set_cons_succ]
  refine wpAnyH_take (i := 4) (v := ?_) rfl (by kernel_rfl) (by kernel_rfl) (by kernel_rfl) (fun _ _ _ h => h) (Or.inl ⟨by rfl, ?_⟩) (by assumption) ?_
  rotate_left
  · intro w hSw; (try dsimp only at hSw); go_simp; try with_reducible rfl
  try simp only [Act.put, List.getElem_toArray, List.getElem_cons_zero, List.getElem_cons_succ, List.setIfInBounds_toArray, List.set_cons_zero, List.set_cons_succ]
  refine wpAnyH_take (i := 5) (v := ?_) rfl (by kernel_rfl) (by kernel_rfl) (by kernel_rfl) (fun _ _ _ h => h) (Or.inl ⟨by rfl, ?_⟩) (by assumption) ?_
  rotate_left
  · intro w hSw; (try dsimp only at hSw); go_simp; try with_reducible rfl
  try simp only [Act.put, List.getElem_toArray, List.getElem_cons_zero, List.getElem_cons_succ, List.setIfInBounds_toArray, List.set_cons_zero, List.set_cons_succ]
  refine wpAnyH_take (i := 6) (v := ?_) rfl (by kernel_rfl) (by kernel_rfl) (by kernel_rfl) (fun _ _ _ h => h) (Or.inl ⟨by rfl, ?_⟩) (by assumption) ?_
  rotate_left
  · intro w hSw; (try dsimp only at hSw); go_simp; try with_reducible rfl
  try simp only [Act.put, List.getElem_toArray, List.getElem_cons_zero, List.getElem_cons_succ, List.setIfInBounds_toArray, List.set_cons_zero, List.set_cons_succ]
  refine wpAnyH_ready (rs := [7, 11]) (by kernel_rfl) (by simp) (AllReadyH.cons rfl (fun K hK => ?_) (AllReadyH.cons rfl (fun K hK => ?_) AllReadyH.nil))
  · skip
    go_simp
    refine (GU.out _).mono ?_; rintro e wn ⟨rfl, hbn'⟩
    have hbn : Below w3.heap.size w3 wn := up_trans (Below.refl _ _).drew hbn'
    clear hbn'
    go_wp2_with fail
    refine hK.out _ _ (trivial) (fun hHeld => ?_)
    clear hK K
    try simp only [Act.put, List.getElem_toArray, List.getElem_cons_zero, List.getElem_cons_succ, List.setIfInBounds_toArray, List.set_cons_zero, List.set_cons_succ]
    refine wpAnyH_take (i := 8) (v := ?_) rfl (by kernel_rfl) (by kernel_rfl) (by kernel_rfl) (fun _ _ _ h => h) (Or.inl ⟨by rfl, ?_⟩) (by assumption) ?_
    rotate_left
    · intro w hSw; (try dsimp only at hSw); go_simp; try with_reducible rfl
    try simp only [Act.put, List.getElem_toArray, List.getElem_cons_zero, List.getElem_cons_succ, List.setIfInBounds_toArray, List.set_cons_zero, List.set_cons_succ]
    refine wpAnyH_take (i := 9) (v := ?_) rfl (by kernel_rfl) (by kernel_rfl) (by kernel_rfl) (fun _ _ _ h => h) (Or.inl ⟨by rfl, ?_⟩) (by assumption) ?_
    rotate_left
    · intro w hSw; (try dsimp only at hSw); go_simp; try with_reducible rfl
    try simp only [Act.put, List.getElem_toArray, List.getElem_cons_zero, List.getElem_cons_succ, List.setIfInBounds_toArray, List.set_cons_zero, List.set_cons_succ]
    refine wpAnyH_take (i := 10) (v := ?_) rfl (by kernel_rfl) (by kernel_rfl) (by kernel_rfl) (fun _ _ _ h => h) (Or.inl ⟨by rfl, ?_⟩) (by assumption) ?_
    rotate_left
    · intro w hSw; (try dsimp only at hSw); go_simp; try with_reducible rfl
    try simp only [Act.put, List.getElem_toArray, List.getElem_cons_zero, List.getElem_cons_succ, List.setIfInBounds_toArray, List.set_cons_zero, List.set_cons_succ]
    refine wpAnyH_ready (rs := [11]) (by kernel_rfl) (by simp) (AllReadyH.cons rfl (fun K hK => ?_) AllReadyH.nil)
    go_simp
    refine hK.out _ _ (trivial) (fun hHeld => ?_)
    clear hK K
    try simp only [Act.put, List.getElem_toArray, List.getElem_cons_zero, List.getElem_cons_succ, List.setIfInBounds_toArray, List.set_cons_zero, List.set_cons_succ]
    generalize hGG : wn.heap.size = GG
    have hge : w3.heap.size ≤ GG := by rw [← hGG]; exact hbn.size
    have HG : Hid (Has (wn.alloc (.cells (spc noS).toArray 34)) GG 34 (spc noS)) := Lib.hid (by rw [← hGG]; exact Has.make wn 34 (spc noS))
    clear hGG
    refine wpAnyH_ready (rs := [12]) (by kernel_rfl) (by simp) (AllReadyH.cons rfl (fun K hK => ?_) AllReadyH.nil)
    refine wp_store_whole 34 _ _ rfl GG 34 (spc noS) M (by rfl) (by rfl) HG.out (by rw [hml, hz]) (by rw [hi, hml]) hmo ?_
    intro w9 hF9 hO9
    replace HG := Lib.hid hF9
    replace ON := Lib.hid (OnT.mk (hO9.keep (by omega) (ON.out.x.up (up_alloc hbn _))) (hO9.keep (by omega) (ON.out.y.up (up_alloc hbn _))))
    replace B1 := Lib.hid (hO9.below (by omega) (up_trans B1.out (up_alloc hbn _)))
    clear hF9 hO9
    refine hK.out _ _ (trivial) (fun hHeld => ?_)
    clear hK K
    try simp only [Act.put, List.getElem_toArray, List.getElem_cons_zero, List.getElem_cons_succ]
    refine wpAnyH_take (i := 13) (v := ?_) rfl (by kernel_rfl) (by kernel_rfl) (by kernel_rfl) (fun _ _ _ h => h) (Or.inl ⟨by rfl, ?_⟩) (by assumption) ?_
    rotate_left
    · intro w hSw; (try dsimp only at hSw); go_simp; try with_reducible rfl
    try simp only [Act.put, List.getElem_toArray, List.getElem_cons_zero, List.getElem_cons_succ, List.setIfInBounds_toArray, List.set_cons_zero, List.set_cons_succ]
    refine wpAnyH_done (by kernel_rfl) ?_ _
    clear hHeld
    go_wp2_with fail
    refine (headed_any _).mono ?_; rintro e w10 ⟨rfl, b10⟩
    replace HG := Lib.hid (HG.out.up b10)
    replace ON := Lib.hid (ON.out.up b10)
    replace B1 := Lib.hid (up_trans B1.out b10)
    clear b10
    go_wp2_with (first
      | (refine wpList_load_wanted (by rfl) 34 _ rfl GG (by rfl) _ _ _ _ HG.out hu rfl (by rw [hi, List.size_toArray, hml]) ?_)
      | (refine wpList_eql_wanted (by rfl) _ _ _ _ rfl M.toArray (spc noS).toArray (by rfl) (by rfl) noGuard_super true (fun w => EQ.out w) ?_))
    go_ret
    exact ⟨rfl, B1.out⟩
  · skip
    go_simp
    refine hK.out _ _ (trivial) (fun hHeld => ?_)
    clear hK K
    try simp only [Act.put, List.getElem_toArray, List.getElem_cons_zero, List.getElem_cons_succ, List.setIfInBounds_toArray, List.set_cons_zero, List.set_cons_succ]
    generalize hGG : w3.heap.size = GG
    have hge : w3.heap.size ≤ GG := by omega
    have HG : Hid (Has (w3.drew.alloc (.cells (spc noS).toArray 34)) GG 34 (spc noS)) := Lib.hid (by rw [← hGG]; exact Has.make w3.drew 34 (spc noS))
    clear hGG
    refine wpAnyH_ready (rs := [7]) (by kernel_rfl) (by simp) (AllReadyH.cons rfl (fun K hK => ?_) AllReadyH.nil)
    go_simp
    refine (GU.out _).mono ?_; rintro e wn ⟨rfl, hbn'⟩
    replace hbn : Below w3.heap.size w3 wn := up_trans (up_alloc (Below.refl _ _).drew _) hbn'
    replace HG := Lib.hid (HG.out.up hbn')
    clear hbn'
    go_wp2_with fail
    refine hK.out _ _ (trivial) (fun hHeld => ?_)
    clear hK K
    try simp only [Act.put, List.getElem_toArray, List.getElem_cons_zero, List.getElem_cons_succ, List.setIfInBounds_toArray, List.set_cons_zero, List.set_cons_succ]
    refine wpAnyH_take (i := 8) (v := ?_) rfl (by kernel_rfl) (by kernel_rfl) (by kernel_rfl) (fun _ _ _ h => h) (Or.inl ⟨by rfl, ?_⟩) (by assumption) ?_
    rotate_left
    · intro w hSw; (try dsimp only at hSw); go_simp; try with_reducible rfl
    try simp only [Act.put, List.getElem_toArray, List.getElem_cons_zero, List.getElem_cons_succ, List.setIfInBounds_toArray, List.set_cons_zero, List.set_cons_succ]
    refine wpAnyH_take (i := 9) (v := ?_) rfl (by kernel_rfl) (by kernel_rfl) (by kernel_rfl) (fun _ _ _ h => h) (Or.inl ⟨by rfl, ?_⟩) (by assumption) ?_
    rotate_left
    · intro w hSw; (try dsimp only at hSw); go_simp; try with_reducible rfl
    try simp only [Act.put, List.getElem_toArray, List.getElem_cons_zero, List.getElem_cons_succ, List.setIfInBounds_toArray, List.set_cons_zero, List.set_cons_succ]
    refine wpAnyH_take (i := 10) (v := ?_) rfl (by kernel_rfl) (by kernel_rfl) (by kernel_rfl) (fun _ _ _ h => h) (Or.inl ⟨by rfl, ?_⟩) (by assumption) ?_
    rotate_left
    · intro w hSw; (try dsimp only at hSw); go_simp; try with_reducible rfl
    try simp only [Act.put, List.getElem_toArray, List.getElem_cons_zero, List.getElem_cons_succ, List.setIfInBounds_toArray, List.set_cons_zero, List.set_cons_succ]
    refine wpAnyH_ready (rs := [12]) (by kernel_rfl) (by simp) (AllReadyH.cons rfl (fun K hK => ?_) AllReadyH.nil)
    refine wp_store_whole 34 _ _ rfl GG 34 (spc noS) M (by rfl) (by rfl) HG.out (by rw [hml, hz]) (by rw [hi, hml]) hmo ?_
    intro w9 hF9 hO9
    replace HG := Lib.hid hF9
    replace ON := Lib.hid (OnT.mk (hO9.keep (by omega) (ON.out.x.up hbn)) (hO9.keep (by omega) (ON.out.y.up hbn)))
    replace B1 := Lib.hid (hO9.below (by omega) (up_trans B1.out hbn))
    clear hF9 hO9
    refine hK.out _ _ (trivial) (fun hHeld => ?_)
    clear hK K
    try simp only [Act.put, List.getElem_toArray, List.getElem_cons_zero, List.getElem_cons_succ]
    refine wpAnyH_take (i := 13) (v := ?_) rfl (by kernel_rfl) (by kernel_rfl) (by kernel_rfl) (fun _ _ _ h => h) (Or.inl ⟨by rfl, ?_⟩) (by assumption) ?_
    rotate_left
    · intro w hSw; (try dsimp only at hSw); go_simp; try with_reducible rfl
    try simp only [Act.put, List.getElem_toArray, List.getElem_cons_zero, List.getElem_cons_succ, List.setIfInBounds_toArray, List.set_cons_zero, List.set_cons_succ]
    refine wpAnyH_done (by kernel_rfl) ?_ _
    clear hHeld
    go_wp2_with fail
    refine (headed_any _).mono ?_; rintro e w10 ⟨rfl, b10⟩
    replace HG := Lib.hid (HG.out.up b10)
    replace ON := Lib.hid (ON.out.up b10)
    replace B1 := Lib.hid (up_trans B1.out b10)
    clear b10
    go_wp2_with (first
      | (refine wpList_load_wanted (by rfl) 34 _ rfl GG (by rfl) _ _ _ _ HG.out hu rfl (by rw [hi, List.size_toArray, hml]) ?_)
      | (refine wpList_eql_wanted (by rfl) _ _ _ _ rfl M.toArray (spc noS).toArray (by rfl) (by rfl) noGuard_super true (fun w => EQ.out w) ?_))
    go_ret
    exact ⟨rfl, B1.out⟩

set_option maxHeartbeats 4000000 in
set_option maxRecDepth 100000 in
theorem HeaderTorn_plain_new (x y : Sp) (hf : x.Fits) (kf : y.Fits) (z : Int) (k : Nat) (hk : min (max z 0) 226 = (k : Int)) (T V U : ByteArray) (hT : T = ⟨(putS y).toArray⟩) (hV : V = ⟨(putS x).toArray⟩) (hU : U = T.extract 0 k ++ V.extract k 226) (hg : gotS U.data.toList = (y, 0)) (w : World) :
    Calls Try.prog 8 #[.agg (spc x).toArray, .agg (spc y).toArray, .int .i64 z, .bool false] w fun e w' => e = .returned (.bool true) ∧ Below w.heap.size w w' := by
  have HX := Lib.hid ((Has.make w 34 (spc x)).alloc (.cells (spc y).toArray 34))
  have HY := Lib.hid (Has.make2 w (.cells (spc x).toArray 34) 34 (spc y))
  have zv := zero_super
  have hz : (spc noS).length = 70 := spc_length noS_fits
  have hi := info_super
  have hu := Try.underlying34
  have hlen := spc_length hf
  have hleny := spc_length kf
  have p1 := fun w => psuper_any x hf w
  have p2 := fun w => psuper_any y kf w
  rw [← hT] at p2
  have zT : T.size = 226 := by rw [hT, text_list, putS_len kf]
  rw [← hV] at p1
  have zV : V.size = 226 := by rw [hV, text_list, putS_len hf]
  have hUs : U.size = 226 := by
    have e1 : (T.extract 0 k).size = k := by rw [head_of, text_list, List.length_take, list_size, zT]; omega
    have e2 : (V.extract k 226).size = 226 - k := by
      rw [extract_mid, text_list, List.length_take, List.length_drop, list_size, zV]; omega
    rw [hU, ByteArray.size_append, e1, e2]; omega
  have hov : ¬ 9223372036854775807 < min k 226 + (226 - k) := by omega
  have gu := fun w => gsuper_any U (by rw [hUs]; unfold maxLen; omega) w
  rw [hg] at gu
  rw [hU] at gu
  have EQ : Hid (∀ W, (binOp .eql 34 (.agg (spc y).toArray) (.agg (spc y).toArray)).run Try.prog W = .ok (.bool true) W) := Lib.hid (fun W => by rw [eql_super y y kf kf W, eqS_self])
  have hml := hleny
  have hmo := spc_one y
  have hmx := max_zero z
  generalize max z 0 = q at *
  have hmn := min_226 q k hk
  have k0 : (0 : Int) ≤ (k : Int) := by omega
  have k1 : (k : Int) ≤ 226 := by omega
  generalize spc x = L at *
  generalize spc y = N at *
  have B1 := Lib.hid (up_alloc (up_alloc (Below.refl w.heap.size w) (.cells L.toArray 34)) (.cells N.toArray 34))
  have P1 := Lib.hid p1
  have P2 := Lib.hid p2
  have GU := Lib.hid gu
  clear p1 p2 gu hT hV hf kf hg hUs
  go_enter Try.func8, Try.ntmps8
  go_wp2_with (refine wpList_load_row rfl 34 _ rfl w.heap.size (by rfl) _ _ _ _ HX.out hu rfl (by rw [hi, List.size_toArray, hlen]) ?_)
  generalize hw1 : (w.alloc (Obj.cells _ _)).alloc _ = w1
  have ON : Hid (OnT w.heap.size (w.heap.size + 1) L N w1) := Lib.hid (by rw [← hw1]; exact ⟨HX.out, HY.out⟩)
  replace B1 : Hid (Below w.heap.size w w1) := by rw [← hw1]; exact B1
  clear hw1 HX HY
  refine (P1.out _).mono ?_; rintro e w2 ⟨rfl, b2⟩
  replace ON := Lib.hid (ON.out.up b2)
  replace B1 := Lib.hid (up_trans B1.out b2)
  clear b2
  go_wp2_with (refine wpList_load_row rfl 34 _ rfl (w.heap.size + 1) (by rfl) _ _ _ _ ON.out.y hu rfl (by rw [hi, List.size_toArray, hleny]) ?_)
  refine (P2.out _).mono ?_; rintro e w3 ⟨rfl, b3⟩
  replace ON := Lib.hid (ON.out.up b3)
  replace B1 := Lib.hid (up_trans B1.out b3)
  clear b3
  go_wp2_with fail
  have l3 := ON.out.y.lt
  refine wp_region_held_drew (S := fun _ => True) (by kernel_rfl) (trivial) (fun hHeld => ?_)
  refine wpAnyH_take (i := 0) (v := ?_) rfl (by kernel_rfl) (by kernel_rfl) (by kernel_rfl) (fun _ _ _ h => h) (Or.inl ⟨by rfl, ?_⟩) (by assumption) ?_
  rotate_left
  · intro w hSw; (try dsimp only at hSw); go_simp; try with_reducible rfl
  try simp only [Act.put, List.getElem_toArray, List.getElem_cons_zero, List.setIfInBounds_toArray, List.set_cons_zero, List.set_cons_succ]
  refine wpAnyH_take (i := 1) (v := ?_) rfl (by kernel_rfl) (by kernel_rfl) (by kernel_rfl) (fun _ _ _ h => h) (Or.inl ⟨by rfl, ?_⟩) (by assumption) ?_
  rotate_left
  · intro w hSw; (try dsimp only at hSw); go_simp; try with_reducible rfl
  try simp only [Act.put, List.getElem_toArray, List.getElem_cons_zero, List.getElem_cons_succ, List.setIfInBounds_toArray, List.set_cons_zero, List.set_cons_succ]
  refine wpAnyH_take (i := 2) (v := ?_) rfl (by kernel_rfl) (by kernel_rfl) (by kernel_rfl) (fun _ _ _ h => h) (Or.inl ⟨by rfl, ?_⟩) (by assumption) ?_
  rotate_left
  · intro w hSw; (try dsimp only at hSw); go_simp; try with_reducible rfl
  try simp only [Act.put, List.getElem_toArray, List.getElem_cons_zero, List.getElem_cons_succ, List.setIfInBounds_toArray, List.set_cons_zero, List.set_cons_succ]
  refine wpAnyH_take (i := 3) (v := ?_) rfl (by kernel_rfl) (by kernel_rfl) (by kernel_rfl) (fun _ _ _ h => h) (Or.inl ⟨by rfl, ?_⟩) (by assumption) ?_
  rotate_left
  · intro w hSw; (try dsimp only at hSw); go_simp; try with_reducible rfl
  try simp only [Act.put, List.getElem_toArray, List.getElem_cons_zero, List.getElem_cons_succ, List.setIfInBounds_toArray, List.set_cons_zero, List.set_cons_succ]
  refine wpAnyH_take (i := 4) (v := ?_) rfl (by kernel_rfl) (by kernel_rfl) (by kernel_rfl) (fun _ _ _ h => h) (Or.inl ⟨by rfl, ?_⟩) (by assumption) ?_
  rotate_left
  · intro w hSw; (try dsimp only at hSw); go_simp; try with_reducible rfl
  try simp only [Act.put, List.getElem_toArray, List.getElem_cons_zero, List.getElem_cons_succ, List.setIfInBounds_toArray, List.set_cons_zero, List.set_cons_succ]
  refine wpAnyH_take (i := 5) (v := ?_) rfl (by kernel_rfl) (by kernel_rfl) (by kernel_rfl) (fun _ _ _ h => h) (Or.inl ⟨by rfl, ?_⟩) (by assumption) ?_
  rotate_left
  · intro w hSw; (try dsimp only at hSw); go_simp; try with_reducible rfl
  try simp only [Act.put, List.getElem_toArray, List.getElem_cons_zero, List.getElem_cons_succ, List.setIfInBounds_toArray, List.set_cons_zero, List.set_cons_succ]
  refine wpAnyH_take (i := 6) (v := ?_) rfl (by kernel_rfl) (by kernel_rfl) (by kernel_rfl) (fun _ _ _ h => h) (Or.inl ⟨by rfl, ?_⟩) (by assumption) ?_
  rotate_left
  · intro w hSw; (try dsimp only at hSw); go_simp; try with_reducible rfl
  try simp only [Act.put, List.getElem_toArray, List.getElem_cons_zero, List.getElem_cons_succ, List.setIfInBounds_toArray, List.set_cons_zero, List.set_cons_succ]
  refine wpAnyH_ready (rs := [7, 11]) (by kernel_rfl) (by simp) (AllReadyH.cons rfl (fun K hK => ?_) (AllReadyH.cons rfl (fun K hK => ?_) AllReadyH.nil))
  · skip
    go_simp
    refine (GU.out _).mono ?_; rintro e wn ⟨rfl, hbn'⟩
    have hbn : Below w3.heap.size w3 wn := up_trans (Below.refl _ _).drew hbn'
    clear hbn'
    go_wp2_with fail
    refine hK.out _ _ (trivial) (fun hHeld => ?_)
    clear hK K
    try simp only [Act.put, List.getElem_toArray, List.getElem_cons_zero, List.getElem_cons_succ, List.setIfInBounds_toArray, List.set_cons_zero, List.set_cons_succ]
    refine wpAnyH_take (i := 8) (v := ?_) rfl (by kernel_rfl) (by kernel_rfl) (by kernel_rfl) (fun _ _ _ h => h) (Or.inl ⟨by rfl, ?_⟩) (by assumption) ?_
    rotate_left
    · intro w hSw; (try dsimp only at hSw); go_simp; try with_reducible rfl
    try simp only [Act.put, List.getElem_toArray, List.getElem_cons_zero, List.getElem_cons_succ, List.setIfInBounds_toArray, List.set_cons_zero, List.set_cons_succ]
    refine wpAnyH_take (i := 9) (v := ?_) rfl (by kernel_rfl) (by kernel_rfl) (by kernel_rfl) (fun _ _ _ h => h) (Or.inl ⟨by rfl, ?_⟩) (by assumption) ?_
    rotate_left
    · intro w hSw; (try dsimp only at hSw); go_simp; try with_reducible rfl
    try simp only [Act.put, List.getElem_toArray, List.getElem_cons_zero, List.getElem_cons_succ, List.setIfInBounds_toArray, List.set_cons_zero, List.set_cons_succ]
    refine wpAnyH_take (i := 10) (v := ?_) rfl (by kernel_rfl) (by kernel_rfl) (by kernel_rfl) (fun _ _ _ h => h) (Or.inl ⟨by rfl, ?_⟩) (by assumption) ?_
    rotate_left
    · intro w hSw; (try dsimp only at hSw); go_simp; try with_reducible rfl
    try simp only [Act.put, List.getElem_toArray, List.getElem_cons_zero, List.getElem_cons_succ, List.setIfInBounds_toArray, List.set_cons_zero, List.set_cons_succ]
    refine wpAnyH_ready (rs := [11]) (by kernel_rfl) (by simp) (AllReadyH.cons rfl (fun K hK => ?_) AllReadyH.nil)
    go_simp
    refine hK.out _ _ (trivial) (fun hHeld => ?_)
    clear hK K
    try simp only [Act.put, List.getElem_toArray, List.getElem_cons_zero, List.getElem_cons_succ, List.setIfInBounds_toArray, List.set_cons_zero, List.set_cons_succ]
    generalize hGG : wn.heap.size = GG
    have hge : w3.heap.size ≤ GG := by rw [← hGG]; exact hbn.size
    have HG : Hid (Has (wn.alloc (.cells (spc noS).toArray 34)) GG 34 (spc noS)) := Lib.hid (by rw [← hGG]; exact Has.make wn 34 (spc noS))
    clear hGG
    refine wpAnyH_ready (rs := [12]) (by kernel_rfl) (by simp) (AllReadyH.cons rfl (fun K hK => ?_) AllReadyH.nil)
    refine wp_store_whole 34 _ _ rfl GG 34 (spc noS) N (by rfl) (by rfl) HG.out (by rw [hml, hz]) (by rw [hi, hml]) hmo ?_
    intro w9 hF9 hO9
    replace HG := Lib.hid hF9
    replace ON := Lib.hid (OnT.mk (hO9.keep (by omega) (ON.out.x.up (up_alloc hbn _))) (hO9.keep (by omega) (ON.out.y.up (up_alloc hbn _))))
    replace B1 := Lib.hid (hO9.below (by omega) (up_trans B1.out (up_alloc hbn _)))
    clear hF9 hO9
    refine hK.out _ _ (trivial) (fun hHeld => ?_)
    clear hK K
    try simp only [Act.put, List.getElem_toArray, List.getElem_cons_zero, List.getElem_cons_succ]
    refine wpAnyH_take (i := 13) (v := ?_) rfl (by kernel_rfl) (by kernel_rfl) (by kernel_rfl) (fun _ _ _ h => h) (Or.inl ⟨by rfl, ?_⟩) (by assumption) ?_
    rotate_left
    · intro w hSw; (try dsimp only at hSw); go_simp; try with_reducible rfl
    try simp only [Act.put, List.getElem_toArray, List.getElem_cons_zero, List.getElem_cons_succ, List.setIfInBounds_toArray, List.set_cons_zero, List.set_cons_succ]
    refine wpAnyH_done (by kernel_rfl) ?_ _
    clear hHeld
    go_wp2_with fail
    refine (headed_any _).mono ?_; rintro e w10 ⟨rfl, b10⟩
    replace HG := Lib.hid (HG.out.up b10)
    replace ON := Lib.hid (ON.out.up b10)
    replace B1 := Lib.hid (up_trans B1.out b10)
    clear b10
    go_wp2_with (first
      | (refine wpList_load_wanted (by rfl) 34 _ rfl GG (by rfl) _ _ _ _ HG.out hu rfl (by rw [hi, List.size_toArray, hml]) ?_)
      | (refine wpList_load_wanted (by rfl) 34 _ rfl (w.heap.size + 1) (by rfl) _ _ _ _ ON.out.y hu rfl (by rw [hi, List.size_toArray, hleny]) ?_; refine wpList_eql_wanted (by rfl) _ _ _ _ rfl N.toArray N.toArray (by rfl) (by rfl) noGuard_super true (fun w => EQ.out w) ?_))
    go_ret
    exact ⟨rfl, B1.out⟩
  · skip
    go_simp
    refine hK.out _ _ (trivial) (fun hHeld => ?_)
    clear hK K
    try simp only [Act.put, List.getElem_toArray, List.getElem_cons_zero, List.getElem_cons_succ, List.setIfInBounds_toArray, List.set_cons_zero, List.set_cons_succ]
    generalize hGG : w3.heap.size = GG
    have hge : w3.heap.size ≤ GG := by omega
    have HG : Hid (Has (w3.drew.alloc (.cells (spc noS).toArray 34)) GG 34 (spc noS)) := Lib.hid (by rw [← hGG]; exact Has.make w3.drew 34 (spc noS))
    clear hGG
    refine wpAnyH_ready (rs := [7]) (by kernel_rfl) (by simp) (AllReadyH.cons rfl (fun K hK => ?_) AllReadyH.nil)
    go_simp
    refine (GU.out _).mono ?_; rintro e wn ⟨rfl, hbn'⟩
    replace hbn : Below w3.heap.size w3 wn := up_trans (up_alloc (Below.refl _ _).drew _) hbn'
    replace HG := Lib.hid (HG.out.up hbn')
    clear hbn'
    go_wp2_with fail
    refine hK.out _ _ (trivial) (fun hHeld => ?_)
    clear hK K
    try simp only [Act.put, List.getElem_toArray, List.getElem_cons_zero, List.getElem_cons_succ, List.setIfInBounds_toArray, List.set_cons_zero, List.set_cons_succ]
    refine wpAnyH_take (i := 8) (v := ?_) rfl (by kernel_rfl) (by kernel_rfl) (by kernel_rfl) (fun _ _ _ h => h) (Or.inl ⟨by rfl, ?_⟩) (by assumption) ?_
    rotate_left
    · intro w hSw; (try dsimp only at hSw); go_simp; try with_reducible rfl
    try simp only [Act.put, List.getElem_toArray, List.getElem_cons_zero, List.getElem_cons_succ, List.setIfInBounds_toArray, List.set_cons_zero, List.set_cons_succ]
    refine wpAnyH_take (i := 9) (v := ?_) rfl (by kernel_rfl) (by kernel_rfl) (by kernel_rfl) (fun _ _ _ h => h) (Or.inl ⟨by rfl, ?_⟩) (by assumption) ?_
    rotate_left
    · intro w hSw; (try dsimp only at hSw); go_simp; try with_reducible rfl
    try simp only [Act.put, List.getElem_toArray, List.getElem_cons_zero, List.getElem_cons_succ, List.setIfInBounds_toArray, List.set_cons_zero, List.set_cons_succ]
    refine wpAnyH_take (i := 10) (v := ?_) rfl (by kernel_rfl) (by kernel_rfl) (by kernel_rfl) (fun _ _ _ h => h) (Or.inl ⟨by rfl, ?_⟩) (by assumption) ?_
    rotate_left
    · intro w hSw; (try dsimp only at hSw); go_simp; try with_reducible rfl
    try simp only [Act.put, List.getElem_toArray, List.getElem_cons_zero, List.getElem_cons_succ, List.setIfInBounds_toArray, List.set_cons_zero, List.set_cons_succ]
    refine wpAnyH_ready (rs := [12]) (by kernel_rfl) (by simp) (AllReadyH.cons rfl (fun K hK => ?_) AllReadyH.nil)
    refine wp_store_whole 34 _ _ rfl GG 34 (spc noS) N (by rfl) (by rfl) HG.out (by rw [hml, hz]) (by rw [hi, hml]) hmo ?_
    intro w9 hF9 hO9
    replace HG := Lib.hid hF9
    replace ON := Lib.hid (OnT.mk (hO9.keep (by omega) (ON.out.x.up hbn)) (hO9.keep (by omega) (ON.out.y.up hbn)))
    replace B1 := Lib.hid (hO9.below (by omega) (up_trans B1.out hbn))
    clear hF9 hO9
    refine hK.out _ _ (trivial) (fun hHeld => ?_)
    clear hK K
    try simp only [Act.put, List.getElem_toArray, List.getElem_cons_zero, List.getElem_cons_succ]
    refine wpAnyH_take (i := 13) (v := ?_) rfl (by kernel_rfl) (by kernel_rfl) (by kernel_rfl) (fun _ _ _ h => h) (Or.inl ⟨by rfl, ?_⟩) (by assumption) ?_
    rotate_left
    · intro w hSw; (try dsimp only at hSw); go_simp; try with_reducible rfl
    try simp only [Act.put, List.getElem_toArray, List.getElem_cons_zero, List.getElem_cons_succ, List.setIfInBounds_toArray, List.set_cons_zero, List.set_cons_succ]
    refine wpAnyH_done (by kernel_rfl) ?_ _
    clear hHeld
    go_wp2_with fail
    refine (headed_any _).mono ?_; rintro e w10 ⟨rfl, b10⟩
    replace HG := Lib.hid (HG.out.up b10)
    replace ON := Lib.hid (ON.out.up b10)
    replace B1 := Lib.hid (up_trans B1.out b10)
    clear b10
    go_wp2_with (first
      | (refine wpList_load_wanted (by rfl) 34 _ rfl GG (by rfl) _ _ _ _ HG.out hu rfl (by rw [hi, List.size_toArray, hml]) ?_)
      | (refine wpList_load_wanted (by rfl) 34 _ rfl (w.heap.size + 1) (by rfl) _ _ _ _ ON.out.y hu rfl (by rw [hi, List.size_toArray, hleny]) ?_; refine wpList_eql_wanted (by rfl) _ _ _ _ rfl N.toArray N.toArray (by rfl) (by rfl) noGuard_super true (fun w => EQ.out w) ?_))
    go_ret
    exact ⟨rfl, B1.out⟩

set_option maxHeartbeats 4000000 in
set_option maxRecDepth 100000 in
theorem HeaderTorn_plain_old (x y : Sp) (hf : x.Fits) (kf : y.Fits) (z : Int) (k : Nat) (hk : min (max z 0) 226 = (k : Int)) (T V U : ByteArray) (hT : T = ⟨(putS y).toArray⟩) (hV : V = ⟨(putS x).toArray⟩) (hU : U = T.extract 0 k ++ V.extract k 226) (hxy : x ≠ y) (hg : gotS U.data.toList = (x, 0)) (w : World) :
    Calls Try.prog 8 #[.agg (spc x).toArray, .agg (spc y).toArray, .int .i64 z, .bool false] w fun e w' => e = .returned (.bool true) ∧ Below w.heap.size w w' := by
  have HX := Lib.hid ((Has.make w 34 (spc x)).alloc (.cells (spc y).toArray 34))
  have HY := Lib.hid (Has.make2 w (.cells (spc x).toArray 34) 34 (spc y))
  have zv := zero_super
  have hz : (spc noS).length = 70 := spc_length noS_fits
  have hi := info_super
  have hu := Try.underlying34
  have hlen := spc_length hf
  have hleny := spc_length kf
  have p1 := fun w => psuper_any x hf w
  have p2 := fun w => psuper_any y kf w
  rw [← hT] at p2
  have zT : T.size = 226 := by rw [hT, text_list, putS_len kf]
  rw [← hV] at p1
  have zV : V.size = 226 := by rw [hV, text_list, putS_len hf]
  have hUs : U.size = 226 := by
    have e1 : (T.extract 0 k).size = k := by rw [head_of, text_list, List.length_take, list_size, zT]; omega
    have e2 : (V.extract k 226).size = 226 - k := by
      rw [extract_mid, text_list, List.length_take, List.length_drop, list_size, zV]; omega
    rw [hU, ByteArray.size_append, e1, e2]; omega
  have hov : ¬ 9223372036854775807 < min k 226 + (226 - k) := by omega
  have gu := fun w => gsuper_any U (by rw [hUs]; unfold maxLen; omega) w
  rw [hg] at gu
  rw [hU] at gu
  have EQ : Hid (∀ W, (binOp .eql 34 (.agg (spc x).toArray) (.agg (spc x).toArray)).run Try.prog W = .ok (.bool true) W) := Lib.hid (fun W => by rw [eql_super x x hf hf W, eqS_self])
  have EQF : Hid (∀ W, (binOp .eql 34 (.agg (spc x).toArray) (.agg (spc y).toArray)).run Try.prog W = .ok (.bool false) W) := Lib.hid (fun W => by
    rw [eql_super x y hf kf W]
    cases he : eqS x y with
    | false => rfl
    | true => exact absurd (eqS_yes he) hxy)
  have hml := hlen
  have hmo := spc_one x
  have hmx := max_zero z
  generalize max z 0 = q at *
  have hmn := min_226 q k hk
  have k0 : (0 : Int) ≤ (k : Int) := by omega
  have k1 : (k : Int) ≤ 226 := by omega
  generalize spc x = L at *
  generalize spc y = N at *
  have B1 := Lib.hid (up_alloc (up_alloc (Below.refl w.heap.size w) (.cells L.toArray 34)) (.cells N.toArray 34))
  have P1 := Lib.hid p1
  have P2 := Lib.hid p2
  have GU := Lib.hid gu
  clear p1 p2 gu hT hV hf kf hg hUs
  go_enter Try.func8, Try.ntmps8
  go_wp2_with (refine wpList_load_row rfl 34 _ rfl w.heap.size (by rfl) _ _ _ _ HX.out hu rfl (by rw [hi, List.size_toArray, hlen]) ?_)
  generalize hw1 : (w.alloc (Obj.cells _ _)).alloc _ = w1
  have ON : Hid (OnT w.heap.size (w.heap.size + 1) L N w1) := Lib.hid (by rw [← hw1]; exact ⟨HX.out, HY.out⟩)
  replace B1 : Hid (Below w.heap.size w w1) := by rw [← hw1]; exact B1
  clear hw1 HX HY
  refine (P1.out _).mono ?_; rintro e w2 ⟨rfl, b2⟩
  replace ON := Lib.hid (ON.out.up b2)
  replace B1 := Lib.hid (up_trans B1.out b2)
  clear b2
  go_wp2_with (refine wpList_load_row rfl 34 _ rfl (w.heap.size + 1) (by rfl) _ _ _ _ ON.out.y hu rfl (by rw [hi, List.size_toArray, hleny]) ?_)
  refine (P2.out _).mono ?_; rintro e w3 ⟨rfl, b3⟩
  replace ON := Lib.hid (ON.out.up b3)
  replace B1 := Lib.hid (up_trans B1.out b3)
  clear b3
  go_wp2_with fail
  have l3 := ON.out.y.lt
  refine wp_region_held_drew (S := fun _ => True) (by kernel_rfl) (trivial) (fun hHeld => ?_)
  refine wpAnyH_take (i := 0) (v := ?_) rfl (by kernel_rfl) (by kernel_rfl) (by kernel_rfl) (fun _ _ _ h => h) (Or.inl ⟨by rfl, ?_⟩) (by assumption) ?_
  rotate_left
  · intro w hSw; (try dsimp only at hSw); go_simp; try with_reducible rfl
  try simp only [Act.put, List.getElem_toArray, List.getElem_cons_zero, List.setIfInBounds_toArray, List.set_cons_zero, List.set_cons_succ]
  refine wpAnyH_take (i := 1) (v := ?_) rfl (by kernel_rfl) (by kernel_rfl) (by kernel_rfl) (fun _ _ _ h => h) (Or.inl ⟨by rfl, ?_⟩) (by assumption) ?_
  rotate_left
  · intro w hSw; (try dsimp only at hSw); go_simp; try with_reducible rfl
  try simp only [Act.put, List.getElem_toArray, List.getElem_cons_zero, List.getElem_cons_succ, List.setIfInBounds_toArray, List.set_cons_zero, List.set_cons_succ]
  refine wpAnyH_take (i := 2) (v := ?_) rfl (by kernel_rfl) (by kernel_rfl) (by kernel_rfl) (fun _ _ _ h => h) (Or.inl ⟨by rfl, ?_⟩) (by assumption) ?_
  rotate_left
  · intro w hSw; (try dsimp only at hSw); go_simp; try with_reducible rfl
  try simp only [Act.put, List.getElem_toArray, List.getElem_cons_zero, List.getElem_cons_succ, List.setIfInBounds_toArray, List.set_cons_zero, List.set_cons_succ]
  refine wpAnyH_take (i := 3) (v := ?_) rfl (by kernel_rfl) (by kernel_rfl) (by kernel_rfl) (fun _ _ _ h => h) (Or.inl ⟨by rfl, ?_⟩) (by assumption) ?_
  rotate_left
  · intro w hSw; (try dsimp only at hSw); go_simp; try with_reducible rfl
  try simp only [Act.put, List.getElem_toArray, List.getElem_cons_zero, List.getElem_cons_succ, List.setIfInBounds_toArray, List.set_cons_zero, List.set_cons_succ]
  refine wpAnyH_take (i := 4) (v := ?_) rfl (by kernel_rfl) (by kernel_rfl) (by kernel_rfl) (fun _ _ _ h => h) (Or.inl ⟨by rfl, ?_⟩) (by assumption) ?_
  rotate_left
  · intro w hSw; (try dsimp only at hSw); go_simp; try with_reducible rfl
  try simp only [Act.put, List.getElem_toArray, List.getElem_cons_zero, List.getElem_cons_succ, List.setIfInBounds_toArray, List.set_cons_zero, List.set_cons_succ]
  refine wpAnyH_take (i := 5) (v := ?_) rfl (by kernel_rfl) (by kernel_rfl) (by kernel_rfl) (fun _ _ _ h => h) (Or.inl ⟨by rfl, ?_⟩) (by assumption) ?_
  rotate_left
  · intro w hSw; (try dsimp only at hSw); go_simp; try with_reducible rfl
  try simp only [Act.put, List.getElem_toArray, List.getElem_cons_zero, List.getElem_cons_succ, List.setIfInBounds_toArray, List.set_cons_zero, List.set_cons_succ]
  refine wpAnyH_take (i := 6) (v := ?_) rfl (by kernel_rfl) (by kernel_rfl) (by kernel_rfl) (fun _ _ _ h => h) (Or.inl ⟨by rfl, ?_⟩) (by assumption) ?_
  rotate_left
  · intro w hSw; (try dsimp only at hSw); go_simp; try with_reducible rfl
  try simp only [Act.put, List.getElem_toArray, List.getElem_cons_zero, List.getElem_cons_succ, List.setIfInBounds_toArray, List.set_cons_zero, List.set_cons_succ]
  refine wpAnyH_ready (rs := [7, 11]) (by kernel_rfl) (by simp) (AllReadyH.cons rfl (fun K hK => ?_) (AllReadyH.cons rfl (fun K hK => ?_) AllReadyH.nil))
  · skip
    go_simp
    refine (GU.out _).mono ?_; rintro e wn ⟨rfl, hbn'⟩
    have hbn : Below w3.heap.size w3 wn := up_trans (Below.refl _ _).drew hbn'
    clear hbn'
    go_wp2_with fail
    refine hK.out _ _ (trivial) (fun hHeld => ?_)
    clear hK K
    try simp only [Act.put, List.getElem_toArray, List.getElem_cons_zero, List.getElem_cons_succ, List.setIfInBounds_toArray, List.set_cons_zero, List.set_cons_succ]
    refine wpAnyH_take (i := 8) (v := ?_) rfl (by kernel_rfl) (by kernel_rfl) (by kernel_rfl) (fun _ _ _ h => h) (Or.inl ⟨by rfl, ?_⟩) (by assumption) ?_
    rotate_left
    · intro w hSw; (try dsimp only at hSw); go_simp; try with_reducible rfl
    try simp only [Act.put, List.getElem_toArray, List.getElem_cons_zero, List.getElem_cons_succ, List.setIfInBounds_toArray, List.set_cons_zero, List.set_cons_succ]
    refine wpAnyH_take (i := 9) (v := ?_) rfl (by kernel_rfl) (by kernel_rfl) (by kernel_rfl) (fun _ _ _ h => h) (Or.inl ⟨by rfl, ?_⟩) (by assumption) ?_
    rotate_left
    · intro w hSw; (try dsimp only at hSw); go_simp; try with_reducible rfl
    try simp only [Act.put, List.getElem_toArray, List.getElem_cons_zero, List.getElem_cons_succ, List.setIfInBounds_toArray, List.set_cons_zero, List.set_cons_succ]
    refine wpAnyH_take (i := 10) (v := ?_) rfl (by kernel_rfl) (by kernel_rfl) (by kernel_rfl) (fun _ _ _ h => h) (Or.inl ⟨by rfl, ?_⟩) (by assumption) ?_
    rotate_left
    · intro w hSw; (try dsimp only at hSw); go_simp; try with_reducible rfl
    try simp only [Act.put, List.getElem_toArray, List.getElem_cons_zero, List.getElem_cons_succ, List.setIfInBounds_toArray, List.set_cons_zero, List.set_cons_succ]
    refine wpAnyH_ready (rs := [11]) (by kernel_rfl) (by simp) (AllReadyH.cons rfl (fun K hK => ?_) AllReadyH.nil)
    go_simp
    refine hK.out _ _ (trivial) (fun hHeld => ?_)
    clear hK K
    try simp only [Act.put, List.getElem_toArray, List.getElem_cons_zero, List.getElem_cons_succ, List.setIfInBounds_toArray, List.set_cons_zero, List.set_cons_succ]
    generalize hGG : wn.heap.size = GG
    have hge : w3.heap.size ≤ GG := by rw [← hGG]; exact hbn.size
    have HG : Hid (Has (wn.alloc (.cells (spc noS).toArray 34)) GG 34 (spc noS)) := Lib.hid (by rw [← hGG]; exact Has.make wn 34 (spc noS))
    clear hGG
    refine wpAnyH_ready (rs := [12]) (by kernel_rfl) (by simp) (AllReadyH.cons rfl (fun K hK => ?_) AllReadyH.nil)
    refine wp_store_whole 34 _ _ rfl GG 34 (spc noS) L (by rfl) (by rfl) HG.out (by rw [hml, hz]) (by rw [hi, hml]) hmo ?_
    intro w9 hF9 hO9
    replace HG := Lib.hid hF9
    replace ON := Lib.hid (OnT.mk (hO9.keep (by omega) (ON.out.x.up (up_alloc hbn _))) (hO9.keep (by omega) (ON.out.y.up (up_alloc hbn _))))
    replace B1 := Lib.hid (hO9.below (by omega) (up_trans B1.out (up_alloc hbn _)))
    clear hF9 hO9
    refine hK.out _ _ (trivial) (fun hHeld => ?_)
    clear hK K
    try simp only [Act.put, List.getElem_toArray, List.getElem_cons_zero, List.getElem_cons_succ]
    refine wpAnyH_take (i := 13) (v := ?_) rfl (by kernel_rfl) (by kernel_rfl) (by kernel_rfl) (fun _ _ _ h => h) (Or.inl ⟨by rfl, ?_⟩) (by assumption) ?_
    rotate_left
    · intro w hSw; (try dsimp only at hSw); go_simp; try with_reducible rfl
    try simp only [Act.put, List.getElem_toArray, List.getElem_cons_zero, List.getElem_cons_succ, List.setIfInBounds_toArray, List.set_cons_zero, List.set_cons_succ]
    refine wpAnyH_done (by kernel_rfl) ?_ _
    clear hHeld
    go_wp2_with fail
    refine (headed_any _).mono ?_; rintro e w10 ⟨rfl, b10⟩
    replace HG := Lib.hid (HG.out.up b10)
    replace ON := Lib.hid (ON.out.up b10)
    replace B1 := Lib.hid (up_trans B1.out b10)
    clear b10
    go_wp2_with (first
      | (refine wpList_load_wanted (by rfl) 34 _ rfl GG (by rfl) _ _ _ _ HG.out hu rfl (by rw [hi, List.size_toArray, hml]) ?_)
      | (refine wpList_load_wanted (by rfl) 34 _ rfl (w.heap.size + 1) (by rfl) _ _ _ _ ON.out.y hu rfl (by rw [hi, List.size_toArray, hleny]) ?_; refine wpList_eql_wanted (by rfl) _ _ _ _ rfl L.toArray N.toArray (by rfl) (by rfl) noGuard_super false (fun w => EQF.out w) ?_)
      | (refine wpList_load_wanted (by rfl) 34 _ rfl w.heap.size (by rfl) _ _ _ _ ON.out.x hu rfl (by rw [hi, List.size_toArray, hlen]) ?_; refine wpList_eql_wanted (by rfl) _ _ _ _ rfl L.toArray L.toArray (by rfl) (by rfl) noGuard_super true (fun w => EQ.out w) ?_))
    go_ret
    exact ⟨rfl, B1.out⟩
  · skip
    go_simp
    refine hK.out _ _ (trivial) (fun hHeld => ?_)
    clear hK K
    try simp only [Act.put, List.getElem_toArray, List.getElem_cons_zero, List.getElem_cons_succ, List.setIfInBounds_toArray, List.set_cons_zero, List.set_cons_succ]
    generalize hGG : w3.heap.size = GG
    have hge : w3.heap.size ≤ GG := by omega
    have HG : Hid (Has (w3.drew.alloc (.cells (spc noS).toArray 34)) GG 34 (spc noS)) := Lib.hid (by rw [← hGG]; exact Has.make w3.drew 34 (spc noS))
    clear hGG
    refine wpAnyH_ready (rs := [7]) (by kernel_rfl) (by simp) (AllReadyH.cons rfl (fun K hK => ?_) AllReadyH.nil)
    go_simp
    refine (GU.out _).mono ?_; rintro e wn ⟨rfl, hbn'⟩
    replace hbn : Below w3.heap.size w3 wn := up_trans (up_alloc (Below.refl _ _).drew _) hbn'
    replace HG := Lib.hid (HG.out.up hbn')
    clear hbn'
    go_wp2_with fail
    refine hK.out _ _ (trivial) (fun hHeld => ?_)
    clear hK K
    try simp only [Act.put, List.getElem_toArray, List.getElem_cons_zero, List.getElem_cons_succ, List.setIfInBounds_toArray, List.set_cons_zero, List.set_cons_succ]
    refine wpAnyH_take (i := 8) (v := ?_) rfl (by kernel_rfl) (by kernel_rfl) (by kernel_rfl) (fun _ _ _ h => h) (Or.inl ⟨by rfl, ?_⟩) (by assumption) ?_
    rotate_left
    · intro w hSw; (try dsimp only at hSw); go_simp; try with_reducible rfl
    try simp only [Act.put, List.getElem_toArray, List.getElem_cons_zero, List.getElem_cons_succ, List.setIfInBounds_toArray, List.set_cons_zero, List.set_cons_succ]
    refine wpAnyH_take (i := 9) (v := ?_) rfl (by kernel_rfl) (by kernel_rfl) (by kernel_rfl) (fun _ _ _ h => h) (Or.inl ⟨by rfl, ?_⟩) (by assumption) ?_
    rotate_left
    · intro w hSw; (try dsimp only at hSw); go_simp; try with_reducible rfl
    try simp only [Act.put, List.getElem_toArray, List.getElem_cons_zero, List.getElem_cons_succ, List.setIfInBounds_toArray, List.set_cons_zero, List.set_cons_succ]
    refine wpAnyH_take (i := 10) (v := ?_) rfl (by kernel_rfl) (by kernel_rfl) (by kernel_rfl) (fun _ _ _ h => h) (Or.inl ⟨by rfl, ?_⟩) (by assumption) ?_
    rotate_left
    · intro w hSw; (try dsimp only at hSw); go_simp; try with_reducible rfl
    try simp only [Act.put, List.getElem_toArray, List.getElem_cons_zero, List.getElem_cons_succ, List.setIfInBounds_toArray, List.set_cons_zero, List.set_cons_succ]
    refine wpAnyH_ready (rs := [12]) (by kernel_rfl) (by simp) (AllReadyH.cons rfl (fun K hK => ?_) AllReadyH.nil)
    refine wp_store_whole 34 _ _ rfl GG 34 (spc noS) L (by rfl) (by rfl) HG.out (by rw [hml, hz]) (by rw [hi, hml]) hmo ?_
    intro w9 hF9 hO9
    replace HG := Lib.hid hF9
    replace ON := Lib.hid (OnT.mk (hO9.keep (by omega) (ON.out.x.up hbn)) (hO9.keep (by omega) (ON.out.y.up hbn)))
    replace B1 := Lib.hid (hO9.below (by omega) (up_trans B1.out hbn))
    clear hF9 hO9
    refine hK.out _ _ (trivial) (fun hHeld => ?_)
    clear hK K
    try simp only [Act.put, List.getElem_toArray, List.getElem_cons_zero, List.getElem_cons_succ]
    refine wpAnyH_take (i := 13) (v := ?_) rfl (by kernel_rfl) (by kernel_rfl) (by kernel_rfl) (fun _ _ _ h => h) (Or.inl ⟨by rfl, ?_⟩) (by assumption) ?_
    rotate_left
    · intro w hSw; (try dsimp only at hSw); go_simp; try with_reducible rfl
    try simp only [Act.put, List.getElem_toArray, List.getElem_cons_zero, List.getElem_cons_succ, List.setIfInBounds_toArray, List.set_cons_zero, List.set_cons_succ]
    refine wpAnyH_done (by kernel_rfl) ?_ _
    clear hHeld
    go_wp2_with fail
    refine (headed_any _).mono ?_; rintro e w10 ⟨rfl, b10⟩
    replace HG := Lib.hid (HG.out.up b10)
    replace ON := Lib.hid (ON.out.up b10)
    replace B1 := Lib.hid (up_trans B1.out b10)
    clear b10
    go_wp2_with (first
      | (refine wpList_load_wanted (by rfl) 34 _ rfl GG (by rfl) _ _ _ _ HG.out hu rfl (by rw [hi, List.size_toArray, hml]) ?_)
      | (refine wpList_load_wanted (by rfl) 34 _ rfl (w.heap.size + 1) (by rfl) _ _ _ _ ON.out.y hu rfl (by rw [hi, List.size_toArray, hleny]) ?_; refine wpList_eql_wanted (by rfl) _ _ _ _ rfl L.toArray N.toArray (by rfl) (by rfl) noGuard_super false (fun w => EQF.out w) ?_)
      | (refine wpList_load_wanted (by rfl) 34 _ rfl w.heap.size (by rfl) _ _ _ _ ON.out.x hu rfl (by rw [hi, List.size_toArray, hlen]) ?_; refine wpList_eql_wanted (by rfl) _ _ _ _ rfl L.toArray L.toArray (by rfl) (by rfl) noGuard_super true (fun w => EQ.out w) ?_))
    go_ret
    exact ⟨rfl, B1.out⟩

set_option maxHeartbeats 4000000 in
set_option maxRecDepth 100000 in
theorem HeaderTorn_blank_err (x y : Sp) (hf : x.Fits) (kf : y.Fits) (z : Int) (k : Nat) (hk : min (max z 0) 226 = (k : Int)) (T V U : ByteArray) (hT : T = ⟨(putS y).toArray⟩) (hV : V = ⟨(List.replicate 226 0).toArray⟩) (hU : U = T.extract 0 k ++ V.extract k 226) (m : Nat) (hm : m ≠ 0) (hk226 : k < 226) (hg : gotS U.data.toList = (noS, m)) (w : World) :
    Calls Try.prog 8 #[.agg (spc x).toArray, .agg (spc y).toArray, .int .i64 z, .bool true] w fun e w' => e = .returned (.bool true) ∧ Below w.heap.size w w' := by
  have HX := Lib.hid ((Has.make w 34 (spc x)).alloc (.cells (spc y).toArray 34))
  have HY := Lib.hid (Has.make2 w (.cells (spc x).toArray 34) 34 (spc y))
  have zv := zero_super
  have hz : (spc noS).length = 70 := spc_length noS_fits
  have hi := info_super
  have hu := Try.underlying34
  have hlen := spc_length hf
  have hleny := spc_length kf
  have p1 := fun w => psuper_any x hf w
  have p2 := fun w => psuper_any y kf w
  rw [← hT] at p2
  have zT : T.size = 226 := by rw [hT, text_list, putS_len kf]
  obtain ⟨R, hR⟩ : ∃ R : ByteArray, R = ⟨(putS x).toArray⟩ := ⟨_, rfl⟩
  rw [← hR] at p1
  have zR : R.size = 226 := by rw [hR, text_list, putS_len hf]
  have zV : V.size = 226 := by rw [hV, text_list, List.length_replicate]
  obtain ⟨C, hC⟩ : ∃ C, C = (bys (List.replicate 226 0)).toArray := ⟨_, rfl⟩
  have m1 : ∀ w : World, (Instr.makeSlice 43 (.int .i64 226) (.int .i64 226)).run Try.prog w = .ok (.slice (some ⟨w.heap.size, 0, none⟩) 226 226) (w.alloc (.cells C 5)) := fun w => by
    rw [hC]; exact run_make_bys 226 226 (by omega) (by omega) w
  have m2 : ∀ w : World, (convert 43 9 (.slice (some ⟨w.heap.size, 0, none⟩) 226 226)).run Try.prog (w.alloc (.cells C 5)) = .ok (.string V) (w.alloc (.cells C 5)) := fun w => by
    rw [hC, hV]
    exact bytes_of (List.replicate 226 0) 226 (by simp) _ _ 0 (Has.make w 5 (bys (List.replicate 226 0))).whole
  clear hC hR
  have hUs : U.size = 226 := by
    have e1 : (T.extract 0 k).size = k := by rw [head_of, text_list, List.length_take, list_size, zT]; omega
    have e2 : (V.extract k 226).size = 226 - k := by
      rw [extract_mid, text_list, List.length_take, List.length_drop, list_size, zV]; omega
    rw [hU, ByteArray.size_append, e1, e2]; omega
  have hov : ¬ 9223372036854775807 < min k 226 + (226 - k) := by omega
  have gu := fun w => gsuper_any U (by rw [hUs]; unfold maxLen; omega) w
  rw [hg] at gu
  rw [hU] at gu
  obtain ⟨M, hM⟩ : ∃ M, M = spc noS := ⟨_, rfl⟩
  rw [← hM] at gu
  have hml : M.length = 70 := by rw [hM, hz]
  have hmo : ∀ v ∈ M, v.oneCell' = true := by rw [hM]; exact spc_one noS
  have EQ : Hid (∀ W, (binOp .eql 34 (.agg M.toArray) (.agg (spc noS).toArray)).run Try.prog W = .ok (.bool true) W) := Lib.hid (fun W => by rw [hM, eql_super noS noS noS_fits noS_fits W, eqS_self])
  have dm : ((m : Int) == 0) = false := by rw [beq_eq_false_iff_ne]; omega
  have dm2 : ((m : Int) != 0) = true := by rw [bne_iff_ne]; omega
  clear hM
  have hmx := max_zero z
  generalize max z 0 = q at *
  have hmn := min_226 q k hk
  have k0 : (0 : Int) ≤ (k : Int) := by omega
  have k1 : (k : Int) ≤ 226 := by omega
  have d226 : (k : Int) < 226 := by omega
  generalize spc x = L at *
  generalize spc y = N at *
  have B1 := Lib.hid (up_alloc (up_alloc (Below.refl w.heap.size w) (.cells L.toArray 34)) (.cells N.toArray 34))
  have P1 := Lib.hid p1
  have P2 := Lib.hid p2
  have GU := Lib.hid gu
  clear p1 p2 gu hT hV hf kf hg hUs hm hk226
  go_enter Try.func8, Try.ntmps8
  go_wp2_with (refine wpList_load_row rfl 34 _ rfl w.heap.size (by rfl) _ _ _ _ HX.out hu rfl (by rw [hi, List.size_toArray, hlen]) ?_)
  generalize hw1 : (w.alloc (Obj.cells _ _)).alloc _ = w1
  have ON : Hid (OnT w.heap.size (w.heap.size + 1) L N w1) := Lib.hid (by rw [← hw1]; exact ⟨HX.out, HY.out⟩)
  replace B1 : Hid (Below w.heap.size w w1) := by rw [← hw1]; exact B1
  clear hw1 HX HY
  refine (P1.out _).mono ?_; rintro e w2 ⟨rfl, b2⟩
  replace ON := Lib.hid (ON.out.up b2)
  replace B1 := Lib.hid (up_trans B1.out b2)
  clear b2
  go_wp2_with (refine wpList_load_row rfl 34 _ rfl (w.heap.size + 1) (by rfl) _ _ _ _ ON.out.y hu rfl (by rw [hi, List.size_toArray, hleny]) ?_)
  refine (P2.out _).mono ?_; rintro e w3 ⟨rfl, b3⟩
  replace ON := Lib.hid (ON.out.up b3)
  replace B1 := Lib.hid (up_trans B1.out b3)
  clear b3
  go_wp2_with fail
  generalize hw4 : w3.alloc _ = w4
  replace ON : Hid (OnT w.heap.size (w.heap.size + 1) L N w4) := Lib.hid (by rw [← hw4]; exact ⟨ON.out.x.alloc _, ON.out.y.alloc _⟩)
  replace B1 : Hid (Below w.heap.size w w4) := Lib.hid (by rw [← hw4]; exact up_alloc B1.out _)
  clear hw4
  generalize w4 = w3 at *
  have l3 := ON.out.y.lt
  refine wp_region_held_drew (S := fun _ => True) (by kernel_rfl) (trivial) (fun hHeld => ?_)
  refine wpAnyH_take (i := 0) (v := ?_) rfl (by kernel_rfl) (by kernel_rfl) (by kernel_rfl) (fun _ _ _ h => h) (Or.inl ⟨by rfl, ?_⟩) (by assumption) ?_
  rotate_left
  · intro w hSw; (try dsimp only at hSw); go_simp; try with_reducible rfl
  try simp only [Act.put, List.getElem_toArray, List.getElem_cons_zero, List.setIfInBounds_toArray, List.set_cons_zero, List.set_cons_succ]
  refine wpAnyH_take (i := 1) (v := ?_) rfl (by kernel_rfl) (by kernel_rfl) (by kernel_rfl) (fun _ _ _ h => h) (Or.inl ⟨by rfl, ?_⟩) (by assumption) ?_
  rotate_left
  · intro w hSw; (try dsimp only at hSw); go_simp; try with_reducible rfl
  try simp only [Act.put, List.getElem_toArray, List.getElem_cons_zero, List.getElem_cons_succ, List.setIfInBounds_toArray, List.set_cons_zero, List.set_cons_succ]
  refine wpAnyH_take (i := 2) (v := ?_) rfl (by kernel_rfl) (by kernel_rfl) (by kernel_rfl) (fun _ _ _ h => h) (Or.inl ⟨by rfl, ?_⟩) (by assumption) ?_
  rotate_left
  · intro w hSw; (try dsimp only at hSw); go_simp; try with_reducible rfl
  try simp only [Act.put, List.getElem_toArray, List.getElem_cons_zero, List.getElem_cons_succ, List.setIfInBounds_toArray, List.set_cons_zero, List.set_cons_succ]
  refine wpAnyH_take (i := 3) (v := ?_) rfl (by kernel_rfl) (by kernel_rfl) (by kernel_rfl) (fun _ _ _ h => h) (Or.inl ⟨by rfl, ?_⟩) (by assumption) ?_
  rotate_left
  · intro w hSw; (try dsimp only at hSw); go_simp; try with_reducible rfl
  try simp only [Act.put, List.getElem_toArray, List.getElem_cons_zero, List.getElem_cons_succ, List.setIfInBounds_toArray, List.set_cons_zero, List.set_cons_succ]
  refine wpAnyH_take (i := 4) (v := ?_) rfl (by kernel_rfl) (by kernel_rfl) (by kernel_rfl) (fun _ _ _ h => h) (Or.inl ⟨by rfl, ?_⟩) (by assumption) ?_
  rotate_left
  · intro w hSw; (try dsimp only at hSw); go_simp; try with_reducible rfl
  try simp only [Act.put, List.getElem_toArray, List.getElem_cons_zero, List.getElem_cons_succ, List.setIfInBounds_toArray, List.set_cons_zero, List.set_cons_succ]
  refine wpAnyH_take (i := 5) (v := ?_) rfl (by kernel_rfl) (by kernel_rfl) (by kernel_rfl) (fun _ _ _ h => h) (Or.inl ⟨by rfl, ?_⟩) (by assumption) ?_
  rotate_left
  · intro w hSw; (try dsimp only at hSw); go_simp; try with_reducible rfl
  try simp only [Act.put, List.getElem_toArray, List.getElem_cons_zero, List.getElem_cons_succ, List.setIfInBounds_toArray, List.set_cons_zero, List.set_cons_succ]
  refine wpAnyH_take (i := 6) (v := ?_) rfl (by kernel_rfl) (by kernel_rfl) (by kernel_rfl) (fun _ _ _ h => h) (Or.inl ⟨by rfl, ?_⟩) (by assumption) ?_
  rotate_left
  · intro w hSw; (try dsimp only at hSw); go_simp; try with_reducible rfl
  try simp only [Act.put, List.getElem_toArray, List.getElem_cons_zero, List.getElem_cons_succ, List.setIfInBounds_toArray, List.set_cons_zero, List.set_cons_succ]
  refine wpAnyH_ready (rs := [7, 11]) (by kernel_rfl) (by simp) (AllReadyH.cons rfl (fun K hK => ?_) (AllReadyH.cons rfl (fun K hK => ?_) AllReadyH.nil))
  · skip
    go_simp
    refine (GU.out _).mono ?_; rintro e wn ⟨rfl, hbn'⟩
    have hbn : Below w3.heap.size w3 wn := up_trans (Below.refl _ _).drew hbn'
    clear hbn'
    go_wp2_with fail
    refine hK.out _ _ (trivial) (fun hHeld => ?_)
    clear hK K
    try simp only [Act.put, List.getElem_toArray, List.getElem_cons_zero, List.getElem_cons_succ, List.setIfInBounds_toArray, List.set_cons_zero, List.set_cons_succ]
    refine wpAnyH_take (i := 8) (v := ?_) rfl (by kernel_rfl) (by kernel_rfl) (by kernel_rfl) (fun _ _ _ h => h) (Or.inl ⟨by rfl, ?_⟩) (by assumption) ?_
    rotate_left
    · intro w hSw; (try dsimp only at hSw); go_simp; try with_reducible rfl
    try simp only [Act.put, List.getElem_toArray, List.getElem_cons_zero, List.getElem_cons_succ, List.setIfInBounds_toArray, List.set_cons_zero, List.set_cons_succ]
    refine wpAnyH_take (i := 9) (v := ?_) rfl (by kernel_rfl) (by kernel_rfl) (by kernel_rfl) (fun _ _ _ h => h) (Or.inl ⟨by rfl, ?_⟩) (by assumption) ?_
    rotate_left
    · intro w hSw; (try dsimp only at hSw); go_simp; try with_reducible rfl
    try simp only [Act.put, List.getElem_toArray, List.getElem_cons_zero, List.getElem_cons_succ, List.setIfInBounds_toArray, List.set_cons_zero, List.set_cons_succ]
    refine wpAnyH_take (i := 10) (v := ?_) rfl (by kernel_rfl) (by kernel_rfl) (by kernel_rfl) (fun _ _ _ h => h) (Or.inl ⟨by rfl, ?_⟩) (by assumption) ?_
    rotate_left
    · intro w hSw; (try dsimp only at hSw); go_simp; try with_reducible rfl
    try simp only [Act.put, List.getElem_toArray, List.getElem_cons_zero, List.getElem_cons_succ, List.setIfInBounds_toArray, List.set_cons_zero, List.set_cons_succ]
    refine wpAnyH_ready (rs := [11]) (by kernel_rfl) (by simp) (AllReadyH.cons rfl (fun K hK => ?_) AllReadyH.nil)
    go_simp
    refine hK.out _ _ (trivial) (fun hHeld => ?_)
    clear hK K
    try simp only [Act.put, List.getElem_toArray, List.getElem_cons_zero, List.getElem_cons_succ, List.setIfInBounds_toArray, List.set_cons_zero, List.set_cons_succ]
    generalize hGG : wn.heap.size = GG
    have hge : w3.heap.size ≤ GG := by rw [← hGG]; exact hbn.size
    have HG : Hid (Has (wn.alloc (.cells (spc noS).toArray 34)) GG 34 (spc noS)) := Lib.hid (by rw [← hGG]; exact Has.make wn 34 (spc noS))
    clear hGG
    refine wpAnyH_ready (rs := [12]) (by kernel_rfl) (by simp) (AllReadyH.cons rfl (fun K hK => ?_) AllReadyH.nil)
    refine wp_store_whole 34 _ _ rfl GG 34 (spc noS) M (by rfl) (by rfl) HG.out (by rw [hml, hz]) (by rw [hi, hml]) hmo ?_
    intro w9 hF9 hO9
    replace HG := Lib.hid hF9
    replace ON := Lib.hid (OnT.mk (hO9.keep (by omega) (ON.out.x.up (up_alloc hbn _))) (hO9.keep (by omega) (ON.out.y.up (up_alloc hbn _))))
    replace B1 := Lib.hid (hO9.below (by omega) (up_trans B1.out (up_alloc hbn _)))
    clear hF9 hO9
    refine hK.out _ _ (trivial) (fun hHeld => ?_)
    clear hK K
    try simp only [Act.put, List.getElem_toArray, List.getElem_cons_zero, List.getElem_cons_succ]
    refine wpAnyH_take (i := 13) (v := ?_) rfl (by kernel_rfl) (by kernel_rfl) (by kernel_rfl) (fun _ _ _ h => h) (Or.inl ⟨by rfl, ?_⟩) (by assumption) ?_
    rotate_left
    · intro w hSw; (try dsimp only at hSw); go_simp; try with_reducible rfl
    try simp only [Act.put, List.getElem_toArray, List.getElem_cons_zero, List.getElem_cons_succ, List.setIfInBounds_toArray, List.set_cons_zero, List.set_cons_succ]
    refine wpAnyH_done (by kernel_rfl) ?_ _
    clear hHeld
    go_wp2_with fail
    refine (headed_any _).mono ?_; rintro e w10 ⟨rfl, b10⟩
    replace HG := Lib.hid (HG.out.up b10)
    replace ON := Lib.hid (ON.out.up b10)
    replace B1 := Lib.hid (up_trans B1.out b10)
    clear b10
    go_wp2_with (first
      | (refine wpList_load_wanted (by rfl) 34 _ rfl GG (by rfl) _ _ _ _ HG.out hu rfl (by rw [hi, List.size_toArray, hml]) ?_)
      | (refine wpList_eql_wanted (by rfl) _ _ _ _ rfl M.toArray (spc noS).toArray (by rfl) (by rfl) noGuard_super true (fun w => EQ.out w) ?_))
    go_ret
    exact ⟨rfl, B1.out⟩
  · skip
    go_simp
    refine hK.out _ _ (trivial) (fun hHeld => ?_)
    clear hK K
    try simp only [Act.put, List.getElem_toArray, List.getElem_cons_zero, List.getElem_cons_succ, List.setIfInBounds_toArray, List.set_cons_zero, List.set_cons_succ]
    generalize hGG : w3.heap.size = GG
    have hge : w3.heap.size ≤ GG := by omega
    have HG : Hid (Has (w3.drew.alloc (.cells (spc noS).toArray 34)) GG 34 (spc noS)) := Lib.hid (by rw [← hGG]; exact Has.make w3.drew 34 (spc noS))
    clear hGG
    refine wpAnyH_ready (rs := [7]) (by kernel_rfl) (by simp) (AllReadyH.cons rfl (fun K hK => ?_) AllReadyH.nil)
    go_simp
    refine (GU.out _).mono ?_; rintro e wn ⟨rfl, hbn'⟩
    replace hbn : Below w3.heap.size w3 wn := up_trans (up_alloc (Below.refl _ _).drew _) hbn'
    replace HG := Lib.hid (HG.out.up hbn')
    clear hbn'
    go_wp2_with fail
    refine hK.out _ _ (trivial) (fun hHeld => ?_)
    clear hK K
    try simp only [Act.put, List.getElem_toArray, List.getElem_cons_zero, List.getElem_cons_succ, List.setIfInBounds_toArray, List.set_cons_zero, List.set_cons_succ]
    refine wpAnyH_take (i := 8) (v := ?_) rfl (by kernel_rfl) (by kernel_rfl) (by kernel_rfl) (fun _ _ _ h => h) (Or.inl ⟨by rfl, ?_⟩) (by assumption) ?_
    rotate_left
    · intro w hSw; (try dsimp only at hSw); go_simp; try with_reducible rfl
    try simp only [Act.put, List.getElem_toArray, List.getElem_cons_zero, List.getElem_cons_succ, List.setIfInBounds_toArray, List.set_cons_zero, List.set_cons_succ]
    refine wpAnyH_take (i := 9) (v := ?_) rfl (by kernel_rfl) (by kernel_rfl) (by kernel_rfl) (fun _ _ _ h => h) (Or.inl ⟨by rfl, ?_⟩) (by assumption) ?_
    rotate_left
    · intro w hSw; (try dsimp only at hSw); go_simp; try with_reducible rfl
    try simp only [Act.put, List.getElem_toArray, List.getElem_cons_zero, List.getElem_cons_succ, List.setIfInBounds_toArray, List.set_cons_zero, List.set_cons_succ]
    refine wpAnyH_take (i := 10) (v := ?_) rfl (by kernel_rfl) (by kernel_rfl) (by kernel_rfl) (fun _ _ _ h => h) (Or.inl ⟨by rfl, ?_⟩) (by assumption) ?_
    rotate_left
    · intro w hSw; (try dsimp only at hSw); go_simp; try with_reducible rfl
    try simp only [Act.put, List.getElem_toArray, List.getElem_cons_zero, List.getElem_cons_succ, List.setIfInBounds_toArray, List.set_cons_zero, List.set_cons_succ]
    refine wpAnyH_ready (rs := [12]) (by kernel_rfl) (by simp) (AllReadyH.cons rfl (fun K hK => ?_) AllReadyH.nil)
    refine wp_store_whole 34 _ _ rfl GG 34 (spc noS) M (by rfl) (by rfl) HG.out (by rw [hml, hz]) (by rw [hi, hml]) hmo ?_
    intro w9 hF9 hO9
    replace HG := Lib.hid hF9
    replace ON := Lib.hid (OnT.mk (hO9.keep (by omega) (ON.out.x.up hbn)) (hO9.keep (by omega) (ON.out.y.up hbn)))
    replace B1 := Lib.hid (hO9.below (by omega) (up_trans B1.out hbn))
    clear hF9 hO9
    refine hK.out _ _ (trivial) (fun hHeld => ?_)
    clear hK K
    try simp only [Act.put, List.getElem_toArray, List.getElem_cons_zero, List.getElem_cons_succ]
    refine wpAnyH_take (i := 13) (v := ?_) rfl (by kernel_rfl) (by kernel_rfl) (by kernel_rfl) (fun _ _ _ h => h) (Or.inl ⟨by rfl, ?_⟩) (by assumption) ?_
    rotate_left
    · intro w hSw; (try dsimp only at hSw); go_simp; try with_reducible rfl
    try simp only [Act.put, List.getElem_toArray, List.getElem_cons_zero, List.getElem_cons_succ, List.setIfInBounds_toArray, List.set_cons_zero, List.set_cons_succ]
    refine wpAnyH_done (by kernel_rfl) ?_ _
    clear hHeld
    go_wp2_with fail
    refine (headed_any _).mono ?_; rintro e w10 ⟨rfl, b10⟩
    replace HG := Lib.hid (HG.out.up b10)
    replace ON := Lib.hid (ON.out.up b10)
    replace B1 := Lib.hid (up_trans B1.out b10)
    clear b10
    go_wp2_with (first
      | (refine wpList_load_wanted (by rfl) 34 _ rfl GG (by rfl) _ _ _ _ HG.out hu rfl (by rw [hi, List.size_toArray, hml]) ?_)
      | (refine wpList_eql_wanted (by rfl) _ _ _ _ rfl M.toArray (spc noS).toArray (by rfl) (by rfl) noGuard_super true (fun w => EQ.out w) ?_))
    go_ret
    exact ⟨rfl, B1.out⟩

set_option maxHeartbeats 4000000 in
set_option maxRecDepth 100000 in
theorem HeaderTorn_blank_new (x y : Sp) (hf : x.Fits) (kf : y.Fits) (z : Int) (k : Nat) (hk : min (max z 0) 226 = (k : Int)) (T V U : ByteArray) (hT : T = ⟨(putS y).toArray⟩) (hV : V = ⟨(List.replicate 226 0).toArray⟩) (hU : U = T.extract 0 k ++ V.extract k 226) (hg : gotS U.data.toList = (y, 0)) (w : World) :
    Calls Try.prog 8 #[.agg (spc x).toArray, .agg (spc y).toArray, .int .i64 z, .bool true] w fun e w' => e = .returned (.bool true) ∧ Below w.heap.size w w' := by
  have HX := Lib.hid ((Has.make w 34 (spc x)).alloc (.cells (spc y).toArray 34))
  have HY := Lib.hid (Has.make2 w (.cells (spc x).toArray 34) 34 (spc y))
  have zv := zero_super
  have hz : (spc noS).length = 70 := spc_length noS_fits
  have hi := info_super
  have hu := Try.underlying34
  have hlen := spc_length hf
  have hleny := spc_length kf
  have p1 := fun w => psuper_any x hf w
  have p2 := fun w => psuper_any y kf w
  rw [← hT] at p2
  have zT : T.size = 226 := by rw [hT, text_list, putS_len kf]
  obtain ⟨R, hR⟩ : ∃ R : ByteArray, R = ⟨(putS x).toArray⟩ := ⟨_, rfl⟩
  rw [← hR] at p1
  have zR : R.size = 226 := by rw [hR, text_list, putS_len hf]
  have zV : V.size = 226 := by rw [hV, text_list, List.length_replicate]
  obtain ⟨C, hC⟩ : ∃ C, C = (bys (List.replicate 226 0)).toArray := ⟨_, rfl⟩
  have m1 : ∀ w : World, (Instr.makeSlice 43 (.int .i64 226) (.int .i64 226)).run Try.prog w = .ok (.slice (some ⟨w.heap.size, 0, none⟩) 226 226) (w.alloc (.cells C 5)) := fun w => by
    rw [hC]; exact run_make_bys 226 226 (by omega) (by omega) w
  have m2 : ∀ w : World, (convert 43 9 (.slice (some ⟨w.heap.size, 0, none⟩) 226 226)).run Try.prog (w.alloc (.cells C 5)) = .ok (.string V) (w.alloc (.cells C 5)) := fun w => by
    rw [hC, hV]
    exact bytes_of (List.replicate 226 0) 226 (by simp) _ _ 0 (Has.make w 5 (bys (List.replicate 226 0))).whole
  clear hC hR
  have hUs : U.size = 226 := by
    have e1 : (T.extract 0 k).size = k := by rw [head_of, text_list, List.length_take, list_size, zT]; omega
    have e2 : (V.extract k 226).size = 226 - k := by
      rw [extract_mid, text_list, List.length_take, List.length_drop, list_size, zV]; omega
    rw [hU, ByteArray.size_append, e1, e2]; omega
  have hov : ¬ 9223372036854775807 < min k 226 + (226 - k) := by omega
  have gu := fun w => gsuper_any U (by rw [hUs]; unfold maxLen; omega) w
  rw [hg] at gu
  rw [hU] at gu
  have EQ : Hid (∀ W, (binOp .eql 34 (.agg (spc y).toArray) (.agg (spc y).toArray)).run Try.prog W = .ok (.bool true) W) := Lib.hid (fun W => by rw [eql_super y y kf kf W, eqS_self])
  have hml := hleny
  have hmo := spc_one y
  have hmx := max_zero z
  generalize max z 0 = q at *
  have hmn := min_226 q k hk
  have k0 : (0 : Int) ≤ (k : Int) := by omega
  have k1 : (k : Int) ≤ 226 := by omega
  generalize spc x = L at *
  generalize spc y = N at *
  have B1 := Lib.hid (up_alloc (up_alloc (Below.refl w.heap.size w) (.cells L.toArray 34)) (.cells N.toArray 34))
  have P1 := Lib.hid p1
  have P2 := Lib.hid p2
  have GU := Lib.hid gu
  clear p1 p2 gu hT hV hf kf hg hUs
  go_enter Try.func8, Try.ntmps8
  go_wp2_with (refine wpList_load_row rfl 34 _ rfl w.heap.size (by rfl) _ _ _ _ HX.out hu rfl (by rw [hi, List.size_toArray, hlen]) ?_)
  generalize hw1 : (w.alloc (Obj.cells _ _)).alloc _ = w1
  have ON : Hid (OnT w.heap.size (w.heap.size + 1) L N w1) := Lib.hid (by rw [← hw1]; exact ⟨HX.out, HY.out⟩)
  replace B1 : Hid (Below w.heap.size w w1) := by rw [← hw1]; exact B1
  clear hw1 HX HY
  refine (P1.out _).mono ?_; rintro e w2 ⟨rfl, b2⟩
  replace ON := Lib.hid (ON.out.up b2)
  replace B1 := Lib.hid (up_trans B1.out b2)
  clear b2
  go_wp2_with (refine wpList_load_row rfl 34 _ rfl (w.heap.size + 1) (by rfl) _ _ _ _ ON.out.y hu rfl (by rw [hi, List.size_toArray, hleny]) ?_)
  refine (P2.out _).mono ?_; rintro e w3 ⟨rfl, b3⟩
  replace ON := Lib.hid (ON.out.up b3)
  replace B1 := Lib.hid (up_trans B1.out b3)
  clear b3
  go_wp2_with fail
  generalize hw4 : w3.alloc _ = w4
  replace ON : Hid (OnT w.heap.size (w.heap.size + 1) L N w4) := Lib.hid (by rw [← hw4]; exact ⟨ON.out.x.alloc _, ON.out.y.alloc _⟩)
  replace B1 : Hid (Below w.heap.size w w4) := Lib.hid (by rw [← hw4]; exact up_alloc B1.out _)
  clear hw4
  generalize w4 = w3 at *
  have l3 := ON.out.y.lt
  refine wp_region_held_drew (S := fun _ => True) (by kernel_rfl) (trivial) (fun hHeld => ?_)
  refine wpAnyH_take (i := 0) (v := ?_) rfl (by kernel_rfl) (by kernel_rfl) (by kernel_rfl) (fun _ _ _ h => h) (Or.inl ⟨by rfl, ?_⟩) (by assumption) ?_
  rotate_left
  · intro w hSw; (try dsimp only at hSw); go_simp; try with_reducible rfl
  try simp only [Act.put, List.getElem_toArray, List.getElem_cons_zero, List.setIfInBounds_toArray, List.set_cons_zero, List.set_cons_succ]
  refine wpAnyH_take (i := 1) (v := ?_) rfl (by kernel_rfl) (by kernel_rfl) (by kernel_rfl) (fun _ _ _ h => h) (Or.inl ⟨by rfl, ?_⟩) (by assumption) ?_
  rotate_left
  · intro w hSw; (try dsimp only at hSw); go_simp; try with_reducible rfl
  try simp only [Act.put, List.getElem_toArray, List.getElem_cons_zero, List.getElem_cons_succ, List.setIfInBounds_toArray, List.set_cons_zero, List.set_cons_succ]
  refine wpAnyH_take (i := 2) (v := ?_) rfl (by kernel_rfl) (by kernel_rfl) (by kernel_rfl) (fun _ _ _ h => h) (Or.inl ⟨by rfl, ?_⟩) (by assumption) ?_
  rotate_left
  · intro w hSw; (try dsimp only at hSw); go_simp; try with_reducible rfl
  try simp only [Act.put, List.getElem_toArray, List.getElem_cons_zero, List.getElem_cons_succ, List.setIfInBounds_toArray, List.set_cons_zero, List.set_cons_succ]
  refine wpAnyH_take (i := 3) (v := ?_) rfl (by kernel_rfl) (by kernel_rfl) (by kernel_rfl) (fun _ _ _ h => h) (Or.inl ⟨by rfl, ?_⟩) (by assumption) ?_
  rotate_left
  · intro w hSw; (try dsimp only at hSw); go_simp; try with_reducible rfl
  try simp only [Act.put, List.getElem_toArray, List.getElem_cons_zero, List.getElem_cons_succ, List.setIfInBounds_toArray, List.set_cons_zero, List.set_cons_succ]
  refine wpAnyH_take (i := 4) (v := ?_) rfl (by kernel_rfl) (by kernel_rfl) (by kernel_rfl) (fun _ _ _ h => h) (Or.inl ⟨by rfl, ?_⟩) (by assumption) ?_
  rotate_left
  · intro w hSw; (try dsimp only at hSw); go_simp; try with_reducible rfl
  try simp only [Act.put, List.getElem_toArray, List.getElem_cons_zero, List.getElem_cons_succ, List.setIfInBounds_toArray, List.set_cons_zero, List.set_cons_succ]
  refine wpAnyH_take (i := 5) (v := ?_) rfl (by kernel_rfl) (by kernel_rfl) (by kernel_rfl) (fun _ _ _ h => h) (Or.inl ⟨by rfl, ?_⟩) (by assumption) ?_
  rotate_left
  · intro w hSw; (try dsimp only at hSw); go_simp; try with_reducible rfl
  try simp only [Act.put, List.getElem_toArray, List.getElem_cons_zero, List.getElem_cons_succ, List.setIfInBounds_toArray, List.set_cons_zero, List.set_cons_succ]
  refine wpAnyH_take (i := 6) (v := ?_) rfl (by kernel_rfl) (by kernel_rfl) (by kernel_rfl) (fun _ _ _ h => h) (Or.inl ⟨by rfl, ?_⟩) (by assumption) ?_
  rotate_left
  · intro w hSw; (try dsimp only at hSw); go_simp; try with_reducible rfl
  try simp only [Act.put, List.getElem_toArray, List.getElem_cons_zero, List.getElem_cons_succ, List.setIfInBounds_toArray, List.set_cons_zero, List.set_cons_succ]
  refine wpAnyH_ready (rs := [7, 11]) (by kernel_rfl) (by simp) (AllReadyH.cons rfl (fun K hK => ?_) (AllReadyH.cons rfl (fun K hK => ?_) AllReadyH.nil))
  · skip
    go_simp
    refine (GU.out _).mono ?_; rintro e wn ⟨rfl, hbn'⟩
    have hbn : Below w3.heap.size w3 wn := up_trans (Below.refl _ _).drew hbn'
    clear hbn'
    go_wp2_with fail
    refine hK.out _ _ (trivial) (fun hHeld => ?_)
    clear hK K
    try simp only [Act.put, List.getElem_toArray, List.getElem_cons_zero, List.getElem_cons_succ, List.setIfInBounds_toArray, List.set_cons_zero, List.set_cons_succ]
    refine wpAnyH_take (i := 8) (v := ?_) rfl (by kernel_rfl) (by kernel_rfl) (by kernel_rfl) (fun _ _ _ h => h) (Or.inl ⟨by rfl, ?_⟩) (by assumption) ?_
    rotate_left
    · intro w hSw; (try dsimp only at hSw); go_simp; try with_reducible rfl
    try simp only [Act.put, List.getElem_toArray, List.getElem_cons_zero, List.getElem_cons_succ, List.setIfInBounds_toArray, List.set_cons_zero, List.set_cons_succ]
    refine wpAnyH_take (i := 9) (v := ?_) rfl (by kernel_rfl) (by kernel_rfl) (by kernel_rfl) (fun _ _ _ h => h) (Or.inl ⟨by rfl, ?_⟩) (by assumption) ?_
    rotate_left
    · intro w hSw; (try dsimp only at hSw); go_simp; try with_reducible rfl
    try simp only [Act.put, List.getElem_toArray, List.getElem_cons_zero, List.getElem_cons_succ, List.setIfInBounds_toArray, List.set_cons_zero, List.set_cons_succ]
    refine wpAnyH_take (i := 10) (v := ?_) rfl (by kernel_rfl) (by kernel_rfl) (by kernel_rfl) (fun _ _ _ h => h) (Or.inl ⟨by rfl, ?_⟩) (by assumption) ?_
    rotate_left
    · intro w hSw; (try dsimp only at hSw); go_simp; try with_reducible rfl
    try simp only [Act.put, List.getElem_toArray, List.getElem_cons_zero, List.getElem_cons_succ, List.setIfInBounds_toArray, List.set_cons_zero, List.set_cons_succ]
    refine wpAnyH_ready (rs := [11]) (by kernel_rfl) (by simp) (AllReadyH.cons rfl (fun K hK => ?_) AllReadyH.nil)
    go_simp
    refine hK.out _ _ (trivial) (fun hHeld => ?_)
    clear hK K
    try simp only [Act.put, List.getElem_toArray, List.getElem_cons_zero, List.getElem_cons_succ, List.setIfInBounds_toArray, List.set_cons_zero, List.set_cons_succ]
    generalize hGG : wn.heap.size = GG
    have hge : w3.heap.size ≤ GG := by rw [← hGG]; exact hbn.size
    have HG : Hid (Has (wn.alloc (.cells (spc noS).toArray 34)) GG 34 (spc noS)) := Lib.hid (by rw [← hGG]; exact Has.make wn 34 (spc noS))
    clear hGG
    refine wpAnyH_ready (rs := [12]) (by kernel_rfl) (by simp) (AllReadyH.cons rfl (fun K hK => ?_) AllReadyH.nil)
    refine wp_store_whole 34 _ _ rfl GG 34 (spc noS) N (by rfl) (by rfl) HG.out (by rw [hml, hz]) (by rw [hi, hml]) hmo ?_
    intro w9 hF9 hO9
    replace HG := Lib.hid hF9
    replace ON := Lib.hid (OnT.mk (hO9.keep (by omega) (ON.out.x.up (up_alloc hbn _))) (hO9.keep (by omega) (ON.out.y.up (up_alloc hbn _))))
    replace B1 := Lib.hid (hO9.below (by omega) (up_trans B1.out (up_alloc hbn _)))
    clear hF9 hO9
    refine hK.out _ _ (trivial) (fun hHeld => ?_)
    clear hK K
    try simp only [Act.put, List.getElem_toArray, List.getElem_cons_zero, List.getElem_cons_succ]
    refine wpAnyH_take (i := 13) (v := ?_) rfl (by kernel_rfl) (by kernel_rfl) (by kernel_rfl) (fun _ _ _ h => h) (Or.inl ⟨by rfl, ?_⟩) (by assumption) ?_
    rotate_left
    · intro w hSw; (try dsimp only at hSw); go_simp; try with_reducible rfl
    try simp only [Act.put, List.getElem_toArray, List.getElem_cons_zero, List.getElem_cons_succ, List.setIfInBounds_toArray, List.set_cons_zero, List.set_cons_succ]
    refine wpAnyH_done (by kernel_rfl) ?_ _
    clear hHeld
    go_wp2_with fail
    refine (headed_any _).mono ?_; rintro e w10 ⟨rfl, b10⟩
    replace HG := Lib.hid (HG.out.up b10)
    replace ON := Lib.hid (ON.out.up b10)
    replace B1 := Lib.hid (up_trans B1.out b10)
    clear b10
    go_wp2_with (first
      | (refine wpList_load_wanted (by rfl) 34 _ rfl GG (by rfl) _ _ _ _ HG.out hu rfl (by rw [hi, List.size_toArray, hml]) ?_)
      | (refine wpList_load_wanted (by rfl) 34 _ rfl (w.heap.size + 1) (by rfl) _ _ _ _ ON.out.y hu rfl (by rw [hi, List.size_toArray, hleny]) ?_; refine wpList_eql_wanted (by rfl) _ _ _ _ rfl N.toArray N.toArray (by rfl) (by rfl) noGuard_super true (fun w => EQ.out w) ?_))
    go_ret
    exact ⟨rfl, B1.out⟩
  · skip
    go_simp
    refine hK.out _ _ (trivial) (fun hHeld => ?_)
    clear hK K
    try simp only [Act.put, List.getElem_toArray, List.getElem_cons_zero, List.getElem_cons_succ, List.setIfInBounds_toArray, List.set_cons_zero, List.set_cons_succ]
    generalize hGG : w3.heap.size = GG
    have hge : w3.heap.size ≤ GG := by omega
    have HG : Hid (Has (w3.drew.alloc (.cells (spc noS).toArray 34)) GG 34 (spc noS)) := Lib.hid (by rw [← hGG]; exact Has.make w3.drew 34 (spc noS))
    clear hGG
    refine wpAnyH_ready (rs := [7]) (by kernel_rfl) (by simp) (AllReadyH.cons rfl (fun K hK => ?_) AllReadyH.nil)
    go_simp
    refine (GU.out _).mono ?_; rintro e wn ⟨rfl, hbn'⟩
    replace hbn : Below w3.heap.size w3 wn := up_trans (up_alloc (Below.refl _ _).drew _) hbn'
    replace HG := Lib.hid (HG.out.up hbn')
    clear hbn'
    go_wp2_with fail
    refine hK.out _ _ (trivial) (fun hHeld => ?_)
    clear hK K
    try simp only [Act.put, List.getElem_toArray, List.getElem_cons_zero, List.getElem_cons_succ, List.setIfInBounds_toArray, List.set_cons_zero, List.set_cons_succ]
    refine wpAnyH_take (i := 8) (v := ?_) rfl (by kernel_rfl) (by kernel_rfl) (by kernel_rfl) (fun _ _ _ h => h) (Or.inl ⟨by rfl, ?_⟩) (by assumption) ?_
    rotate_left
    · intro w hSw; (try dsimp only at hSw); go_simp; try with_reducible rfl
    try simp only [Act.put, List.getElem_toArray, List.getElem_cons_zero, List.getElem_cons_succ, List.setIfInBounds_toArray, List.set_cons_zero, List.set_cons_succ]
    refine wpAnyH_take (i := 9) (v := ?_) rfl (by kernel_rfl) (by kernel_rfl) (by kernel_rfl) (fun _ _ _ h => h) (Or.inl ⟨by rfl, ?_⟩) (by assumption) ?_
    rotate_left
    · intro w hSw; (try dsimp only at hSw); go_simp; try with_reducible rfl
    try simp only [Act.put, List.getElem_toArray, List.getElem_cons_zero, List.getElem_cons_succ, List.setIfInBounds_toArray, List.set_cons_zero, List.set_cons_succ]
    refine wpAnyH_take (i := 10) (v := ?_) rfl (by kernel_rfl) (by kernel_rfl) (by kernel_rfl) (fun _ _ _ h => h) (Or.inl ⟨by rfl, ?_⟩) (by assumption) ?_
    rotate_left
    · intro w hSw; (try dsimp only at hSw); go_simp; try with_reducible rfl
    try simp only [Act.put, List.getElem_toArray, List.getElem_cons_zero, List.getElem_cons_succ, List.setIfInBounds_toArray, List.set_cons_zero, List.set_cons_succ]
    refine wpAnyH_ready (rs := [12]) (by kernel_rfl) (by simp) (AllReadyH.cons rfl (fun K hK => ?_) AllReadyH.nil)
    refine wp_store_whole 34 _ _ rfl GG 34 (spc noS) N (by rfl) (by rfl) HG.out (by rw [hml, hz]) (by rw [hi, hml]) hmo ?_
    intro w9 hF9 hO9
    replace HG := Lib.hid hF9
    replace ON := Lib.hid (OnT.mk (hO9.keep (by omega) (ON.out.x.up hbn)) (hO9.keep (by omega) (ON.out.y.up hbn)))
    replace B1 := Lib.hid (hO9.below (by omega) (up_trans B1.out hbn))
    clear hF9 hO9
    refine hK.out _ _ (trivial) (fun hHeld => ?_)
    clear hK K
    try simp only [Act.put, List.getElem_toArray, List.getElem_cons_zero, List.getElem_cons_succ]
    refine wpAnyH_take (i := 13) (v := ?_) rfl (by kernel_rfl) (by kernel_rfl) (by kernel_rfl) (fun _ _ _ h => h) (Or.inl ⟨by rfl, ?_⟩) (by assumption) ?_
    rotate_left
    · intro w hSw; (try dsimp only at hSw); go_simp; try with_reducible rfl
    try simp only [Act.put, List.getElem_toArray, List.getElem_cons_zero, List.getElem_cons_succ, List.setIfInBounds_toArray, List.set_cons_zero, List.set_cons_succ]
    refine wpAnyH_done (by kernel_rfl) ?_ _
    clear hHeld
    go_wp2_with fail
    refine (headed_any _).mono ?_; rintro e w10 ⟨rfl, b10⟩
    replace HG := Lib.hid (HG.out.up b10)
    replace ON := Lib.hid (ON.out.up b10)
    replace B1 := Lib.hid (up_trans B1.out b10)
    clear b10
    go_wp2_with (first
      | (refine wpList_load_wanted (by rfl) 34 _ rfl GG (by rfl) _ _ _ _ HG.out hu rfl (by rw [hi, List.size_toArray, hml]) ?_)
      | (refine wpList_load_wanted (by rfl) 34 _ rfl (w.heap.size + 1) (by rfl) _ _ _ _ ON.out.y hu rfl (by rw [hi, List.size_toArray, hleny]) ?_; refine wpList_eql_wanted (by rfl) _ _ _ _ rfl N.toArray N.toArray (by rfl) (by rfl) noGuard_super true (fun w => EQ.out w) ?_))
    go_ret
    exact ⟨rfl, B1.out⟩

theorem torn_text (x : List UInt8) (y : Sp) (_kf : y.Fits) (hx : x.length = 226) (k : Nat) (hk : k ≤ 226) : ((⟨(putS y).toArray⟩ : ByteArray).extract 0 k ++ (⟨x.toArray⟩ : ByteArray).extract k 226).data.toList = (putS y).take k ++ x.drop k := by
  rw [head_of, extract_mid]
  have e : (x.drop k).take (226 - k) = x.drop k := List.take_of_length_le (by rw [List.length_drop]; omega)
  show (putS y).take k ++ (x.drop k).take (226 - k) = _
  rw [e]

theorem HeaderTorn_core (x y : Sp) (hf : x.Fits) (kf : y.Fits) (z : Int) (b : Bool) (w : World) :
    Calls Try.prog 8 #[.agg (spc x).toArray, .agg (spc y).toArray, .int .i64 z, .bool b] w fun e w' => e = .returned (.bool true) ∧ Below w.heap.size w w' := by
  obtain ⟨k, hk⟩ : ∃ k : Nat, min (max z 0) 226 = (k : Int) := ⟨(min (max z 0) 226).toNat, by omega⟩
  have hk226 : k ≤ 226 := by omega
  cases b with
  | false =>
    obtain ⟨T, hT⟩ : ∃ T : ByteArray, T = ⟨(putS y).toArray⟩ := ⟨_, rfl⟩
    obtain ⟨V, hV⟩ : ∃ V : ByteArray, V = ⟨(putS x).toArray⟩ := ⟨_, rfl⟩
    obtain ⟨U, hU⟩ : ∃ U : ByteArray, U = T.extract 0 k ++ V.extract k 226 := ⟨_, rfl⟩
    have hu : U.data.toList = (putS y).take k ++ (putS x).drop k := by rw [hU, hT, hV, torn_text _ _ kf (putS_len hf) k hk226]
    obtain ⟨g, m, hg⟩ : ∃ g m, gotS U.data.toList = (g, m) := ⟨_, _, rfl⟩
    by_cases hm : m = 0
    · subst hm
      have h0 : (gotS U.data.toList).2 = 0 := by rw [hg]
      have ht := torn hf kf hk226 hu h0
      rw [hg] at ht
      by_cases hgy : g = y
      · subst hgy
        exact HeaderTorn_plain_new x g hf kf z k hk T V U hT hV hU hg w
      · rcases ht with ht | ht
        · exact absurd ht hgy
        · have ht' : g = x := ht
          subst ht'
          exact HeaderTorn_plain_old g y hf kf z k hk T V U hT hV hU hgy hg w
    · have hgn : g = noS := by
        have := gotS_bad (l := U.data.toList) (by rw [hg]; exact hm)
        rw [hg] at this
        exact this
      subst hgn
      have h2 : (gotS U.data.toList).2 ≠ 0 := by rw [hg]; exact hm
      have a1 : k < 226 := by
        refine Nat.lt_of_le_of_ne hk226 fun h => h2 ?_
        rw [hu, h, List.drop_eq_nil_of_le (by rw [putS_len hf]; omega), List.append_nil, List.take_of_length_le (by rw [putS_len kf]; omega)]
        exact torn_all kf
      have a2 : 0 < k := by
        refine Nat.pos_of_ne_zero fun h => h2 ?_
        rw [hu, h, List.take_zero, List.nil_append, List.drop_zero]
        exact torn_all hf
      exact HeaderTorn_plain_err x y hf kf z k hk T V U hT hV hU m hm a1 a2 hg w
  | true =>
    obtain ⟨T, hT⟩ : ∃ T : ByteArray, T = ⟨(putS y).toArray⟩ := ⟨_, rfl⟩
    obtain ⟨V, hV⟩ : ∃ V : ByteArray, V = ⟨(List.replicate 226 0).toArray⟩ := ⟨_, rfl⟩
    obtain ⟨U, hU⟩ : ∃ U : ByteArray, U = T.extract 0 k ++ V.extract k 226 := ⟨_, rfl⟩
    have hu : U.data.toList = (putS y).take k ++ (List.replicate 226 0).drop k := by rw [hU, hT, hV, torn_text _ _ kf List.length_replicate k hk226]
    obtain ⟨g, m, hg⟩ : ∃ g m, gotS U.data.toList = (g, m) := ⟨_, _, rfl⟩
    by_cases hm : m = 0
    · subst hm
      have h0 : (gotS U.data.toList).2 = 0 := by rw [hg]
      have ht := torn_blank kf hk226 hu h0
      rw [hg] at ht
      have ht' : g = y := ht
      subst ht'
      exact HeaderTorn_blank_new x g hf kf z k hk T V U hT hV hU hg w
    · have hgn : g = noS := by
        have := gotS_bad (l := U.data.toList) (by rw [hg]; exact hm)
        rw [hg] at this
        exact this
      subst hgn
      have h2 : (gotS U.data.toList).2 ≠ 0 := by rw [hg]; exact hm
      have a1 : k < 226 := by
        refine Nat.lt_of_le_of_ne hk226 fun h => h2 ?_
        rw [hu, h, List.drop_eq_nil_of_le (by rw [List.length_replicate]; omega), List.append_nil, List.take_of_length_le (by rw [putS_len kf]; omega)]
        exact torn_all kf
      exact HeaderTorn_blank_err x y hf kf z k hk T V U hT hV hU m hm a1 hg w

end Go.Proofs.Ytfnjegjieglbbaa
