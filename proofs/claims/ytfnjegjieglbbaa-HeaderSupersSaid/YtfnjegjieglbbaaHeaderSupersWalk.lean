/- The walk of the law HeaderSupers: a super is just these bytes, and bytes are just this super, or none; one is newer, or not. -/
import Derived.Test.YtfnjegjieglbbaaHeadG
import Derived.Test.YtfnjegjieglbbaaHeadH
import Derived.Test.YtfnjegjieglbbaaHeadEq
namespace Go.Proofs.Ytfnjegjieglbbaa
open Go.RowKit Wire Crc Head

structure OnS (gx gy ga gb : Nat) (L N M : List Value) (W : World) : Prop where
  x : Has W gx 34 L
  y : Has W gy 34 N
  a : Has W ga 34 M
  b : Has W gb 34 M
theorem OnS.up {gx gy ga gb : Nat} {L N M : List Value} {W W' : World} (h : OnS gx gy ga gb L N M W) (hb : Below W.heap.size W W') : OnS gx gy ga gb L N M W' := ⟨h.x.up hb, h.y.up hb, h.a.up hb, h.b.up hb⟩

set_option maxHeartbeats 4000000 in
set_option maxRecDepth 100000 in
theorem HeaderSupers_core (x y : Sp) (hf : x.Fits) (kf : y.Fits) (s : ByteArray) (hs : s.size ≤ maxLen) (w : World) :
    Calls Try.prog 4 #[.agg (spc x).toArray, .agg (spc y).toArray, .string s] w fun e w' => e = .returned (.bool true) ∧ Below w.heap.size w w' := by
  have HX := Lib.hid ((Has.make w 34 (spc x)).alloc (.cells (spc y).toArray 34))
  have HY := Lib.hid (Has.make2 w (.cells (spc x).toArray 34) 34 (spc y))
  have X0 : Hid ((spc x)[0]? = some (.int .u64 (x.epoch : Nat))) := Lib.hid rfl
  have Y0 : Hid ((spc y)[0]? = some (.int .u64 (y.epoch : Nat))) := Lib.hid rfl
  by_cases h1 : 1000 < s.size
  · have d : (1000 : Int) < (s.size : Int) := by omega
    generalize spc x = L at *
    generalize spc y = N at *
    have B1 := Lib.hid (up_alloc (up_alloc (Below.refl w.heap.size w) (.cells L.toArray 34)) (.cells N.toArray 34))
    go_enter Try.func4, Try.ntmps4
    go_wp2_with fail
    go_ret
    exact ⟨rfl, B1.out⟩
  have d : ¬ (1000 : Int) < (s.size : Int) := by omega
  have zv := zero_super
  have hz : (spc noS).length = 70 := spc_length noS_fits
  have hi := info_super
  have hu := Try.underlying34
  have hlen := spc_length hf
  have hleny := spc_length kf
  obtain ⟨Y, hY⟩ : ∃ Y : ByteArray, Y = ⟨(putS x).toArray⟩ := ⟨_, rfl⟩
  have p1 := fun w => psuper_any x hf w
  have p2 := fun w => rpsuper_any x hf w
  have g1 := fun w => gsuper_any s hs w
  have g2 := fun w => rgsuper_any s hs w
  have n1 := fun w => newer_any x y w
  rw [← hY] at p1 p2
  have hgf := gotS_fits s.data.toList
  generalize gotS s.data.toList = G at *
  have EQ : Hid (∀ W, (binOp .eql 34 (.agg (spc G.1).toArray) (.agg (spc G.1).toArray)).run Try.prog W = .ok (.bool true) W) := Lib.hid (fun W => by rw [eql_super G.1 G.1 hgf hgf W, eqS_self])
  have hml := spc_length hgf
  have hmo := spc_one G.1
  generalize spc G.1 = M at *
  generalize G.2 = k at *
  generalize spc x = L at *
  generalize spc y = N at *
  have hnw : decide ((y.epoch : Int) < (x.epoch : Int)) = decide (y.epoch < x.epoch) := by simp
  have B1 := Lib.hid (up_alloc (up_alloc (Below.refl w.heap.size w) (.cells L.toArray 34)) (.cells N.toArray 34))
  have P1 := Lib.hid p1
  have P2 := Lib.hid p2
  have G1 := Lib.hid g1
  have G2 := Lib.hid g2
  have N1 := Lib.hid n1
  clear p1 p2 g1 g2 n1 hY hf hgf h1
  go_enter Try.func4, Try.ntmps4
  go_wp2_with fail
  generalize hw1 : (w.alloc (Obj.cells _ _)).alloc _ = w1
  replace HX : Hid (Has w1 w.heap.size 34 L) := by rw [← hw1]; exact HX
  replace HY : Hid (Has w1 (w.heap.size + 1) 34 N) := by rw [← hw1]; exact HY
  replace B1 : Hid (Below w.heap.size w w1) := by rw [← hw1]; exact B1
  clear hw1
  refine (G1.out _).mono ?_; rintro e w2 ⟨rfl, b2⟩
  replace HX := Lib.hid (HX.out.up b2)
  replace HY := Lib.hid (HY.out.up b2)
  replace B1 := Lib.hid (up_trans B1.out b2)
  clear b2
  have l2 := HY.out.lt
  go_wp2_with (refine wpList_store_whole rfl 34 _ _ rfl w2.heap.size 34 (spc noS) M (by rfl) (by rfl) (Has.make w2 _ (spc noS)) (by rw [hml, hz]) (by rw [hi, hml]) hmo ?_; intro w3 hF3 hO3)
  replace HX := Lib.hid (hO3.keep (by omega) (HX.out.alloc _))
  replace HY := Lib.hid (hO3.keep (by omega) (HY.out.alloc _))
  replace B1 := Lib.hid (hO3.below B1.out.size (up_alloc B1.out _))
  have HA := Lib.hid hF3
  clear hF3 hO3
  refine (G2.out _).mono ?_; rintro e w4 ⟨rfl, b4⟩
  replace HX := Lib.hid (HX.out.up b4)
  replace HY := Lib.hid (HY.out.up b4)
  replace HA := Lib.hid (HA.out.up b4)
  replace B1 := Lib.hid (up_trans B1.out b4)
  clear b4
  have l4 := HA.out.lt
  have l4' := HY.out.lt
  go_wp2_with (refine wpList_store_whole rfl 34 _ _ rfl w4.heap.size 34 (spc noS) M (by rfl) (by rfl) (Has.make w4 _ (spc noS)) (by rw [hml, hz]) (by rw [hi, hml]) hmo ?_; intro w5 hF5 hO5)
  have ON : Hid (OnS w.heap.size (w.heap.size + 1) w2.heap.size w4.heap.size L N M w5) := Lib.hid ⟨hO5.keep (by omega) (HX.out.alloc _), hO5.keep (by omega) (HY.out.alloc _), hO5.keep (by omega) (HA.out.alloc _), hF5⟩
  replace B1 := Lib.hid (hO5.below B1.out.size (up_alloc B1.out _))
  clear hF5 hO5 HX HY HA zv
  refine wp_region_held_drew (S := OnS w.heap.size (w.heap.size + 1) w2.heap.size w4.heap.size L N M) (by kernel_rfl) (ON.out.up (Below.refl _ _).drew) (fun hHeld => ?_)
  refine wpAnyH_ready (rs := [0]) (by kernel_rfl) (by simp) (AllReadyH.cons rfl (fun K hK => ?_) AllReadyH.nil)
  go_simp
  refine (headed_any _).mono ?_; rintro e wn ⟨rfl, hbn'⟩
  have hbn : Below w5.heap.size w5 wn := up_trans (Below.refl _ _).drew hbn'
  clear hbn'
  go_wp2_with fail
  refine hK.out _ _ (ON.out.up hbn) (fun hHeld => ?_)
  clear hK K
  try simp only [Act.put, List.getElem_toArray, List.getElem_cons_zero, List.getElem_cons_succ, List.setIfInBounds_toArray, List.set_cons_zero, List.set_cons_succ]
  refine wpAnyH_take (i := 1) (v := .bool true) rfl (by kernel_rfl) (by kernel_rfl) (by kernel_rfl) (fun _ _ _ h => h) (Or.inl ⟨by rfl, by intro w hSw; (try dsimp only at hSw); go_simp⟩) (by assumption) ?_
  try simp only [Act.put, List.getElem_toArray, List.getElem_cons_zero, List.getElem_cons_succ, List.setIfInBounds_toArray, List.set_cons_zero, List.set_cons_succ]
  refine wpAnyH_take (i := 2) rfl (by kernel_rfl) (by kernel_rfl) (by kernel_rfl) (fun _ _ _ h => h) (yieldsIf_load_mid (by rfl) _ _ rfl w.heap.size 0 rfl L _ (fun W h => h.x.whole) hu rfl (by rw [hi, hlen])) (by assumption) ?_
  try simp only [Act.put, List.getElem_toArray, List.getElem_cons_zero, List.getElem_cons_succ, List.setIfInBounds_toArray, List.set_cons_zero, List.set_cons_succ]
  refine wpAnyH_take (i := 4) rfl (by kernel_rfl) (by kernel_rfl) (by kernel_rfl) (fun _ _ _ h => h) (yieldsIf_load_mid (by rfl) _ _ rfl w.heap.size 0 rfl L _ (fun W h => h.x.whole) hu rfl (by rw [hi, hlen])) (by assumption) ?_
  try simp only [Act.put, List.getElem_toArray, List.getElem_cons_zero, List.getElem_cons_succ, List.setIfInBounds_toArray, List.set_cons_zero, List.set_cons_succ]
  refine wpAnyH_ready (rs := [3]) (by kernel_rfl) (by simp) (AllReadyH.cons rfl (fun K hK => ?_) AllReadyH.nil)
  go_simp
  refine (P1.out _).mono ?_; rintro e wn ⟨rfl, hbn'⟩
  replace hbn : Below w5.heap.size w5 wn := up_trans hbn hbn'
  clear hbn'
  go_wp2_with fail
  refine hK.out _ _ (ON.out.up hbn) (fun hHeld => ?_)
  clear hK K
  try simp only [Act.put, List.getElem_toArray, List.getElem_cons_zero, List.getElem_cons_succ, List.setIfInBounds_toArray, List.set_cons_zero, List.set_cons_succ]
  refine wpAnyH_ready (rs := [5]) (by kernel_rfl) (by simp) (AllReadyH.cons rfl (fun K hK => ?_) AllReadyH.nil)
  go_simp
  refine (P2.out _).mono ?_; rintro e wn ⟨rfl, hbn'⟩
  replace hbn : Below w5.heap.size w5 wn := up_trans hbn hbn'
  clear hbn'
  go_wp2_with fail
  refine hK.out _ _ (ON.out.up hbn) (fun hHeld => ?_)
  clear hK K
  try simp only [Act.put, List.getElem_toArray, List.getElem_cons_zero, List.getElem_cons_succ, List.setIfInBounds_toArray, List.set_cons_zero, List.set_cons_succ]
  refine wpAnyH_take (i := 6) (v := .bool true) rfl (by kernel_rfl) (by kernel_rfl) (by kernel_rfl) (fun _ _ _ h => h) (Or.inl ⟨by rfl, by intro w hSw; (try dsimp only at hSw); go_simp⟩) (by assumption) ?_
  try simp only [Act.put, List.getElem_toArray, List.getElem_cons_zero, List.getElem_cons_succ, List.setIfInBounds_toArray, List.set_cons_zero, List.set_cons_succ]
  refine wpAnyH_take (i := 7) (v := .bool true) rfl (by kernel_rfl) (by kernel_rfl) (by kernel_rfl) (fun _ _ _ h => h) (Or.inl ⟨by rfl, by intro w hSw; (try dsimp only at hSw); go_simp⟩) (by assumption) ?_
  try simp only [Act.put, List.getElem_toArray, List.getElem_cons_zero, List.getElem_cons_succ, List.setIfInBounds_toArray, List.set_cons_zero, List.set_cons_succ]
  refine wpAnyH_take (i := 8) (v := .bool true) rfl (by kernel_rfl) (by kernel_rfl) (by kernel_rfl) (fun _ _ _ h => h) (Or.inl ⟨by rfl, by intro w hSw; (try dsimp only at hSw); go_simp⟩) (by assumption) ?_
  try simp only [Act.put, List.getElem_toArray, List.getElem_cons_zero, List.getElem_cons_succ, List.setIfInBounds_toArray, List.set_cons_zero, List.set_cons_succ]
  refine wpAnyH_take (i := 9) rfl (by kernel_rfl) (by kernel_rfl) (by kernel_rfl) (fun _ _ _ h => h) (yieldsIf_load_mid (by rfl) _ _ rfl w2.heap.size 0 rfl M _ (fun W h => h.a.whole) hu rfl (by rw [hi, hml])) (by assumption) ?_
  try simp only [Act.put, List.getElem_toArray, List.getElem_cons_zero, List.getElem_cons_succ, List.setIfInBounds_toArray, List.set_cons_zero, List.set_cons_succ]
  refine wpAnyH_take (i := 10) rfl (by kernel_rfl) (by kernel_rfl) (by kernel_rfl) (fun _ _ _ h => h) (yieldsIf_load_mid (by rfl) _ _ rfl w4.heap.size 0 rfl M _ (fun W h => h.b.whole) hu rfl (by rw [hi, hml])) (by assumption) ?_
  try simp only [Act.put, List.getElem_toArray, List.getElem_cons_zero, List.getElem_cons_succ, List.setIfInBounds_toArray, List.set_cons_zero, List.set_cons_succ]
  refine wpAnyH_take (i := 11) rfl (by kernel_rfl) (by kernel_rfl) (by kernel_rfl) (fun _ _ _ h => h) (yieldsIf_eql (by rfl) _ _ _ _ rfl M.toArray M.toArray (by rfl) (by rfl) noGuard_super true (fun w => EQ.out w)) (by assumption) ?_
  try simp only [Act.put, List.getElem_toArray, List.getElem_cons_zero, List.getElem_cons_succ, List.setIfInBounds_toArray, List.set_cons_zero, List.set_cons_succ]
  refine wpAnyH_take (i := 12) (v := .bool true) rfl (by kernel_rfl) (by kernel_rfl) (by kernel_rfl) (fun _ _ _ h => h) (Or.inl ⟨by rfl, by intro w hSw; (try dsimp only at hSw); go_simp⟩) (by assumption) ?_
  try simp only [Act.put, List.getElem_toArray, List.getElem_cons_zero, List.getElem_cons_succ, List.setIfInBounds_toArray, List.set_cons_zero, List.set_cons_succ]
  refine wpAnyH_take (i := 13) (v := .bool true) rfl (by kernel_rfl) (by kernel_rfl) (by kernel_rfl) (fun _ _ _ h => h) (Or.inl ⟨by rfl, by intro w hSw; (try dsimp only at hSw); go_simp⟩) (by assumption) ?_
  try simp only [Act.put, List.getElem_toArray, List.getElem_cons_zero, List.getElem_cons_succ, List.setIfInBounds_toArray, List.set_cons_zero, List.set_cons_succ]
  refine wpAnyH_take (i := 14) (v := ?_) rfl (by kernel_rfl) (by kernel_rfl) (by kernel_rfl) (fun _ _ _ h => h) (Or.inl ⟨by rfl, ?_⟩) (by assumption) ?_
  rotate_left
  · intro w hSw; (try dsimp only at hSw); go_simp; try with_reducible rfl
  try simp only [Act.put, List.getElem_toArray, List.getElem_cons_zero, List.getElem_cons_succ, List.setIfInBounds_toArray, List.set_cons_zero, List.set_cons_succ]
  refine wpAnyH_take (i := 15) (v := ?_) rfl (by kernel_rfl) (by kernel_rfl) (by kernel_rfl) (fun _ _ _ h => h) (Or.inl ⟨by rfl, ?_⟩) (by assumption) ?_
  rotate_left
  · intro w hSw; (try dsimp only at hSw); go_simp; try with_reducible rfl
  try simp only [Act.put, List.getElem_toArray, List.getElem_cons_zero, List.getElem_cons_succ, List.setIfInBounds_toArray, List.set_cons_zero, List.set_cons_succ]
  refine wpAnyH_take (i := 16) (v := .bool true) rfl (by kernel_rfl) (by kernel_rfl) (by kernel_rfl) (fun _ _ _ h => h) (Or.inl ⟨by rfl, by intro w hSw; (try dsimp only at hSw); go_simp⟩) (by assumption) ?_
  try simp only [Act.put, List.getElem_toArray, List.getElem_cons_zero, List.getElem_cons_succ, List.setIfInBounds_toArray, List.set_cons_zero, List.set_cons_succ]
  refine wpAnyH_take (i := 17) (v := .bool true) rfl (by kernel_rfl) (by kernel_rfl) (by kernel_rfl) (fun _ _ _ h => h) (Or.inl ⟨by rfl, by intro w hSw; (try dsimp only at hSw); go_simp⟩) (by assumption) ?_
  try simp only [Act.put, List.getElem_toArray, List.getElem_cons_zero, List.getElem_cons_succ, List.setIfInBounds_toArray, List.set_cons_zero, List.set_cons_succ]
  refine wpAnyH_take (i := 18) (v := .bool true) rfl (by kernel_rfl) (by kernel_rfl) (by kernel_rfl) (fun _ _ _ h => h) (Or.inl ⟨by rfl, by intro w hSw; (try dsimp only at hSw); go_simp⟩) (by assumption) ?_
  try simp only [Act.put, List.getElem_toArray, List.getElem_cons_zero, List.getElem_cons_succ, List.setIfInBounds_toArray, List.set_cons_zero, List.set_cons_succ]
  refine wpAnyH_take (i := 19) rfl (by kernel_rfl) (by kernel_rfl) (by kernel_rfl) (fun _ _ _ h => h) (yieldsIf_load_mid (by rfl) _ _ rfl w.heap.size 0 rfl L _ (fun W h => h.x.whole) hu rfl (by rw [hi, hlen])) (by assumption) ?_
  try simp only [Act.put, List.getElem_toArray, List.getElem_cons_zero, List.getElem_cons_succ, List.setIfInBounds_toArray, List.set_cons_zero, List.set_cons_succ]
  refine wpAnyH_take (i := 20) rfl (by kernel_rfl) (by kernel_rfl) (by kernel_rfl) (fun _ _ _ h => h) (yieldsIf_load_mid (by rfl) _ _ rfl (w.heap.size + 1) 0 rfl N _ (fun W h => h.y.whole) hu rfl (by rw [hi, hleny])) (by assumption) ?_
  try simp only [Act.put, List.getElem_toArray, List.getElem_cons_zero, List.getElem_cons_succ, List.setIfInBounds_toArray, List.set_cons_zero, List.set_cons_succ]
  refine wpAnyH_take (i := 22) (v := ?_) rfl (by kernel_rfl) (by kernel_rfl) (by kernel_rfl) (fun _ _ _ h => h) (Or.inl ⟨by rfl, ?_⟩) (by assumption) ?_
  rotate_left
  · intro w hSw; (try dsimp only at hSw); go_simp; try with_reducible rfl
  try simp only [Act.put, List.getElem_toArray, List.getElem_cons_zero, List.getElem_cons_succ, List.setIfInBounds_toArray, List.set_cons_zero, List.set_cons_succ]
  refine wpAnyH_take (i := 23) (v := .int .u64 (x.epoch : Nat)) rfl (by kernel_rfl) (by kernel_rfl) (by kernel_rfl) (fun _ _ _ h => h) (Or.inl ⟨by rfl, by intro w hSw; have c := hSw.x.at X0.out; go_simp⟩) (by assumption) ?_
  try simp only [Act.put, List.getElem_toArray, List.getElem_cons_zero, List.getElem_cons_succ, List.setIfInBounds_toArray, List.set_cons_zero, List.set_cons_succ]
  refine wpAnyH_take (i := 24) (v := ?_) rfl (by kernel_rfl) (by kernel_rfl) (by kernel_rfl) (fun _ _ _ h => h) (Or.inl ⟨by rfl, ?_⟩) (by assumption) ?_
  rotate_left
  · intro w hSw; (try dsimp only at hSw); go_simp; try with_reducible rfl
  try simp only [Act.put, List.getElem_toArray, List.getElem_cons_zero, List.getElem_cons_succ, List.setIfInBounds_toArray, List.set_cons_zero, List.set_cons_succ]
  refine wpAnyH_take (i := 25) (v := .int .u64 (y.epoch : Nat)) rfl (by kernel_rfl) (by kernel_rfl) (by kernel_rfl) (fun _ _ _ h => h) (Or.inl ⟨by rfl, by intro w hSw; have c := hSw.y.at Y0.out; go_simp⟩) (by assumption) ?_
  try simp only [Act.put, List.getElem_toArray, List.getElem_cons_zero, List.getElem_cons_succ, List.setIfInBounds_toArray, List.set_cons_zero, List.set_cons_succ]
  refine wpAnyH_take (i := 26) (v := .bool (decide (y.epoch < x.epoch))) rfl (by kernel_rfl) (by kernel_rfl) (by kernel_rfl) (fun _ _ _ h => h) (Or.inl ⟨by rfl, by intro w hSw; (try dsimp only at hSw); go_simp⟩) (by assumption) ?_
  try simp only [Act.put, List.getElem_toArray, List.getElem_cons_zero, List.getElem_cons_succ, List.setIfInBounds_toArray, List.set_cons_zero, List.set_cons_succ]
  refine wpAnyH_ready (rs := [21]) (by kernel_rfl) (by simp) (AllReadyH.cons rfl (fun K hK => ?_) AllReadyH.nil)
  go_simp
  refine (N1.out _).mono ?_; rintro e wn ⟨rfl, hbn'⟩
  replace hbn : Below w5.heap.size w5 wn := up_trans hbn hbn'
  clear hbn'
  go_wp2_with fail
  refine hK.out _ _ (ON.out.up hbn) (fun hHeld => ?_)
  clear hK K
  try simp only [Act.put, List.getElem_toArray, List.getElem_cons_zero, List.getElem_cons_succ, List.setIfInBounds_toArray, List.set_cons_zero, List.set_cons_succ]
  refine wpAnyH_take (i := 27) (v := .bool true) rfl (by kernel_rfl) (by kernel_rfl) (by kernel_rfl) (fun _ _ _ h => h) (Or.inl ⟨by rfl, by intro w hSw; (try dsimp only at hSw); go_simp⟩) (by assumption) ?_
  try simp only [Act.put, List.getElem_toArray, List.getElem_cons_zero, List.getElem_cons_succ, List.setIfInBounds_toArray, List.set_cons_zero, List.set_cons_succ]
  refine wpAnyH_take (i := 28) (v := .bool true) rfl (by kernel_rfl) (by kernel_rfl) (by kernel_rfl) (fun _ _ _ h => h) (Or.inl ⟨by rfl, by intro w hSw; (try dsimp only at hSw); go_simp⟩) (by assumption) ?_
  try simp only [Act.put, List.getElem_toArray, List.getElem_cons_zero, List.getElem_cons_succ, List.setIfInBounds_toArray, List.set_cons_zero, List.set_cons_succ]
  refine wpAnyH_take (i := 29) (v := ?_) rfl (by kernel_rfl) (by kernel_rfl) (by kernel_rfl) (fun _ _ _ h => h) (Or.inl ⟨by rfl, ?_⟩) (by assumption) ?_
  rotate_left
  · intro w hSw; (try dsimp only at hSw); go_simp; try with_reducible rfl
  try simp only [Act.put, List.getElem_toArray, List.getElem_cons_zero, List.getElem_cons_succ, List.setIfInBounds_toArray, List.set_cons_zero, List.set_cons_succ]
  refine wpAnyH_done (by kernel_rfl) ?_ _
  go_wp2_with fail
  go_ret
  exact ⟨rfl, up_trans B1.out hbn⟩

end Go.Proofs.Ytfnjegjieglbbaa
