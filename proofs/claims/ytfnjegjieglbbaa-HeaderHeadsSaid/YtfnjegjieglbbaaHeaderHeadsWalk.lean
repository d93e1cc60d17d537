/- The walk of the law HeaderHeads: a head is just these bytes, and bytes are just this head, or none. -/
import Derived.Test.YtfnjegjieglbbaaHeadG
import Derived.Test.YtfnjegjieglbbaaHeadH
import Derived.Test.YtfnjegjieglbbaaHeadEq
namespace Go.Proofs.Ytfnjegjieglbbaa
open Go.RowKit Wire Crc Head

structure OnH (gx ga gb : Nat) (L M : List Value) (W : World) : Prop where
  x : Has W gx 26 L
  a : Has W ga 26 M
  b : Has W gb 26 M
theorem OnH.up {gx ga gb : Nat} {L M : List Value} {W W' : World} (h : OnH gx ga gb L M W) (hb : Below W.heap.size W W') : OnH gx ga gb L M W' := ⟨h.x.up hb, h.a.up hb, h.b.up hb⟩

set_option maxHeartbeats 4000000 in
set_option maxRecDepth 100000 in
theorem HeaderHeads_core (h : Hd) (hf : h.Fits) (s : ByteArray) (hs : s.size ≤ maxLen) (w : World) :
    Calls Try.prog 3 #[.agg (hdc h).toArray, .string s] w fun e w' => e = .returned (.bool true) ∧ Below w.heap.size w w' := by
  have HX := Lib.hid (Has.make w 26 (hdc h))
  by_cases h1 : 1000 < s.size
  · have d : (1000 : Int) < (s.size : Int) := by omega
    generalize hdc h = L at *
    have B1 := Lib.hid (up_alloc (Below.refl w.heap.size w) (.cells L.toArray 26))
    go_enter Try.func3, Try.ntmps3
    go_wp2_with fail
    go_ret
    exact ⟨rfl, B1.out⟩
  have d : ¬ (1000 : Int) < (s.size : Int) := by omega
  have hz : (hdc noH).length = 34 := hdc_length noH_fits
  have hi := info_head
  have hu := Try.underlying26
  have hlen := hdc_length hf
  obtain ⟨Y, hY⟩ : ∃ Y : ByteArray, Y = ⟨(putH h).toArray⟩ := ⟨_, rfl⟩
  have p1 := fun w => phead_any h hf w
  have p2 := fun w => rphead_any h hf w
  have g1 := fun w => ghead_any s hs w
  have g2 := fun w => rghead_any s hs w
  rw [← hY] at p1 p2
  have hgf := gotH_fits s.data.toList
  generalize gotH s.data.toList = G at *
  have EQ : Hid (∀ W, (binOp .eql 26 (.agg (hdc G.1).toArray) (.agg (hdc G.1).toArray)).run Try.prog W = .ok (.bool true) W) := Lib.hid (fun W => by rw [eql_head G.1 G.1 hgf hgf W, eqH_self])
  have hml := hdc_length hgf
  have hmo := hdc_one G.1
  generalize hdc G.1 = M at *
  generalize G.2 = k at *
  generalize hdc h = L at *
  have B1 := Lib.hid (up_alloc (Below.refl w.heap.size w) (.cells L.toArray 26))
  have P1 := Lib.hid p1
  have P2 := Lib.hid p2
  have G1 := Lib.hid g1
  have G2 := Lib.hid g2
  clear p1 p2 g1 g2 hY hf hgf h1
  go_enter Try.func3, Try.ntmps3
  go_wp2_with fail
  generalize hw1 : w.alloc (Obj.cells _ _) = w1
  replace HX : Hid (Has w1 w.heap.size 26 L) := by rw [← hw1]; exact HX
  replace B1 : Hid (Below w.heap.size w w1) := by rw [← hw1]; exact B1
  clear hw1
  refine (G1.out _).mono ?_; rintro e w2 ⟨rfl, b2⟩
  replace HX := Lib.hid (HX.out.up b2)
  replace B1 := Lib.hid (up_trans B1.out b2)
  clear b2
  have l2 := HX.out.lt
  go_wp2_with (refine wpList_store_whole rfl 26 _ _ rfl w2.heap.size 26 (hdc noH) M (by rfl) (by rfl) (Has.make w2 _ (hdc noH)) (by rw [hml, hz]) (by rw [hi, hml]) hmo ?_; intro w3 hF3 hO3)
  replace HX := Lib.hid (hO3.keep (by omega) (HX.out.alloc _))
  replace B1 := Lib.hid (hO3.below B1.out.size (up_alloc B1.out _))
  have HA := Lib.hid hF3
  clear hF3 hO3
  refine (G2.out _).mono ?_; rintro e w4 ⟨rfl, b4⟩
  replace HX := Lib.hid (HX.out.up b4)
  replace HA := Lib.hid (HA.out.up b4)
  replace B1 := Lib.hid (up_trans B1.out b4)
  clear b4
  have l4 := HA.out.lt
  have l4' := HX.out.lt
  go_wp2_with (refine wpList_store_whole rfl 26 _ _ rfl w4.heap.size 26 (hdc noH) M (by rfl) (by rfl) (Has.make w4 _ (hdc noH)) (by rw [hml, hz]) (by rw [hi, hml]) hmo ?_; intro w5 hF5 hO5)
  have ON : Hid (OnH w.heap.size w2.heap.size w4.heap.size L M w5) := Lib.hid ⟨hO5.keep (by omega) (HX.out.alloc _), hO5.keep (by omega) (HA.out.alloc _), hF5⟩
  replace B1 := Lib.hid (hO5.below B1.out.size (up_alloc B1.out _))
  clear hF5 hO5 HX HA
  refine wp_region_held_drew (S := OnH w.heap.size w2.heap.size w4.heap.size L M) (by kernel_rfl) (ON.out.up (Below.refl _ _).drew) (fun hHeld => ?_)
  refine wpAnyH_ready (rs := [0]) (by kernel_rfl) (by simp) (AllReadyH.cons rfl (fun K hK => ?_) AllReadyH.nil)
  go_simp
  refine (headed_any _).mono ?_; rintro e wn ⟨rfl, hbn'⟩
  have hbn : Below w5.heap.size w5 wn := up_trans (Below.refl _ _).drew hbn'
  clear hbn'
  go_wp2_with fail
  refine hK.out _ _ (ON.out.up hbn) (fun hHeld => ?_)
  clear hK K
  try simp only [Act.put, List.getElem_toArray, List.getElem_cons_zero, List.getElem_cons_succ, List.setIfInBounds_toArray, List.set_cons_zero, List.set_cons_succ]
  refine wpAnyH_take (i := 1) (v := .bool true) rfl (by kernel_rfl) (by kernel_rfl) (by kernel_rfl) (fun _ _ _ h => h) (Or.inl ⟨by rfl, by intro w hSw; (try dsimp only at hSw); go_simp⟩) (by assumption) ?_
  try simp only [Act.put, List.getElem_toArray, List.getElem_cons_zero, List.getElem_cons_succ, List.setIfInBounds_toArray, List.set_cons_zero, List.set_cons_succ]
  refine wpAnyH_take (i := 2) rfl (by kernel_rfl) (by kernel_rfl) (by kernel_rfl) (fun _ _ _ h => h) (yieldsIf_load_mid (by rfl) _ _ rfl w.heap.size 0 rfl L _ (fun W h => h.x.whole) hu rfl (by rw [hi, hlen])) (by assumption) ?_
  try simp only [Act.put, List.getElem_toArray, List.getElem_cons_zero, List.getElem_cons_succ, List.setIfInBounds_toArray, List.set_cons_zero, List.set_cons_succ]
  refine wpAnyH_take (i := 4) rfl (by kernel_rfl) (by kernel_rfl) (by kernel_rfl) (fun _ _ _ h => h) (yieldsIf_load_mid (by rfl) _ _ rfl w.heap.size 0 rfl L _ (fun W h => h.x.whole) hu rfl (by rw [hi, hlen])) (by assumption) ?_
  try simp only [Act.put, List.getElem_toArray, List.getElem_cons_zero, List.getElem_cons_succ, List.setIfInBounds_toArray, List.set_cons_zero, List.set_cons_succ]
  refine wpAnyH_ready (rs := [3]) (by kernel_rfl) (by simp) (AllReadyH.cons rfl (fun K hK => ?_) AllReadyH.nil)
  go_simp
  refine (P1.out _).mono ?_; rintro e wn ⟨rfl, hbn'⟩
  replace hbn : Below w5.heap.size w5 wn := up_trans hbn hbn'
  clear hbn'
  go_wp2_with fail
  refine hK.out _ _ (ON.out.up hbn) (fun hHeld => ?_)
  clear hK K
  try simp only [Act.put, List.getElem_toArray, List.getElem_cons_zero, List.getElem_cons_succ, List.setIfInBounds_toArray, List.set_cons_zero, List.set_cons_succ]
  refine wpAnyH_ready (rs := [5]) (by kernel_rfl) (by simp) (AllReadyH.cons rfl (fun K hK => ?_) AllReadyH.nil)
  go_simp
  refine (P2.out _).mono ?_; rintro e wn ⟨rfl, hbn'⟩
  replace hbn : Below w5.heap.size w5 wn := up_trans hbn hbn'
  clear hbn'
  go_wp2_with fail
  refine hK.out _ _ (ON.out.up hbn) (fun hHeld => ?_)
  clear hK K
  try simp only [Act.put, List.getElem_toArray, List.getElem_cons_zero, List.getElem_cons_succ, List.setIfInBounds_toArray, List.set_cons_zero, List.set_cons_succ]
  refine wpAnyH_take (i := 6) (v := .bool true) rfl (by kernel_rfl) (by kernel_rfl) (by kernel_rfl) (fun _ _ _ h => h) (Or.inl ⟨by rfl, by intro w hSw; (try dsimp only at hSw); go_simp⟩) (by assumption) ?_
  try simp only [Act.put, List.getElem_toArray, List.getElem_cons_zero, List.getElem_cons_succ, List.setIfInBounds_toArray, List.set_cons_zero, List.set_cons_succ]
  refine wpAnyH_take (i := 7) (v := .bool true) rfl (by kernel_rfl) (by kernel_rfl) (by kernel_rfl) (fun _ _ _ h => h) (Or.inl ⟨by rfl, by intro w hSw; (try dsimp only at hSw); go_simp⟩) (by assumption) ?_
  try simp only [Act.put, List.getElem_toArray, List.getElem_cons_zero, List.getElem_cons_succ, List.setIfInBounds_toArray, List.set_cons_zero, List.set_cons_succ]
  refine wpAnyH_take (i := 8) (v := .bool true) rfl (by kernel_rfl) (by kernel_rfl) (by kernel_rfl) (fun _ _ _ h => h) (Or.inl ⟨by rfl, by intro w hSw; (try dsimp only at hSw); go_simp⟩) (by assumption) ?_
  try simp only [Act.put, List.getElem_toArray, List.getElem_cons_zero, List.getElem_cons_succ, List.setIfInBounds_toArray, List.set_cons_zero, List.set_cons_succ]
  refine wpAnyH_take (i := 9) rfl (by kernel_rfl) (by kernel_rfl) (by kernel_rfl) (fun _ _ _ h => h) (yieldsIf_load_mid (by rfl) _ _ rfl w2.heap.size 0 rfl M _ (fun W h => h.a.whole) hu rfl (by rw [hi, hml])) (by assumption) ?_
  try simp only [Act.put, List.getElem_toArray, List.getElem_cons_zero, List.getElem_cons_succ, List.setIfInBounds_toArray, List.set_cons_zero, List.set_cons_succ]
  refine wpAnyH_take (i := 10) rfl (by kernel_rfl) (by kernel_rfl) (by kernel_rfl) (fun _ _ _ h => h) (yieldsIf_load_mid (by rfl) _ _ rfl w4.heap.size 0 rfl M _ (fun W h => h.b.whole) hu rfl (by rw [hi, hml])) (by assumption) ?_
  try simp only [Act.put, List.getElem_toArray, List.getElem_cons_zero, List.getElem_cons_succ, List.setIfInBounds_toArray, List.set_cons_zero, List.set_cons_succ]
  refine wpAnyH_take (i := 11) rfl (by kernel_rfl) (by kernel_rfl) (by kernel_rfl) (fun _ _ _ h => h) (yieldsIf_eql (by rfl) _ _ _ _ rfl M.toArray M.toArray (by rfl) (by rfl) noGuard_head true (fun w => EQ.out w)) (by assumption) ?_
  try simp only [Act.put, List.getElem_toArray, List.getElem_cons_zero, List.getElem_cons_succ, List.setIfInBounds_toArray, List.set_cons_zero, List.set_cons_succ]
  refine wpAnyH_take (i := 12) (v := .bool true) rfl (by kernel_rfl) (by kernel_rfl) (by kernel_rfl) (fun _ _ _ h => h) (Or.inl ⟨by rfl, by intro w hSw; (try dsimp only at hSw); go_simp⟩) (by assumption) ?_
  try simp only [Act.put, List.getElem_toArray, List.getElem_cons_zero, List.getElem_cons_succ, List.setIfInBounds_toArray, List.set_cons_zero, List.set_cons_succ]
  refine wpAnyH_take (i := 13) (v := .bool true) rfl (by kernel_rfl) (by kernel_rfl) (by kernel_rfl) (fun _ _ _ h => h) (Or.inl ⟨by rfl, by intro w hSw; (try dsimp only at hSw); go_simp⟩) (by assumption) ?_
  try simp only [Act.put, List.getElem_toArray, List.getElem_cons_zero, List.getElem_cons_succ, List.setIfInBounds_toArray, List.set_cons_zero, List.set_cons_succ]
  refine wpAnyH_take (i := 14) (v := ?_) rfl (by kernel_rfl) (by kernel_rfl) (by kernel_rfl) (fun _ _ _ h => h) (Or.inl ⟨by rfl, ?_⟩) (by assumption) ?_
  rotate_left
  · intro w hSw; (try dsimp only at hSw); go_simp; try with_reducible rfl
  try simp only [Act.put, List.getElem_toArray, List.getElem_cons_zero, List.getElem_cons_succ, List.setIfInBounds_toArray, List.set_cons_zero, List.set_cons_succ]
  refine wpAnyH_take (i := 15) (v := ?_) rfl (by kernel_rfl) (by kernel_rfl) (by kernel_rfl) (fun _ _ _ h => h) (Or.inl ⟨by rfl, ?_⟩) (by assumption) ?_
  rotate_left
  · intro w hSw; (try dsimp only at hSw); go_simp; try with_reducible rfl
  try simp only [Act.put, List.getElem_toArray, List.getElem_cons_zero, List.getElem_cons_succ, List.setIfInBounds_toArray, List.set_cons_zero, List.set_cons_succ]
  refine wpAnyH_take (i := 16) (v := .bool true) rfl (by kernel_rfl) (by kernel_rfl) (by kernel_rfl) (fun _ _ _ h => h) (Or.inl ⟨by rfl, by intro w hSw; (try dsimp only at hSw); go_simp⟩) (by assumption) ?_
  try simp only [Act.put, List.getElem_toArray, List.getElem_cons_zero, List.getElem_cons_succ, List.setIfInBounds_toArray, List.set_cons_zero, List.set_cons_succ]
  refine wpAnyH_take (i := 17) (v := .bool true) rfl (by kernel_rfl) (by kernel_rfl) (by kernel_rfl) (fun _ _ _ h => h) (Or.inl ⟨by rfl, by intro w hSw; (try dsimp only at hSw); go_simp⟩) (by assumption) ?_
  try simp only [Act.put, List.getElem_toArray, List.getElem_cons_zero, List.getElem_cons_succ, List.setIfInBounds_toArray, List.set_cons_zero, List.set_cons_succ]
  refine wpAnyH_take (i := 18) (v := ?_) rfl (by kernel_rfl) (by kernel_rfl) (by kernel_rfl) (fun _ _ _ h => h) (Or.inl ⟨by rfl, ?_⟩) (by assumption) ?_
  rotate_left
  · intro w hSw; (try dsimp only at hSw); go_simp; try with_reducible rfl
  try simp only [Act.put, List.getElem_toArray, List.getElem_cons_zero, List.getElem_cons_succ, List.setIfInBounds_toArray, List.set_cons_zero, List.set_cons_succ]
  refine wpAnyH_done (by kernel_rfl) ?_ _
  go_wp2_with fail
  go_ret
  exact ⟨rfl, up_trans B1.out hbn⟩

end Go.Proofs.Ytfnjegjieglbbaa
