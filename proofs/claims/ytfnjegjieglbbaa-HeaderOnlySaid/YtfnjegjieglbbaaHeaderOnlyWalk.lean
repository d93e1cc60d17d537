/- The walk of the law HeaderOnly: what is got is what would be put. -/
import Derived.Test.YtfnjegjieglbbaaHeadG
import Derived.Test.YtfnjegjieglbbaaHeadH
import Derived.Test.YtfnjegjieglbbaaHeadEq
namespace Go.Proofs.Ytfnjegjieglbbaa
open Go.RowKit Wire Crc Head

structure OnO (ga gb : Nat) (L N : List Value) (W : World) : Prop where
  a : Has W ga 26 L
  b : Has W gb 34 N
theorem OnO.up {ga gb : Nat} {L N : List Value} {W W' : World} (h : OnO ga gb L N W) (hb : Below W.heap.size W W') : OnO ga gb L N W' := ⟨h.a.up hb, h.b.up hb⟩

set_option maxHeartbeats 4000000 in
set_option maxRecDepth 100000 in
theorem HeaderOnly_head (s : ByteArray) (hs : s.size ≤ maxLen) (h1 : s.size ≤ 1000) (he : errH s.data.toList = 0) (w : World) :
    Calls Try.prog 6 #[.string s] w fun e w' => e = .returned (.bool true) ∧ Below w.heap.size w w' := by
  have d : ¬ (1000 : Int) < (s.size : Int) := by omega
  have zv := zero_super
  have hz : (hdc noH).length = 34 := hdc_length noH_fits
  have hz2 : (spc noS).length = 70 := spc_length noS_fits
  have hi := info_head
  have hi2 := info_super
  have hu := Try.underlying26
  have hu2 := Try.underlying34
  obtain ⟨NH, hNH⟩ : ∃ M, M = hdc noH := ⟨_, rfl⟩
  obtain ⟨NS, hNS⟩ : ∃ M, M = spc noS := ⟨_, rfl⟩
  have lNH : NH.length = 34 := by rw [hNH, hz]
  have lNS : NS.length = 70 := by rw [hNS, hz2]
  have hzo : ∀ v ∈ NH, v.oneCell' = true := by rw [hNH]; exact hdc_one noH
  have hzo2 : ∀ v ∈ NS, v.oneCell' = true := by rw [hNS]; exact spc_one noS
  have EQ : Hid (∀ W, (binOp .eql 26 (.agg NH.toArray) (.agg (hdc noH).toArray)).run Try.prog W = .ok (.bool true) W) := Lib.hid (fun W => by rw [hNH, eql_head noH noH noH_fits noH_fits W, eqH_self])
  have EQ2 : Hid (∀ W, (binOp .eql 34 (.agg NS.toArray) (.agg (spc noS).toArray)).run Try.prog W = .ok (.bool true) W) := Lib.hid (fun W => by rw [hNS, eql_super noS noS noS_fits noS_fits W, eqS_self])
  have hb := errH_back he
  have hn := not_both he
  obtain ⟨m, hm⟩ : ∃ m, errS s.data.toList = m := ⟨_, rfl⟩
  have g1 := fun w => ghead_any s hs w
  have g2 := fun w => gsuper_any s hs w
  rw [gotH_ok he] at g1
  rw [gotS_no hm (by rw [← hm]; exact hn), ← hNS] at g2
  have dm : ((m : Int) == 0) = false := by rw [beq_eq_false_iff_ne]; omega
  have dm2 : ((m : Int) != 0) = true := by rw [bne_iff_ne]; omega
  have p1 := fun w => phead_any (decH s.data.toList) (decH_fits hb.1) w
  obtain ⟨Y, hY⟩ : ∃ Y : ByteArray, Y = ⟨(putH (decH s.data.toList)).toArray⟩ := ⟨_, rfl⟩
  rw [← hY] at p1
  have d1 : (Y.toList == (s.extract 0 64).toList) = true := same_text (by rw [hY, head_of, putH_dec he])
  have i1 : ¬ (s.size : Int) < 64 := by have := list_size s; omega
  have i2 : (64 : Int) ≤ (s.size : Int) := by omega
  have hml := hdc_length (decH_fits hb.1)
  have hmo := hdc_one (decH s.data.toList)
  generalize hdc (decH s.data.toList) = L at *
  have P1 := Lib.hid p1
  clear p1 hY hb hn hm he
  have G1 := Lib.hid g1
  have G2 := Lib.hid g2
  clear g1 g2 hNH hNS
  go_enter Try.func6, Try.ntmps6
  go_wp2_with fail
  refine (G1.out _).mono ?_; rintro e w2 ⟨rfl, b2⟩
  have B1 := Lib.hid b2
  clear b2
  go_wp2_with (refine wpList_store_whole rfl 26 _ _ rfl w2.heap.size 26 (hdc noH) L (by rfl) (by rfl) (Has.make w2 _ (hdc noH)) (by rw [hml, hz]) (by rw [hi, hml]) hmo ?_; intro w3 hF3 hO3)
  replace B1 := Lib.hid (hO3.below B1.out.size (up_alloc B1.out _))
  have HA := Lib.hid hF3
  clear hF3 hO3
  refine (G2.out _).mono ?_; rintro e w4 ⟨rfl, b4⟩
  replace HA := Lib.hid (HA.out.up b4)
  replace B1 := Lib.hid (up_trans B1.out b4)
  clear b4
  have l4 := HA.out.lt
  go_wp2_with (refine wpList_store_whole rfl 34 _ _ rfl w4.heap.size 34 (spc noS) NS (by rfl) (by rfl) (Has.make w4 _ (spc noS)) (by rw [lNS, hz2]) (by rw [hi2, lNS]) hzo2 ?_; intro w5 hF5 hO5)
  have ON : Hid (OnO w2.heap.size w4.heap.size L NS w5) := Lib.hid ⟨hO5.keep (by omega) (HA.out.alloc _), hF5⟩
  replace B1 := Lib.hid (hO5.below B1.out.size (up_alloc B1.out _))
  clear hF5 hO5 HA
  refine wp_region_held_drew (S := OnO w2.heap.size w4.heap.size L NS) (by kernel_rfl) (ON.out.up (Below.refl _ _).drew) (fun hHeld => ?_)
  refine wpAnyH_take (i := 0) (v := ?_) rfl (by kernel_rfl) (by kernel_rfl) (by kernel_rfl) (fun _ _ _ h => h) (Or.inl ⟨by rfl, ?_⟩) (by assumption) ?_
  rotate_left
  · intro w hSw; (try dsimp only at hSw); go_simp; try with_reducible rfl
  try simp only [Act.put, List.getElem_toArray, List.getElem_cons_zero, List.setIfInBounds_toArray, List.set_cons_zero, List.set_cons_succ]
  refine wpAnyH_take (i := 1) (v := .bool true) rfl (by kernel_rfl) (by kernel_rfl) (by kernel_rfl) (fun _ _ _ h => h) (Or.inl ⟨by rfl, by intro w hSw; (try dsimp only at hSw); go_simp⟩) (by assumption) ?_
  try simp only [Act.put, List.getElem_toArray, List.getElem_cons_zero, List.getElem_cons_succ, List.setIfInBounds_toArray, List.set_cons_zero, List.set_cons_succ]
  refine wpAnyH_take (i := 2) (v := .bool true) rfl (by kernel_rfl) (by kernel_rfl) (by kernel_rfl) (fun _ _ _ h => h) (Or.inl ⟨by rfl, by intro w hSw; (try dsimp only at hSw); go_simp⟩) (by assumption) ?_
  try simp only [Act.put, List.getElem_toArray, List.getElem_cons_zero, List.getElem_cons_succ, List.setIfInBounds_toArray, List.set_cons_zero, List.set_cons_succ]
  refine wpAnyH_take (i := 3) (v := ?_) rfl (by kernel_rfl) (by kernel_rfl) (by kernel_rfl) (fun _ _ _ h => h) (Or.inl ⟨by rfl, ?_⟩) (by assumption) ?_
  rotate_left
  · intro w hSw; (try dsimp only at hSw); go_simp; try with_reducible rfl
  try simp only [Act.put, List.getElem_toArray, List.getElem_cons_zero, List.getElem_cons_succ, List.setIfInBounds_toArray, List.set_cons_zero, List.set_cons_succ]
  refine wpAnyH_take (i := 4) (v := ?_) rfl (by kernel_rfl) (by kernel_rfl) (by kernel_rfl) (fun _ _ _ h => h) (Or.inl ⟨by rfl, ?_⟩) (by assumption) ?_
  rotate_left
  · intro w hSw; (try dsimp only at hSw); go_simp; try with_reducible rfl
  try simp only [Act.put, List.getElem_toArray, List.getElem_cons_zero, List.getElem_cons_succ, List.setIfInBounds_toArray, List.set_cons_zero, List.set_cons_succ]
  refine wpAnyH_take (i := 5) (v := .bool false) rfl (by kernel_rfl) (by kernel_rfl) (by kernel_rfl) (fun _ _ _ h => h) (Or.inl ⟨by rfl, by intro w hSw; (try dsimp only at hSw); go_simp⟩) (by assumption) ?_
  try simp only [Act.put, List.getElem_toArray, List.getElem_cons_zero, List.getElem_cons_succ, List.setIfInBounds_toArray, List.set_cons_zero, List.set_cons_succ]
  refine wpAnyH_take (i := 6) (v := .bool false) rfl (by kernel_rfl) (by kernel_rfl) (by kernel_rfl) (fun _ _ _ h => h) (Or.inl ⟨by rfl, by intro w hSw; (try dsimp only at hSw); go_simp⟩) (by assumption) ?_
  try simp only [Act.put, List.getElem_toArray, List.getElem_cons_zero, List.getElem_cons_succ, List.setIfInBounds_toArray, List.set_cons_zero, List.set_cons_succ]
  refine wpAnyH_take (i := 7) rfl (by kernel_rfl) (by kernel_rfl) (by kernel_rfl) (fun _ _ _ h => h) (yieldsIf_load_mid (by rfl) _ _ rfl w2.heap.size 0 rfl L _ (fun W h => h.a.whole) hu rfl (by rw [hi, hml])) (by assumption) ?_
  try simp only [Act.put, List.getElem_toArray, List.getElem_cons_zero, List.getElem_cons_succ, List.setIfInBounds_toArray, List.set_cons_zero, List.set_cons_succ]
  refine wpAnyH_take (i := 9) (v := ?_) rfl (by kernel_rfl) (by kernel_rfl) (by kernel_rfl) (fun _ _ _ h => h) (Or.inl ⟨by rfl, ?_⟩) (by assumption) ?_
  rotate_left
  · intro w hSw; (try dsimp only at hSw); go_simp; try with_reducible rfl
  try simp only [Act.put, List.getElem_toArray, List.getElem_cons_zero, List.getElem_cons_succ, List.setIfInBounds_toArray, List.set_cons_zero, List.set_cons_succ]
  refine wpAnyH_take (i := 10) (v := ?_) rfl (by kernel_rfl) (by kernel_rfl) (by kernel_rfl) (fun _ _ _ h => h) (Or.inl ⟨by rfl, ?_⟩) (by assumption) ?_
  rotate_left
  · intro w hSw; (try dsimp only at hSw); go_simp; try with_reducible rfl
  try simp only [Act.put, List.getElem_toArray, List.getElem_cons_zero, List.getElem_cons_succ, List.setIfInBounds_toArray, List.set_cons_zero, List.set_cons_succ]
  refine wpAnyH_ready (rs := [8]) (by kernel_rfl) (by simp) (AllReadyH.cons rfl (fun K hK => ?_) AllReadyH.nil)
  go_simp
  refine (P1.out _).mono ?_; rintro e wn ⟨rfl, hbn'⟩
  have hbn : Below w5.heap.size w5 wn := up_trans (Below.refl _ _).drew hbn'
  clear hbn'
  go_wp2_with fail
  refine hK.out _ _ (ON.out.up hbn) (fun hHeld => ?_)
  clear hK K
  try simp only [Act.put, List.getElem_toArray, List.getElem_cons_zero, List.getElem_cons_succ, List.setIfInBounds_toArray, List.set_cons_zero, List.set_cons_succ]
  refine wpAnyH_take (i := 11) (v := .bool false) rfl (by kernel_rfl) (by kernel_rfl) (by kernel_rfl) (fun _ _ _ h => h) (Or.inl ⟨by rfl, by intro w hSw; (try dsimp only at hSw); go_simp⟩) (by assumption) ?_
  try simp only [Act.put, List.getElem_toArray, List.getElem_cons_zero, List.getElem_cons_succ, List.setIfInBounds_toArray, List.set_cons_zero, List.set_cons_succ]
  refine wpAnyH_take (i := 12) (v := .bool false) rfl (by kernel_rfl) (by kernel_rfl) (by kernel_rfl) (fun _ _ _ h => h) (Or.inl ⟨by rfl, by intro w hSw; (try dsimp only at hSw); go_simp⟩) (by assumption) ?_
  try simp only [Act.put, List.getElem_toArray, List.getElem_cons_zero, List.getElem_cons_succ, List.setIfInBounds_toArray, List.set_cons_zero, List.set_cons_succ]
  refine wpAnyH_take (i := 13) (v := .bool false) rfl (by kernel_rfl) (by kernel_rfl) (by kernel_rfl) (fun _ _ _ h => h) (Or.inl ⟨by rfl, by intro w hSw; (try dsimp only at hSw); go_simp⟩) (by assumption) ?_
  try simp only [Act.put, List.getElem_toArray, List.getElem_cons_zero, List.getElem_cons_succ, List.setIfInBounds_toArray, List.set_cons_zero, List.set_cons_succ]
  refine wpAnyH_take (i := 14) (v := .bool false) rfl (by kernel_rfl) (by kernel_rfl) (by kernel_rfl) (fun _ _ _ h => h) (Or.inl ⟨by rfl, by intro w hSw; (try dsimp only at hSw); go_simp⟩) (by assumption) ?_
  try simp only [Act.put, List.getElem_toArray, List.getElem_cons_zero, List.getElem_cons_succ, List.setIfInBounds_toArray, List.set_cons_zero, List.set_cons_succ]
  refine wpAnyH_take (i := 15) (v := ?_) rfl (by kernel_rfl) (by kernel_rfl) (by kernel_rfl) (fun _ _ _ h => h) (Or.inl ⟨by rfl, ?_⟩) (by assumption) ?_
  rotate_left
  · intro w hSw; (try dsimp only at hSw); go_simp; try with_reducible rfl
  try simp only [Act.put, List.getElem_toArray, List.getElem_cons_zero, List.getElem_cons_succ, List.setIfInBounds_toArray, List.set_cons_zero, List.set_cons_succ]
  refine wpAnyH_take (i := 16) (v := .bool false) rfl (by kernel_rfl) (by kernel_rfl) (by kernel_rfl) (fun _ _ _ h => h) (Or.inl ⟨by rfl, by intro w hSw; (try dsimp only at hSw); go_simp⟩) (by assumption) ?_
  try simp only [Act.put, List.getElem_toArray, List.getElem_cons_zero, List.getElem_cons_succ, List.setIfInBounds_toArray, List.set_cons_zero, List.set_cons_succ]
  refine wpAnyH_take (i := 17) (v := .bool false) rfl (by kernel_rfl) (by kernel_rfl) (by kernel_rfl) (fun _ _ _ h => h) (Or.inl ⟨by rfl, by intro w hSw; (try dsimp only at hSw); go_simp⟩) (by assumption) ?_
  try simp only [Act.put, List.getElem_toArray, List.getElem_cons_zero, List.getElem_cons_succ, List.setIfInBounds_toArray, List.set_cons_zero, List.set_cons_succ]
  refine wpAnyH_take (i := 18) (v := undef) rfl (by kernel_rfl) (by kernel_rfl) (by kernel_rfl) (fun _ _ _ h => h) (Or.inr ⟨by rfl, rfl⟩) (by assumption) ?_
  try simp only [Act.put, List.getElem_toArray, List.getElem_cons_zero, List.getElem_cons_succ, List.setIfInBounds_toArray, List.set_cons_zero, List.set_cons_succ]
  refine wpAnyH_take (i := 19) (v := undef) rfl (by kernel_rfl) (by kernel_rfl) (by kernel_rfl) (fun _ _ _ h => h) (Or.inr ⟨by rfl, rfl⟩) (by assumption) ?_
  try simp only [Act.put, List.getElem_toArray, List.getElem_cons_zero, List.getElem_cons_succ, List.setIfInBounds_toArray, List.set_cons_zero, List.set_cons_succ]
  refine wpAnyH_take (i := 20) (v := undef) rfl (by kernel_rfl) (by kernel_rfl) (by kernel_rfl) (fun _ _ _ h => h) (Or.inr ⟨by rfl, rfl⟩) (by assumption) ?_
  try simp only [Act.put, List.getElem_toArray, List.getElem_cons_zero, List.getElem_cons_succ, List.setIfInBounds_toArray, List.set_cons_zero, List.set_cons_succ]
  refine wpAnyH_take (i := 21) (v := undef) rfl (by kernel_rfl) (by kernel_rfl) (by kernel_rfl) (fun _ _ _ h => h) (Or.inr ⟨by rfl, rfl⟩) (by assumption) ?_
  try simp only [Act.put, List.getElem_toArray, List.getElem_cons_zero, List.getElem_cons_succ, List.setIfInBounds_toArray, List.set_cons_zero, List.set_cons_succ]
  refine wpAnyH_take (i := 22) (v := undef) rfl (by kernel_rfl) (by kernel_rfl) (by kernel_rfl) (fun _ _ _ h => h) (Or.inr ⟨by rfl, rfl⟩) (by assumption) ?_
  try simp only [Act.put, List.getElem_toArray, List.getElem_cons_zero, List.getElem_cons_succ, List.setIfInBounds_toArray, List.set_cons_zero, List.set_cons_succ]
  refine wpAnyH_take (i := 23) (v := undef) rfl (by kernel_rfl) (by kernel_rfl) (by kernel_rfl) (fun _ _ _ h => h) (Or.inr ⟨by rfl, rfl⟩) (by assumption) ?_
  try simp only [Act.put, List.getElem_toArray, List.getElem_cons_zero, List.getElem_cons_succ, List.setIfInBounds_toArray, List.set_cons_zero, List.set_cons_succ]
  refine wpAnyH_take (i := 24) (v := undef) rfl (by kernel_rfl) (by kernel_rfl) (by kernel_rfl) (fun _ _ _ h => h) (Or.inr ⟨by rfl, rfl⟩) (by assumption) ?_
  try simp only [Act.put, List.getElem_toArray, List.getElem_cons_zero, List.getElem_cons_succ, List.setIfInBounds_toArray, List.set_cons_zero, List.set_cons_succ]
  refine wpAnyH_take (i := 25) (v := undef) rfl (by kernel_rfl) (by kernel_rfl) (by kernel_rfl) (fun _ _ _ h => h) (Or.inr ⟨by rfl, rfl⟩) (by assumption) ?_
  try simp only [Act.put, List.getElem_toArray, List.getElem_cons_zero, List.getElem_cons_succ, List.setIfInBounds_toArray, List.set_cons_zero, List.set_cons_succ]
  refine wpAnyH_take (i := 26) (v := undef) rfl (by kernel_rfl) (by kernel_rfl) (by kernel_rfl) (fun _ _ _ h => h) (Or.inr ⟨by rfl, rfl⟩) (by assumption) ?_
  try simp only [Act.put, List.getElem_toArray, List.getElem_cons_zero, List.getElem_cons_succ, List.setIfInBounds_toArray, List.set_cons_zero, List.set_cons_succ]
  refine wpAnyH_take (i := 27) (v := undef) rfl (by kernel_rfl) (by kernel_rfl) (by kernel_rfl) (fun _ _ _ h => h) (Or.inr ⟨by rfl, rfl⟩) (by assumption) ?_
  try simp only [Act.put, List.getElem_toArray, List.getElem_cons_zero, List.getElem_cons_succ, List.setIfInBounds_toArray, List.set_cons_zero, List.set_cons_succ]
  refine wpAnyH_take (i := 28) (v := .bool false) rfl (by kernel_rfl) (by kernel_rfl) (by kernel_rfl) (fun _ _ _ h => h) (Or.inl ⟨by rfl, by intro w hSw; (try dsimp only at hSw); go_simp⟩) (by assumption) ?_
  try simp only [Act.put, List.getElem_toArray, List.getElem_cons_zero, List.getElem_cons_succ, List.setIfInBounds_toArray, List.set_cons_zero, List.set_cons_succ]
  refine wpAnyH_take (i := 29) (v := .bool false) rfl (by kernel_rfl) (by kernel_rfl) (by kernel_rfl) (fun _ _ _ h => h) (Or.inl ⟨by rfl, by intro w hSw; (try dsimp only at hSw); go_simp⟩) (by assumption) ?_
  try simp only [Act.put, List.getElem_toArray, List.getElem_cons_zero, List.getElem_cons_succ, List.setIfInBounds_toArray, List.set_cons_zero, List.set_cons_succ]
  refine wpAnyH_done (by kernel_rfl) ?_ _
  replace ON := Lib.hid (ON.out.up hbn)
  replace B1 := Lib.hid (up_trans B1.out hbn)
  clear hHeld
  go_wp2_with fail
  refine (headed_any _).mono ?_; rintro e w9 ⟨rfl, b9⟩
  replace ON := Lib.hid (ON.out.up b9)
  replace B1 := Lib.hid (up_trans B1.out b9)
  clear b9
  go_wp2_with (first
    | (refine wpList_load_wanted (by rfl) 26 _ rfl w2.heap.size (by rfl) _ _ _ _ ON.out.a hu rfl (by rw [hi, List.size_toArray, hml]) ?_)
    | (refine wpList_load_wanted (by rfl) 34 _ rfl w4.heap.size (by rfl) _ _ _ _ ON.out.b hu2 rfl (by rw [hi2, List.size_toArray, lNS]) ?_)
    | (refine wpList_eql_wanted (by rfl) _ _ _ _ rfl NH.toArray (hdc noH).toArray (by rfl) (by rfl) noGuard_head true (fun w => EQ.out w) ?_)
    | (refine wpList_eql_wanted (by rfl) _ _ _ _ rfl NS.toArray (spc noS).toArray (by rfl) (by rfl) noGuard_super true (fun w => EQ2.out w) ?_))
  go_ret
  exact ⟨rfl, B1.out⟩

set_option maxHeartbeats 4000000 in
set_option maxRecDepth 100000 in
theorem HeaderOnly_super (s : ByteArray) (hs : s.size ≤ maxLen) (h1 : s.size ≤ 1000) (he : errS s.data.toList = 0) (w : World) :
    Calls Try.prog 6 #[.string s] w fun e w' => e = .returned (.bool true) ∧ Below w.heap.size w w' := by
  have d : ¬ (1000 : Int) < (s.size : Int) := by omega
  have zv := zero_super
  have hz : (hdc noH).length = 34 := hdc_length noH_fits
  have hz2 : (spc noS).length = 70 := spc_length noS_fits
  have hi := info_head
  have hi2 := info_super
  have hu := Try.underlying26
  have hu2 := Try.underlying34
  obtain ⟨NH, hNH⟩ : ∃ M, M = hdc noH := ⟨_, rfl⟩
  obtain ⟨NS, hNS⟩ : ∃ M, M = spc noS := ⟨_, rfl⟩
  have lNH : NH.length = 34 := by rw [hNH, hz]
  have lNS : NS.length = 70 := by rw [hNS, hz2]
  have hzo : ∀ v ∈ NH, v.oneCell' = true := by rw [hNH]; exact hdc_one noH
  have hzo2 : ∀ v ∈ NS, v.oneCell' = true := by rw [hNS]; exact spc_one noS
  have EQ : Hid (∀ W, (binOp .eql 26 (.agg NH.toArray) (.agg (hdc noH).toArray)).run Try.prog W = .ok (.bool true) W) := Lib.hid (fun W => by rw [hNH, eql_head noH noH noH_fits noH_fits W, eqH_self])
  have EQ2 : Hid (∀ W, (binOp .eql 34 (.agg NS.toArray) (.agg (spc noS).toArray)).run Try.prog W = .ok (.bool true) W) := Lib.hid (fun W => by rw [hNS, eql_super noS noS noS_fits noS_fits W, eqS_self])
  have hb := errS_back he
  have hn : errH s.data.toList ≠ 0 := fun h => not_both h he
  obtain ⟨k, hk⟩ : ∃ k, errH s.data.toList = k := ⟨_, rfl⟩
  have g1 := fun w => ghead_any s hs w
  have g2 := fun w => gsuper_any s hs w
  rw [gotS_ok he] at g2
  rw [gotH_no hk (by rw [← hk]; exact hn), ← hNH] at g1
  have dk : ((k : Int) == 0) = false := by rw [beq_eq_false_iff_ne]; omega
  have dk2 : ((k : Int) != 0) = true := by rw [bne_iff_ne]; omega
  have p1 := fun w => psuper_any (decS s.data.toList) (decS_fits hb.1) w
  obtain ⟨Y, hY⟩ : ∃ Y : ByteArray, Y = ⟨(putS (decS s.data.toList)).toArray⟩ := ⟨_, rfl⟩
  rw [← hY] at p1
  have d1 : (Y.toList == (s.extract 0 226).toList) = true := same_text (by rw [hY, head_of, putS_dec he])
  have i1 : ¬ (s.size : Int) < 226 := by have := list_size s; omega
  have i2 : (226 : Int) ≤ (s.size : Int) := by omega
  have hml := spc_length (decS_fits hb.1)
  have hmo := spc_one (decS s.data.toList)
  generalize spc (decS s.data.toList) = N at *
  have P1 := Lib.hid p1
  clear p1 hY hb hn hk he
  have G1 := Lib.hid g1
  have G2 := Lib.hid g2
  clear g1 g2 hNH hNS
  go_enter Try.func6, Try.ntmps6
  go_wp2_with fail
  refine (G1.out _).mono ?_; rintro e w2 ⟨rfl, b2⟩
  have B1 := Lib.hid b2
  clear b2
  go_wp2_with (refine wpList_store_whole rfl 26 _ _ rfl w2.heap.size 26 (hdc noH) NH (by rfl) (by rfl) (Has.make w2 _ (hdc noH)) (by rw [lNH, hz]) (by rw [hi, lNH]) hzo ?_; intro w3 hF3 hO3)
  replace B1 := Lib.hid (hO3.below B1.out.size (up_alloc B1.out _))
  have HA := Lib.hid hF3
  clear hF3 hO3
  refine (G2.out _).mono ?_; rintro e w4 ⟨rfl, b4⟩
  replace HA := Lib.hid (HA.out.up b4)
  replace B1 := Lib.hid (up_trans B1.out b4)
  clear b4
  have l4 := HA.out.lt
  go_wp2_with (refine wpList_store_whole rfl 34 _ _ rfl w4.heap.size 34 (spc noS) N (by rfl) (by rfl) (Has.make w4 _ (spc noS)) (by rw [hml, hz2]) (by rw [hi2, hml]) hmo ?_; intro w5 hF5 hO5)
  have ON : Hid (OnO w2.heap.size w4.heap.size NH N w5) := Lib.hid ⟨hO5.keep (by omega) (HA.out.alloc _), hF5⟩
  replace B1 := Lib.hid (hO5.below B1.out.size (up_alloc B1.out _))
  clear hF5 hO5 HA
  refine wp_region_held_drew (S := OnO w2.heap.size w4.heap.size NH N) (by kernel_rfl) (ON.out.up (Below.refl _ _).drew) (fun hHeld => ?_)
  refine wpAnyH_take (i := 0) (v := ?_) rfl (by kernel_rfl) (by kernel_rfl) (by kernel_rfl) (fun _ _ _ h => h) (Or.inl ⟨by rfl, ?_⟩) (by assumption) ?_
  rotate_left
  · intro w hSw; (try dsimp only at hSw); go_simp; try with_reducible rfl
  try simp only [Act.put, List.getElem_toArray, List.getElem_cons_zero, List.setIfInBounds_toArray, List.set_cons_zero, List.set_cons_succ]
  refine wpAnyH_take (i := 1) (v := .bool false) rfl (by kernel_rfl) (by kernel_rfl) (by kernel_rfl) (fun _ _ _ h => h) (Or.inl ⟨by rfl, by intro w hSw; (try dsimp only at hSw); go_simp⟩) (by assumption) ?_
  try simp only [Act.put, List.getElem_toArray, List.getElem_cons_zero, List.getElem_cons_succ, List.setIfInBounds_toArray, List.set_cons_zero, List.set_cons_succ]
  refine wpAnyH_take (i := 2) (v := .bool false) rfl (by kernel_rfl) (by kernel_rfl) (by kernel_rfl) (fun _ _ _ h => h) (Or.inl ⟨by rfl, by intro w hSw; (try dsimp only at hSw); go_simp⟩) (by assumption) ?_
  try simp only [Act.put, List.getElem_toArray, List.getElem_cons_zero, List.getElem_cons_succ, List.setIfInBounds_toArray, List.set_cons_zero, List.set_cons_succ]
  refine wpAnyH_take (i := 3) (v := undef) rfl (by kernel_rfl) (by kernel_rfl) (by kernel_rfl) (fun _ _ _ h => h) (Or.inr ⟨by rfl, rfl⟩) (by assumption) ?_
  try simp only [Act.put, List.getElem_toArray, List.getElem_cons_zero, List.getElem_cons_succ, List.setIfInBounds_toArray, List.set_cons_zero, List.set_cons_succ]
  refine wpAnyH_take (i := 4) (v := undef) rfl (by kernel_rfl) (by kernel_rfl) (by kernel_rfl) (fun _ _ _ h => h) (Or.inr ⟨by rfl, rfl⟩) (by assumption) ?_
  try simp only [Act.put, List.getElem_toArray, List.getElem_cons_zero, List.getElem_cons_succ, List.setIfInBounds_toArray, List.set_cons_zero, List.set_cons_succ]
  refine wpAnyH_take (i := 5) (v := undef) rfl (by kernel_rfl) (by kernel_rfl) (by kernel_rfl) (fun _ _ _ h => h) (Or.inr ⟨by rfl, rfl⟩) (by assumption) ?_
  try simp only [Act.put, List.getElem_toArray, List.getElem_cons_zero, List.getElem_cons_succ, List.setIfInBounds_toArray, List.set_cons_zero, List.set_cons_succ]
  refine wpAnyH_take (i := 6) (v := undef) rfl (by kernel_rfl) (by kernel_rfl) (by kernel_rfl) (fun _ _ _ h => h) (Or.inr ⟨by rfl, rfl⟩) (by assumption) ?_
  try simp only [Act.put, List.getElem_toArray, List.getElem_cons_zero, List.getElem_cons_succ, List.setIfInBounds_toArray, List.set_cons_zero, List.set_cons_succ]
  refine wpAnyH_take (i := 7) (v := undef) rfl (by kernel_rfl) (by kernel_rfl) (by kernel_rfl) (fun _ _ _ h => h) (Or.inr ⟨by rfl, rfl⟩) (by assumption) ?_
  try simp only [Act.put, List.getElem_toArray, List.getElem_cons_zero, List.getElem_cons_succ, List.setIfInBounds_toArray, List.set_cons_zero, List.set_cons_succ]
  refine wpAnyH_take (i := 8) (v := undef) rfl (by kernel_rfl) (by kernel_rfl) (by kernel_rfl) (fun _ _ _ h => h) (Or.inr ⟨by rfl, rfl⟩) (by assumption) ?_
  try simp only [Act.put, List.getElem_toArray, List.getElem_cons_zero, List.getElem_cons_succ, List.setIfInBounds_toArray, List.set_cons_zero, List.set_cons_succ]
  refine wpAnyH_take (i := 9) (v := undef) rfl (by kernel_rfl) (by kernel_rfl) (by kernel_rfl) (fun _ _ _ h => h) (Or.inr ⟨by rfl, rfl⟩) (by assumption) ?_
  try simp only [Act.put, List.getElem_toArray, List.getElem_cons_zero, List.getElem_cons_succ, List.setIfInBounds_toArray, List.set_cons_zero, List.set_cons_succ]
  refine wpAnyH_take (i := 10) (v := undef) rfl (by kernel_rfl) (by kernel_rfl) (by kernel_rfl) (fun _ _ _ h => h) (Or.inr ⟨by rfl, rfl⟩) (by assumption) ?_
  try simp only [Act.put, List.getElem_toArray, List.getElem_cons_zero, List.getElem_cons_succ, List.setIfInBounds_toArray, List.set_cons_zero, List.set_cons_succ]
  refine wpAnyH_take (i := 11) (v := undef) rfl (by kernel_rfl) (by kernel_rfl) (by kernel_rfl) (fun _ _ _ h => h) (Or.inr ⟨by rfl, rfl⟩) (by assumption) ?_
  try simp only [Act.put, List.getElem_toArray, List.getElem_cons_zero, List.getElem_cons_succ, List.setIfInBounds_toArray, List.set_cons_zero, List.set_cons_succ]
  refine wpAnyH_take (i := 12) (v := undef) rfl (by kernel_rfl) (by kernel_rfl) (by kernel_rfl) (fun _ _ _ h => h) (Or.inr ⟨by rfl, rfl⟩) (by assumption) ?_
  try simp only [Act.put, List.getElem_toArray, List.getElem_cons_zero, List.getElem_cons_succ, List.setIfInBounds_toArray, List.set_cons_zero, List.set_cons_succ]
  refine wpAnyH_take (i := 13) (v := .bool false) rfl (by kernel_rfl) (by kernel_rfl) (by kernel_rfl) (fun _ _ _ h => h) (Or.inl ⟨by rfl, by intro w hSw; (try dsimp only at hSw); go_simp⟩) (by assumption) ?_
  try simp only [Act.put, List.getElem_toArray, List.getElem_cons_zero, List.getElem_cons_succ, List.setIfInBounds_toArray, List.set_cons_zero, List.set_cons_succ]
  refine wpAnyH_take (i := 14) (v := .bool false) rfl (by kernel_rfl) (by kernel_rfl) (by kernel_rfl) (fun _ _ _ h => h) (Or.inl ⟨by rfl, by intro w hSw; (try dsimp only at hSw); go_simp⟩) (by assumption) ?_
  try simp only [Act.put, List.getElem_toArray, List.getElem_cons_zero, List.getElem_cons_succ, List.setIfInBounds_toArray, List.set_cons_zero, List.set_cons_succ]
  refine wpAnyH_take (i := 15) (v := ?_) rfl (by kernel_rfl) (by kernel_rfl) (by kernel_rfl) (fun _ _ _ h => h) (Or.inl ⟨by rfl, ?_⟩) (by assumption) ?_
  rotate_left
  · intro w hSw; (try dsimp only at hSw); go_simp; try with_reducible rfl
  try simp only [Act.put, List.getElem_toArray, List.getElem_cons_zero, List.getElem_cons_succ, List.setIfInBounds_toArray, List.set_cons_zero, List.set_cons_succ]
  refine wpAnyH_take (i := 16) (v := .bool true) rfl (by kernel_rfl) (by kernel_rfl) (by kernel_rfl) (fun _ _ _ h => h) (Or.inl ⟨by rfl, by intro w hSw; (try dsimp only at hSw); go_simp⟩) (by assumption) ?_
  try simp only [Act.put, List.getElem_toArray, List.getElem_cons_zero, List.getElem_cons_succ, List.setIfInBounds_toArray, List.set_cons_zero, List.set_cons_succ]
  refine wpAnyH_take (i := 17) (v := .bool true) rfl (by kernel_rfl) (by kernel_rfl) (by kernel_rfl) (fun _ _ _ h => h) (Or.inl ⟨by rfl, by intro w hSw; (try dsimp only at hSw); go_simp⟩) (by assumption) ?_
  try simp only [Act.put, List.getElem_toArray, List.getElem_cons_zero, List.getElem_cons_succ, List.setIfInBounds_toArray, List.set_cons_zero, List.set_cons_succ]
  refine wpAnyH_take (i := 18) (v := ?_) rfl (by kernel_rfl) (by kernel_rfl) (by kernel_rfl) (fun _ _ _ h => h) (Or.inl ⟨by rfl, ?_⟩) (by assumption) ?_
  rotate_left
  · intro w hSw; (try dsimp only at hSw); go_simp; try with_reducible rfl
  try simp only [Act.put, List.getElem_toArray, List.getElem_cons_zero, List.getElem_cons_succ, List.setIfInBounds_toArray, List.set_cons_zero, List.set_cons_succ]
  refine wpAnyH_take (i := 19) (v := ?_) rfl (by kernel_rfl) (by kernel_rfl) (by kernel_rfl) (fun _ _ _ h => h) (Or.inl ⟨by rfl, ?_⟩) (by assumption) ?_
  rotate_left
  · intro w hSw; (try dsimp only at hSw); go_simp; try with_reducible rfl
  try simp only [Act.put, List.getElem_toArray, List.getElem_cons_zero, List.getElem_cons_succ, List.setIfInBounds_toArray, List.set_cons_zero, List.set_cons_succ]
  refine wpAnyH_take (i := 20) (v := .bool false) rfl (by kernel_rfl) (by kernel_rfl) (by kernel_rfl) (fun _ _ _ h => h) (Or.inl ⟨by rfl, by intro w hSw; (try dsimp only at hSw); go_simp⟩) (by assumption) ?_
  try simp only [Act.put, List.getElem_toArray, List.getElem_cons_zero, List.getElem_cons_succ, List.setIfInBounds_toArray, List.set_cons_zero, List.set_cons_succ]
  refine wpAnyH_take (i := 21) (v := .bool false) rfl (by kernel_rfl) (by kernel_rfl) (by kernel_rfl) (fun _ _ _ h => h) (Or.inl ⟨by rfl, by intro w hSw; (try dsimp only at hSw); go_simp⟩) (by assumption) ?_
  try simp only [Act.put, List.getElem_toArray, List.getElem_cons_zero, List.getElem_cons_succ, List.setIfInBounds_toArray, List.set_cons_zero, List.set_cons_succ]
  refine wpAnyH_take (i := 22) rfl (by kernel_rfl) (by kernel_rfl) (by kernel_rfl) (fun _ _ _ h => h) (yieldsIf_load_mid (by rfl) _ _ rfl w4.heap.size 0 rfl N _ (fun W h => h.b.whole) hu2 rfl (by rw [hi2, hml])) (by assumption) ?_
  try simp only [Act.put, List.getElem_toArray, List.getElem_cons_zero, List.getElem_cons_succ, List.setIfInBounds_toArray, List.set_cons_zero, List.set_cons_succ]
  refine wpAnyH_take (i := 24) (v := ?_) rfl (by kernel_rfl) (by kernel_rfl) (by kernel_rfl) (fun _ _ _ h => h) (Or.inl ⟨by rfl, ?_⟩) (by assumption) ?_
  rotate_left
  · intro w hSw; (try dsimp only at hSw); go_simp; try with_reducible rfl
  try simp only [Act.put, List.getElem_toArray, List.getElem_cons_zero, List.getElem_cons_succ, List.setIfInBounds_toArray, List.set_cons_zero, List.set_cons_succ]
  refine wpAnyH_take (i := 25) (v := ?_) rfl (by kernel_rfl) (by kernel_rfl) (by kernel_rfl) (fun _ _ _ h => h) (Or.inl ⟨by rfl, ?_⟩) (by assumption) ?_
  rotate_left
  · intro w hSw; (try dsimp only at hSw); go_simp; try with_reducible rfl
  try simp only [Act.put, List.getElem_toArray, List.getElem_cons_zero, List.getElem_cons_succ, List.setIfInBounds_toArray, List.set_cons_zero, List.set_cons_succ]
  refine wpAnyH_ready (rs := [23]) (by kernel_rfl) (by simp) (AllReadyH.cons rfl (fun K hK => ?_) AllReadyH.nil)
  go_simp
  refine (P1.out _).mono ?_; rintro e wn ⟨rfl, hbn'⟩
  have hbn : Below w5.heap.size w5 wn := up_trans (Below.refl _ _).drew hbn'
  clear hbn'
  go_wp2_with fail
  refine hK.out _ _ (ON.out.up hbn) (fun hHeld => ?_)
  clear hK K
  try simp only [Act.put, List.getElem_toArray, List.getElem_cons_zero, List.getElem_cons_succ, List.setIfInBounds_toArray, List.set_cons_zero, List.set_cons_succ]
  refine wpAnyH_take (i := 26) (v := .bool false) rfl (by kernel_rfl) (by kernel_rfl) (by kernel_rfl) (fun _ _ _ h => h) (Or.inl ⟨by rfl, by intro w hSw; (try dsimp only at hSw); go_simp⟩) (by assumption) ?_
  try simp only [Act.put, List.getElem_toArray, List.getElem_cons_zero, List.getElem_cons_succ, List.setIfInBounds_toArray, List.set_cons_zero, List.set_cons_succ]
  refine wpAnyH_take (i := 27) (v := .bool false) rfl (by kernel_rfl) (by kernel_rfl) (by kernel_rfl) (fun _ _ _ h => h) (Or.inl ⟨by rfl, by intro w hSw; (try dsimp only at hSw); go_simp⟩) (by assumption) ?_
  try simp only [Act.put, List.getElem_toArray, List.getElem_cons_zero, List.getElem_cons_succ, List.setIfInBounds_toArray, List.set_cons_zero, List.set_cons_succ]
  refine wpAnyH_take (i := 28) (v := .bool false) rfl (by kernel_rfl) (by kernel_rfl) (by kernel_rfl) (fun _ _ _ h => h) (Or.inl ⟨by rfl, by intro w hSw; (try dsimp only at hSw); go_simp⟩) (by assumption) ?_
  try simp only [Act.put, List.getElem_toArray, List.getElem_cons_zero, List.getElem_cons_succ, List.setIfInBounds_toArray, List.set_cons_zero, List.set_cons_succ]
  refine wpAnyH_take (i := 29) (v := .bool false) rfl (by kernel_rfl) (by kernel_rfl) (by kernel_rfl) (fun _ _ _ h => h) (Or.inl ⟨by rfl, by intro w hSw; (try dsimp only at hSw); go_simp⟩) (by assumption) ?_
  try simp only [Act.put, List.getElem_toArray, List.getElem_cons_zero, List.getElem_cons_succ, List.setIfInBounds_toArray, List.set_cons_zero, List.set_cons_succ]
  refine wpAnyH_done (by kernel_rfl) ?_ _
  replace ON := Lib.hid (ON.out.up hbn)
  replace B1 := Lib.hid (up_trans B1.out hbn)
  clear hHeld
  go_wp2_with fail
  refine (headed_any _).mono ?_; rintro e w9 ⟨rfl, b9⟩
  replace ON := Lib.hid (ON.out.up b9)
  replace B1 := Lib.hid (up_trans B1.out b9)
  clear b9
  go_wp2_with (first
    | (refine wpList_load_wanted (by rfl) 26 _ rfl w2.heap.size (by rfl) _ _ _ _ ON.out.a hu rfl (by rw [hi, List.size_toArray, lNH]) ?_)
    | (refine wpList_load_wanted (by rfl) 34 _ rfl w4.heap.size (by rfl) _ _ _ _ ON.out.b hu2 rfl (by rw [hi2, List.size_toArray, hml]) ?_)
    | (refine wpList_eql_wanted (by rfl) _ _ _ _ rfl NH.toArray (hdc noH).toArray (by rfl) (by rfl) noGuard_head true (fun w => EQ.out w) ?_)
    | (refine wpList_eql_wanted (by rfl) _ _ _ _ rfl NS.toArray (spc noS).toArray (by rfl) (by rfl) noGuard_super true (fun w => EQ2.out w) ?_))
  go_ret
  exact ⟨rfl, B1.out⟩

set_option maxHeartbeats 4000000 in
set_option maxRecDepth 100000 in
theorem HeaderOnly_none (s : ByteArray) (hs : s.size ≤ maxLen) (h1 : s.size ≤ 1000) (he : errH s.data.toList ≠ 0) (he2 : errS s.data.toList ≠ 0) (w : World) :
    Calls Try.prog 6 #[.string s] w fun e w' => e = .returned (.bool true) ∧ Below w.heap.size w w' := by
  have d : ¬ (1000 : Int) < (s.size : Int) := by omega
  have zv := zero_super
  have hz : (hdc noH).length = 34 := hdc_length noH_fits
  have hz2 : (spc noS).length = 70 := spc_length noS_fits
  have hi := info_head
  have hi2 := info_super
  have hu := Try.underlying26
  have hu2 := Try.underlying34
  obtain ⟨NH, hNH⟩ : ∃ M, M = hdc noH := ⟨_, rfl⟩
  obtain ⟨NS, hNS⟩ : ∃ M, M = spc noS := ⟨_, rfl⟩
  have lNH : NH.length = 34 := by rw [hNH, hz]
  have lNS : NS.length = 70 := by rw [hNS, hz2]
  have hzo : ∀ v ∈ NH, v.oneCell' = true := by rw [hNH]; exact hdc_one noH
  have hzo2 : ∀ v ∈ NS, v.oneCell' = true := by rw [hNS]; exact spc_one noS
  have EQ : Hid (∀ W, (binOp .eql 26 (.agg NH.toArray) (.agg (hdc noH).toArray)).run Try.prog W = .ok (.bool true) W) := Lib.hid (fun W => by rw [hNH, eql_head noH noH noH_fits noH_fits W, eqH_self])
  have EQ2 : Hid (∀ W, (binOp .eql 34 (.agg NS.toArray) (.agg (spc noS).toArray)).run Try.prog W = .ok (.bool true) W) := Lib.hid (fun W => by rw [hNS, eql_super noS noS noS_fits noS_fits W, eqS_self])
  obtain ⟨k, hk⟩ : ∃ k, errH s.data.toList = k := ⟨_, rfl⟩
  obtain ⟨m, hm⟩ : ∃ m, errS s.data.toList = m := ⟨_, rfl⟩
  have g1 := fun w => ghead_any s hs w
  have g2 := fun w => gsuper_any s hs w
  rw [gotH_no hk (by rw [← hk]; exact he), ← hNH] at g1
  rw [gotS_no hm (by rw [← hm]; exact he2), ← hNS] at g2
  have dk : ((k : Int) == 0) = false := by rw [beq_eq_false_iff_ne]; omega
  have dk2 : ((k : Int) != 0) = true := by rw [bne_iff_ne]; omega
  have dm : ((m : Int) == 0) = false := by rw [beq_eq_false_iff_ne]; omega
  have dm2 : ((m : Int) != 0) = true := by rw [bne_iff_ne]; omega
  clear hk hm he he2
  have G1 := Lib.hid g1
  have G2 := Lib.hid g2
  clear g1 g2 hNH hNS
  go_enter Try.func6, Try.ntmps6
  go_wp2_with fail
  refine (G1.out _).mono ?_; rintro e w2 ⟨rfl, b2⟩
  have B1 := Lib.hid b2
  clear b2
  go_wp2_with (refine wpList_store_whole rfl 26 _ _ rfl w2.heap.size 26 (hdc noH) NH (by rfl) (by rfl) (Has.make w2 _ (hdc noH)) (by rw [lNH, hz]) (by rw [hi, lNH]) hzo ?_; intro w3 hF3 hO3)
  replace B1 := Lib.hid (hO3.below B1.out.size (up_alloc B1.out _))
  have HA := Lib.hid hF3
  clear hF3 hO3
  refine (G2.out _).mono ?_; rintro e w4 ⟨rfl, b4⟩
  replace HA := Lib.hid (HA.out.up b4)
  replace B1 := Lib.hid (up_trans B1.out b4)
  clear b4
  have l4 := HA.out.lt
  go_wp2_with (refine wpList_store_whole rfl 34 _ _ rfl w4.heap.size 34 (spc noS) NS (by rfl) (by rfl) (Has.make w4 _ (spc noS)) (by rw [lNS, hz2]) (by rw [hi2, lNS]) hzo2 ?_; intro w5 hF5 hO5)
  have ON : Hid (OnO w2.heap.size w4.heap.size NH NS w5) := Lib.hid ⟨hO5.keep (by omega) (HA.out.alloc _), hF5⟩
  replace B1 := Lib.hid (hO5.below B1.out.size (up_alloc B1.out _))
  clear hF5 hO5 HA
  refine wp_region_held_drew (S := OnO w2.heap.size w4.heap.size NH NS) (by kernel_rfl) (ON.out.up (Below.refl _ _).drew) (fun hHeld => ?_)
  refine wpAnyH_take (i := 0) (v := ?_) rfl (by kernel_rfl) (by kernel_rfl) (by kernel_rfl) (fun _ _ _ h => h) (Or.inl ⟨by rfl, ?_⟩) (by assumption) ?_
  rotate_left
  · intro w hSw; (try dsimp only at hSw); go_simp; try with_reducible rfl
  try simp only [Act.put, List.getElem_toArray, List.getElem_cons_zero, List.setIfInBounds_toArray, List.set_cons_zero, List.set_cons_succ]
  refine wpAnyH_take (i := 1) (v := .bool false) rfl (by kernel_rfl) (by kernel_rfl) (by kernel_rfl) (fun _ _ _ h => h) (Or.inl ⟨by rfl, by intro w hSw; (try dsimp only at hSw); go_simp⟩) (by assumption) ?_
  try simp only [Act.put, List.getElem_toArray, List.getElem_cons_zero, List.getElem_cons_succ, List.setIfInBounds_toArray, List.set_cons_zero, List.set_cons_succ]
  refine wpAnyH_take (i := 2) (v := .bool false) rfl (by kernel_rfl) (by kernel_rfl) (by kernel_rfl) (fun _ _ _ h => h) (Or.inl ⟨by rfl, by intro w hSw; (try dsimp only at hSw); go_simp⟩) (by assumption) ?_
  try simp only [Act.put, List.getElem_toArray, List.getElem_cons_zero, List.getElem_cons_succ, List.setIfInBounds_toArray, List.set_cons_zero, List.set_cons_succ]
  refine wpAnyH_take (i := 3) (v := undef) rfl (by kernel_rfl) (by kernel_rfl) (by kernel_rfl) (fun _ _ _ h => h) (Or.inr ⟨by rfl, rfl⟩) (by assumption) ?_
  try simp only [Act.put, List.getElem_toArray, List.getElem_cons_zero, List.getElem_cons_succ, List.setIfInBounds_toArray, List.set_cons_zero, List.set_cons_succ]
  refine wpAnyH_take (i := 4) (v := undef) rfl (by kernel_rfl) (by kernel_rfl) (by kernel_rfl) (fun _ _ _ h => h) (Or.inr ⟨by rfl, rfl⟩) (by assumption) ?_
  try simp only [Act.put, List.getElem_toArray, List.getElem_cons_zero, List.getElem_cons_succ, List.setIfInBounds_toArray, List.set_cons_zero, List.set_cons_succ]
  refine wpAnyH_take (i := 5) (v := undef) rfl (by kernel_rfl) (by kernel_rfl) (by kernel_rfl) (fun _ _ _ h => h) (Or.inr ⟨by rfl, rfl⟩) (by assumption) ?_
  try simp only [Act.put, List.getElem_toArray, List.getElem_cons_zero, List.getElem_cons_succ, List.setIfInBounds_toArray, List.set_cons_zero, List.set_cons_succ]
  refine wpAnyH_take (i := 6) (v := undef) rfl (by kernel_rfl) (by kernel_rfl) (by kernel_rfl) (fun _ _ _ h => h) (Or.inr ⟨by rfl, rfl⟩) (by assumption) ?_
  try simp only [Act.put, List.getElem_toArray, List.getElem_cons_zero, List.getElem_cons_succ, List.setIfInBounds_toArray, List.set_cons_zero, List.set_cons_succ]
  refine wpAnyH_take (i := 7) (v := undef) rfl (by kernel_rfl) (by kernel_rfl) (by kernel_rfl) (fun _ _ _ h => h) (Or.inr ⟨by rfl, rfl⟩) (by assumption) ?_
  try simp only [Act.put, List.getElem_toArray, List.getElem_cons_zero, List.getElem_cons_succ, List.setIfInBounds_toArray, List.set_cons_zero, List.set_cons_succ]
  refine wpAnyH_take (i := 8) (v := undef) rfl (by kernel_rfl) (by kernel_rfl) (by kernel_rfl) (fun _ _ _ h => h) (Or.inr ⟨by rfl, rfl⟩) (by assumption) ?_
  try simp only [Act.put, List.getElem_toArray, List.getElem_cons_zero, List.getElem_cons_succ, List.setIfInBounds_toArray, List.set_cons_zero, List.set_cons_succ]
  refine wpAnyH_take (i := 9) (v := undef) rfl (by kernel_rfl) (by kernel_rfl) (by kernel_rfl) (fun _ _ _ h => h) (Or.inr ⟨by rfl, rfl⟩) (by assumption) ?_
  try simp only [Act.put, List.getElem_toArray, List.getElem_cons_zero, List.getElem_cons_succ, List.setIfInBounds_toArray, List.set_cons_zero, List.set_cons_succ]
  refine wpAnyH_take (i := 10) (v := undef) rfl (by kernel_rfl) (by kernel_rfl) (by kernel_rfl) (fun _ _ _ h => h) (Or.inr ⟨by rfl, rfl⟩) (by assumption) ?_
  try simp only [Act.put, List.getElem_toArray, List.getElem_cons_zero, List.getElem_cons_succ, List.setIfInBounds_toArray, List.set_cons_zero, List.set_cons_succ]
  refine wpAnyH_take (i := 11) (v := undef) rfl (by kernel_rfl) (by kernel_rfl) (by kernel_rfl) (fun _ _ _ h => h) (Or.inr ⟨by rfl, rfl⟩) (by assumption) ?_
  try simp only [Act.put, List.getElem_toArray, List.getElem_cons_zero, List.getElem_cons_succ, List.setIfInBounds_toArray, List.set_cons_zero, List.set_cons_succ]
  refine wpAnyH_take (i := 12) (v := undef) rfl (by kernel_rfl) (by kernel_rfl) (by kernel_rfl) (fun _ _ _ h => h) (Or.inr ⟨by rfl, rfl⟩) (by assumption) ?_
  try simp only [Act.put, List.getElem_toArray, List.getElem_cons_zero, List.getElem_cons_succ, List.setIfInBounds_toArray, List.set_cons_zero, List.set_cons_succ]
  refine wpAnyH_take (i := 13) (v := .bool false) rfl (by kernel_rfl) (by kernel_rfl) (by kernel_rfl) (fun _ _ _ h => h) (Or.inl ⟨by rfl, by intro w hSw; (try dsimp only at hSw); go_simp⟩) (by assumption) ?_
  try simp only [Act.put, List.getElem_toArray, List.getElem_cons_zero, List.getElem_cons_succ, List.setIfInBounds_toArray, List.set_cons_zero, List.set_cons_succ]
  refine wpAnyH_take (i := 14) (v := .bool false) rfl (by kernel_rfl) (by kernel_rfl) (by kernel_rfl) (fun _ _ _ h => h) (Or.inl ⟨by rfl, by intro w hSw; (try dsimp only at hSw); go_simp⟩) (by assumption) ?_
  try simp only [Act.put, List.getElem_toArray, List.getElem_cons_zero, List.getElem_cons_succ, List.setIfInBounds_toArray, List.set_cons_zero, List.set_cons_succ]
  refine wpAnyH_take (i := 15) (v := ?_) rfl (by kernel_rfl) (by kernel_rfl) (by kernel_rfl) (fun _ _ _ h => h) (Or.inl ⟨by rfl, ?_⟩) (by assumption) ?_
  rotate_left
  · intro w hSw; (try dsimp only at hSw); go_simp; try with_reducible rfl
  try simp only [Act.put, List.getElem_toArray, List.getElem_cons_zero, List.getElem_cons_succ, List.setIfInBounds_toArray, List.set_cons_zero, List.set_cons_succ]
  refine wpAnyH_take (i := 16) (v := .bool false) rfl (by kernel_rfl) (by kernel_rfl) (by kernel_rfl) (fun _ _ _ h => h) (Or.inl ⟨by rfl, by intro w hSw; (try dsimp only at hSw); go_simp⟩) (by assumption) ?_
  try simp only [Act.put, List.getElem_toArray, List.getElem_cons_zero, List.getElem_cons_succ, List.setIfInBounds_toArray, List.set_cons_zero, List.set_cons_succ]
  refine wpAnyH_take (i := 17) (v := .bool false) rfl (by kernel_rfl) (by kernel_rfl) (by kernel_rfl) (fun _ _ _ h => h) (Or.inl ⟨by rfl, by intro w hSw; (try dsimp only at hSw); go_simp⟩) (by assumption) ?_
  try simp only [Act.put, List.getElem_toArray, List.getElem_cons_zero, List.getElem_cons_succ, List.setIfInBounds_toArray, List.set_cons_zero, List.set_cons_succ]
  refine wpAnyH_take (i := 18) (v := undef) rfl (by kernel_rfl) (by kernel_rfl) (by kernel_rfl) (fun _ _ _ h => h) (Or.inr ⟨by rfl, rfl⟩) (by assumption) ?_
  try simp only [Act.put, List.getElem_toArray, List.getElem_cons_zero, List.getElem_cons_succ, List.setIfInBounds_toArray, List.set_cons_zero, List.set_cons_succ]
  refine wpAnyH_take (i := 19) (v := undef) rfl (by kernel_rfl) (by kernel_rfl) (by kernel_rfl) (fun _ _ _ h => h) (Or.inr ⟨by rfl, rfl⟩) (by assumption) ?_
  try simp only [Act.put, List.getElem_toArray, List.getElem_cons_zero, List.getElem_cons_succ, List.setIfInBounds_toArray, List.set_cons_zero, List.set_cons_succ]
  refine wpAnyH_take (i := 20) (v := undef) rfl (by kernel_rfl) (by kernel_rfl) (by kernel_rfl) (fun _ _ _ h => h) (Or.inr ⟨by rfl, rfl⟩) (by assumption) ?_
  try simp only [Act.put, List.getElem_toArray, List.getElem_cons_zero, List.getElem_cons_succ, List.setIfInBounds_toArray, List.set_cons_zero, List.set_cons_succ]
  refine wpAnyH_take (i := 21) (v := undef) rfl (by kernel_rfl) (by kernel_rfl) (by kernel_rfl) (fun _ _ _ h => h) (Or.inr ⟨by rfl, rfl⟩) (by assumption) ?_
  try simp only [Act.put, List.getElem_toArray, List.getElem_cons_zero, List.getElem_cons_succ, List.setIfInBounds_toArray, List.set_cons_zero, List.set_cons_succ]
  refine wpAnyH_take (i := 22) (v := undef) rfl (by kernel_rfl) (by kernel_rfl) (by kernel_rfl) (fun _ _ _ h => h) (Or.inr ⟨by rfl, rfl⟩) (by assumption) ?_
  try simp only [Act.put, List.getElem_toArray, List.getElem_cons_zero, List.getElem_cons_succ, List.setIfInBounds_toArray, List.set_cons_zero, List.set_cons_succ]
  refine wpAnyH_take (i := 23) (v := undef) rfl (by kernel_rfl) (by kernel_rfl) (by kernel_rfl) (fun _ _ _ h => h) (Or.inr ⟨by rfl, rfl⟩) (by assumption) ?_
  try simp only [Act.put, List.getElem_toArray, List.getElem_cons_zero, List.getElem_cons_succ, List.setIfInBounds_toArray, List.set_cons_zero, List.set_cons_succ]
  refine wpAnyH_take (i := 24) (v := undef) rfl (by kernel_rfl) (by kernel_rfl) (by kernel_rfl) (fun _ _ _ h => h) (Or.inr ⟨by rfl, rfl⟩) (by assumption) ?_
  try simp only [Act.put, List.getElem_toArray, List.getElem_cons_zero, List.getElem_cons_succ, List.setIfInBounds_toArray, List.set_cons_zero, List.set_cons_succ]
  refine wpAnyH_take (i := 25) (v := undef) rfl (by kernel_rfl) (by kernel_rfl) (by kernel_rfl) (fun _ _ _ h => h) (Or.inr ⟨by rfl, rfl⟩) (by assumption) ?_
  try simp only [Act.put, List.getElem_toArray, List.getElem_cons_zero, List.getElem_cons_succ, List.setIfInBounds_toArray, List.set_cons_zero, List.set_cons_succ]
  refine wpAnyH_take (i := 26) (v := undef) rfl (by kernel_rfl) (by kernel_rfl) (by kernel_rfl) (fun _ _ _ h => h) (Or.inr ⟨by rfl, rfl⟩) (by assumption) ?_
  try simp only [Act.put, List.getElem_toArray, List.getElem_cons_zero, List.getElem_cons_succ, List.setIfInBounds_toArray, List.set_cons_zero, List.set_cons_succ]
  refine wpAnyH_take (i := 27) (v := undef) rfl (by kernel_rfl) (by kernel_rfl) (by kernel_rfl) (fun _ _ _ h => h) (Or.inr ⟨by rfl, rfl⟩) (by assumption) ?_
  try simp only [Act.put, List.getElem_toArray, List.getElem_cons_zero, List.getElem_cons_succ, List.setIfInBounds_toArray, List.set_cons_zero, List.set_cons_succ]
  refine wpAnyH_take (i := 28) (v := .bool false) rfl (by kernel_rfl) (by kernel_rfl) (by kernel_rfl) (fun _ _ _ h => h) (Or.inl ⟨by rfl, by intro w hSw; (try dsimp only at hSw); go_simp⟩) (by assumption) ?_
  try simp only [Act.put, List.getElem_toArray, List.getElem_cons_zero, List.getElem_cons_succ, List.setIfInBounds_toArray, List.set_cons_zero, List.set_cons_succ]
  refine wpAnyH_take (i := 29) (v := .bool false) rfl (by kernel_rfl) (by kernel_rfl) (by kernel_rfl) (fun _ _ _ h => h) (Or.inl ⟨by rfl, by intro w hSw; (try dsimp only at hSw); go_simp⟩) (by assumption) ?_
  try simp only [Act.put, List.getElem_toArray, List.getElem_cons_zero, List.getElem_cons_succ, List.setIfInBounds_toArray, List.set_cons_zero, List.set_cons_succ]
  refine wpAnyH_done (by kernel_rfl) ?_ _
  replace ON := Lib.hid (ON.out.up (Below.refl _ _).drew)
  replace B1 := Lib.hid (up_trans B1.out (Below.refl _ _).drew)
  clear hHeld
  go_wp2_with fail
  refine (headed_any _).mono ?_; rintro e w9 ⟨rfl, b9⟩
  replace ON := Lib.hid (ON.out.up b9)
  replace B1 := Lib.hid (up_trans B1.out b9)
  clear b9
  go_wp2_with (first
    | (refine wpList_load_wanted (by rfl) 26 _ rfl w2.heap.size (by rfl) _ _ _ _ ON.out.a hu rfl (by rw [hi, List.size_toArray, lNH]) ?_)
    | (refine wpList_load_wanted (by rfl) 34 _ rfl w4.heap.size (by rfl) _ _ _ _ ON.out.b hu2 rfl (by rw [hi2, List.size_toArray, lNS]) ?_)
    | (refine wpList_eql_wanted (by rfl) _ _ _ _ rfl NH.toArray (hdc noH).toArray (by rfl) (by rfl) noGuard_head true (fun w => EQ.out w) ?_)
    | (refine wpList_eql_wanted (by rfl) _ _ _ _ rfl NS.toArray (spc noS).toArray (by rfl) (by rfl) noGuard_super true (fun w => EQ2.out w) ?_))
  go_ret
  exact ⟨rfl, B1.out⟩

set_option maxHeartbeats 4000000 in
set_option maxRecDepth 100000 in
theorem HeaderOnly_core (s : ByteArray) (hs : s.size ≤ maxLen) (w : World) :
    Calls Try.prog 6 #[.string s] w fun e w' => e = .returned (.bool true) ∧ Below w.heap.size w w' := by
  by_cases h1 : 1000 < s.size
  · have d : (1000 : Int) < (s.size : Int) := by omega
    go_enter Try.func6, Try.ntmps6
    go_wp2_with fail
    go_ret
    exact ⟨rfl, Below.refl _ _⟩
  by_cases he : errH s.data.toList = 0
  · exact HeaderOnly_head s hs (by omega) he w
  by_cases he2 : errS s.data.toList = 0
  · exact HeaderOnly_super s hs (by omega) he2 w
  · exact HeaderOnly_none s hs (by omega) he he2 w

theorem HeaderOnly_walk (a0 : ByteArray) (z0 : a0.size ≤ 140737488351232) (w : World) :
    Calls Try.prog 6 #[.string a0] w fun e w' => e = .returned (.bool true) ∧ Below w.heap.size w w' :=
  HeaderOnly_core a0 (by unfold maxLen; omega) w

end Go.Proofs.Ytfnjegjieglbbaa
