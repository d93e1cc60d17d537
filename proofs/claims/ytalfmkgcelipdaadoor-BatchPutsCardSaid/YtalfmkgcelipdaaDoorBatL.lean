/- A batch as bytes: the contract of batch.Put. -/
import Derived.Test.YtalfmkgcelipdaaDoorBatK
import Derived.Test.YtalfmkgcelipdaaDoorBatI
import Derived.Test.YtalfmkgcelipdaaDoorBatF
namespace Go.Proofs.YtalfmkgcelipdaaDoor
open Go.RowKit Wire Evt Bat Crc

theorem crc_of (s : ByteArray) (hs : s.size ≤ maxLen) (w : World) : Calls Tryd.prog 19 #[.string s] w fun e w' => e = .returned (.int .u32 (sumOf s.data.toList : Nat)) ∧ Below w.heap.size w w' := by
  refine (of_any s hs w).mono ?_; rintro e w' ⟨rfl, rfl⟩
  exact ⟨rfl, up_alloc (Below.refl _ _) _⟩

set_option maxHeartbeats 1000000 in
set_option maxRecDepth 100000 in
theorem bput_yes (b : Bt) (hf : b.Fits) (h : isB b.first b.evs = true) (A : Option Addr) (n cap : Nat) (hn : n = b.evs.length) (hcap : b.evs.length ≤ cap) (w : World) (hA : EvSl w A b.evs) :
    Calls Tryd.prog 6 #[.agg (btc b.first (.slice A n cap) b.prev).toArray] w fun e w' => e = .returned (.tuple #[.string ⟨(whole b).toArray⟩, .int .i64 0]) ∧ Below w.heap.size w w' := by
  obtain ⟨h1, h2, _, h4⟩ := isB_yes.1 h
  have i1 := fun w hA => bis_any b.first b.evs b.prev hf.seqs A n cap hn hcap (by omega) w hA
  rw [h] at i1
  have I := Lib.hid i1
  have C := Lib.hid (fun w hA => body_any b hf h A n cap hn hcap w hA)
  have hlen := btc_length b.first (.slice A n cap) hf.prev
  have hbl := body_len hf h
  have hi := info_batch
  have hu := Tryd.underlying27
  have HA := Lib.hid hA
  have HX := Lib.hid (Has.make w 27 (btc b.first (.slice A n cap) b.prev))
  generalize btc b.first (.slice A n cap) b.prev = L at *
  have B1 := Lib.hid (up_alloc (Below.refl w.heap.size w) (.cells L.toArray 27))
  obtain ⟨m, hm⟩ : ∃ m, m = (bodyB b).length := ⟨_, rfl⟩
  obtain ⟨Y, hY⟩ : ∃ Y : ByteArray, Y = ⟨(bodyB b).toArray⟩ := ⟨_, rfl⟩
  obtain ⟨F, hF⟩ : ∃ F : ByteArray, F = ⟨(fx m 4).toArray⟩ := ⟨_, rfl⟩
  have zY : Y.size = m := by rw [hY, text_list, hm]
  have zF : F.size = 4 := by rw [hF, text_list, fx_length]
  have c1 := fun w => fixed4 m w
  rw [← hF] at c1
  have C1 := Lib.hid c1
  rw [← hY] at C
  obtain ⟨T, hT⟩ : ∃ T : ByteArray, T = (⟨#[66]⟩ : ByteArray) ++ F ++ Y := ⟨_, rfl⟩
  have hTl : T.data.toList = framedB b := by
    rw [hT, hF, hY, hm]
    simp [framedB]
  have zT : T.size = m + 5 := by
    have := list_size T
    rw [← this, hTl, framed_len, hm]
  have c2 := fun w => crc_of T (by rw [zT]; unfold maxLen; omega) w
  have hq := sumOf_lt T.data.toList
  obtain ⟨q, hqe⟩ : ∃ q, q = sumOf T.data.toList := ⟨_, rfl⟩
  rw [← hqe] at c2 hq
  have hq64 := Lib.hid (show IntKind.u64.wrap (q : Int) = (q : Int) by rw [IntKind.wrap_u64]; omega)
  obtain ⟨G, hG⟩ : ∃ G : ByteArray, G = ⟨(fx q 4).toArray⟩ := ⟨_, rfl⟩
  have zG : G.size = 4 := by rw [hG, text_list, fx_length]
  have c3 := fun w => fixed4 q w
  rw [← hG] at c3
  have C3 := Lib.hid c3
  have E : Hid (T ++ G = ⟨(whole b).toArray⟩) := Lib.hid (by
    apply ByteArray.ext
    apply Array.toList_inj.1
    rw [ByteArray.data_append, Array.toList_append, hTl, hG, hqe, hTl]
    rfl)
  rw [hT] at c2 E
  have C2 := Lib.hid c2
  have v1 : IntKind.u64.wrap (m : Int) = (m : Int) := by rw [IntKind.wrap_u64]; omega
  have yb : Y.size ≤ 10400 := by omega
  have fb : F.size ≤ 4 := by omega
  have gb : G.size ≤ 4 := by omega
  have j1 : ¬ 9223372036854775807 < 1 + F.size := by omega
  have j2 : ¬ 9223372036854775807 < 1 + F.size + m := by omega
  have j3 : ¬ 9223372036854775807 < 1 + F.size + m + G.size := by omega
  have v2 : IntKind.u64.wrap (Y.size : Int) = (m : Int) := by rw [IntKind.wrap_u64]; omega
  have hst := fun (W : World) (h : Below w.heap.size w W) => HA.out.up h
  have HST := Lib.hid hst
  clear i1 h hbl hA hm hY hF zF c1 hT hTl zT c2 hq hqe hG zG c3 hst hn hcap h1 h2 h4
  go_enter Tryd.func6, Tryd.ntmps6
  go_wp2_with (refine wpList_load_row rfl 27 _ rfl w.heap.size (by rfl) _ _ _ _ HX.out hu rfl (by rw [hi, List.size_toArray, hlen]) ?_)
  generalize hw1 : w.alloc (Obj.cells L.toArray 27) = w1
  rw [hw1] at HX B1
  clear hw1
  refine (I.out _ (HST.out _ B1.out)).mono ?_; rintro e w2 ⟨rfl, b2⟩
  replace HX := Lib.hid (HX.out.up b2)
  replace B1 := Lib.hid (up_trans B1.out b2)
  clear b2
  go_wp2_with (refine wpList_load_row rfl 27 _ rfl w.heap.size (by rfl) _ _ _ _ HX.out hu rfl (by rw [hi, List.size_toArray, hlen]) ?_)
  refine (C.out _ (HST.out _ B1.out)).mono ?_; rintro e w3 ⟨rfl, b3⟩
  replace B1 := Lib.hid (up_trans B1.out b3)
  clear b3 HX I C
  go_wp2_with fail
  refine wp_region_held_drew (S := fun _ => True) (by kernel_rfl) (trivial) (fun hHeld => ?_)
  refine wpAnyH_take (i := 2) (v := ?_) rfl (by kernel_rfl) (by kernel_rfl) (by kernel_rfl) (fun _ _ _ h => h) (Or.inl ⟨by rfl, ?_⟩) (by assumption) ?_
  rotate_left
  · intro w hSw; (try dsimp only at hSw); go_simp; try with_reducible rfl
  try simp only [Act.put, List.getElem_toArray, List.getElem_cons_zero, List.getElem_cons_succ, List.setIfInBounds_toArray, List.set_cons_zero, List.set_cons_succ]
  refine wpAnyH_take (i := 3) (v := ?_) rfl (by kernel_rfl) (by kernel_rfl) (by kernel_rfl) (fun _ _ _ h => h) (Or.inl ⟨by rfl, ?_⟩) (by assumption) ?_
  rotate_left
  · intro w hSw; (try dsimp only at hSw); go_simp; try with_reducible rfl
  try simp only [Act.put, List.getElem_toArray, List.getElem_cons_zero, List.getElem_cons_succ, List.setIfInBounds_toArray, List.set_cons_zero, List.set_cons_succ]
  refine wpAnyH_take (i := 4) (v := ?_) rfl (by kernel_rfl) (by kernel_rfl) (by kernel_rfl) (fun _ _ _ h => h) (Or.inl ⟨by rfl, ?_⟩) (by assumption) ?_
  rotate_left
  · intro w hSw; (try dsimp only at hSw); go_simp; try with_reducible rfl
  try simp only [Act.put, List.getElem_toArray, List.getElem_cons_zero, List.getElem_cons_succ, List.setIfInBounds_toArray, List.set_cons_zero, List.set_cons_succ]
  refine wpAnyH_take (i := 7) (v := ?_) rfl (by kernel_rfl) (by kernel_rfl) (by kernel_rfl) (fun _ _ _ h => h) (Or.inl ⟨by rfl, ?_⟩) (by assumption) ?_
  rotate_left
  · intro w hSw; (try dsimp only at hSw); go_simp; try with_reducible rfl
  try simp only [Act.put, List.getElem_toArray, List.getElem_cons_zero, List.getElem_cons_succ, List.setIfInBounds_toArray, List.set_cons_zero, List.set_cons_succ]
  refine wpAnyH_ready (rs := [0, 5]) (by kernel_rfl) (by simp) (AllReadyH.cons rfl (fun K hK => ?_) (AllReadyH.cons rfl (fun K hK => ?_) AllReadyH.nil))
  · skip
    go_simp
    refine hK.out _ _ (trivial) (fun hHeld => ?_)
    clear hK K
    try simp only [Act.put, List.getElem_toArray, List.getElem_cons_zero, List.getElem_cons_succ, List.setIfInBounds_toArray, List.set_cons_zero, List.set_cons_succ]
    refine wpAnyH_turn (fun W => Has W w3.heap.size 5 (bys [66])) (fun _ _ => trivial) (by first | exact Has.make _ 5 (bys [66]) | exact (Has.make _ 5 (bys [66])).drew) (fun hHeld => ?_)
    refine wpAnyH_take (i := 1) (v := .string ⟨#[66]⟩) rfl (by kernel_rfl) (by kernel_rfl) (by kernel_rfl) (fun _ _ _ h => h) (Or.inl ⟨by rfl, by intro w hSw; have ht := has_text (n := 1) hSw rfl; go_simp⟩) (by assumption) ?_
    try simp only [Act.put, List.getElem_toArray, List.getElem_cons_zero, List.getElem_cons_succ, List.setIfInBounds_toArray, List.set_cons_zero, List.set_cons_succ]
    refine wpAnyH_ready (rs := [5]) (by kernel_rfl) (by simp) (AllReadyH.cons rfl (fun K hK => ?_) AllReadyH.nil)
    go_simp
    refine (C1.out _).mono ?_; rintro e wn ⟨rfl, hbn'⟩; have hbn'' := hbn'
    replace hbn : Below w3.heap.size w3 wn := up_trans (up_alloc (Below.refl _ _).drew _) hbn'
    clear hbn'
    go_wp2_with fail
    refine hK.out _ _ (hHeld.up hbn'') (fun hHeld => ?_)
    clear hK K
    try simp only [Act.put, List.getElem_toArray, List.getElem_cons_zero, List.getElem_cons_succ, List.setIfInBounds_toArray, List.set_cons_zero, List.set_cons_succ]
    refine wpAnyH_take (i := 6) (v := ?_) rfl (by kernel_rfl) (by kernel_rfl) (by kernel_rfl) (fun _ _ _ h => h) (Or.inl ⟨by rfl, ?_⟩) (by assumption) ?_
    rotate_left
    · intro w hSw; (try dsimp only at hSw); go_simp; try with_reducible rfl
    try simp only [Act.put, List.getElem_toArray, List.getElem_cons_zero, List.getElem_cons_succ, List.setIfInBounds_toArray, List.set_cons_zero, List.set_cons_succ]
    refine wpAnyH_take (i := 8) (v := ?_) rfl (by kernel_rfl) (by kernel_rfl) (by kernel_rfl) (fun _ _ _ h => h) (Or.inl ⟨by rfl, ?_⟩) (by assumption) ?_
    rotate_left
    · intro w hSw; (try dsimp only at hSw); go_simp; try with_reducible rfl
    try simp only [Act.put, List.getElem_toArray, List.getElem_cons_zero, List.getElem_cons_succ, List.setIfInBounds_toArray, List.set_cons_zero, List.set_cons_succ]
    refine wpAnyH_take (i := 9) (v := ?_) rfl (by kernel_rfl) (by kernel_rfl) (by kernel_rfl) (fun _ _ _ h => h) (Or.inl ⟨by rfl, ?_⟩) (by assumption) ?_
    rotate_left
    · intro w hSw; (try dsimp only at hSw); go_simp; try with_reducible rfl
    try simp only [Act.put, List.getElem_toArray, List.getElem_cons_zero, List.getElem_cons_succ, List.setIfInBounds_toArray, List.set_cons_zero, List.set_cons_succ]
    refine wpAnyH_done (by kernel_rfl) ?_ _
    go_wp2_with fail
    refine (C2.out _).mono ?_; rintro e w5 ⟨rfl, b5⟩
    have q1 := hq64.out
    go_wp2_with fail
    refine (C3.out _).mono ?_; rintro e w6 ⟨rfl, b6⟩
    go_wp2_with fail
    go_ret2
    exact ⟨by rw [← E.out]; rfl, up_trans (up_trans (up_trans B1.out hbn) b5) b6⟩
  · skip
    go_simp
    refine (C1.out _).mono ?_; rintro e wn ⟨rfl, hbn'⟩; have hbn'' := hbn'
    have hbn : Below w3.heap.size w3 wn := up_trans (Below.refl _ _).drew hbn'
    clear hbn'
    go_wp2_with fail
    refine hK.out _ _ (trivial) (fun hHeld => ?_)
    clear hK K
    try simp only [Act.put, List.getElem_toArray, List.getElem_cons_zero, List.getElem_cons_succ, List.setIfInBounds_toArray, List.set_cons_zero, List.set_cons_succ]
    refine wpAnyH_ready (rs := [0]) (by kernel_rfl) (by simp) (AllReadyH.cons rfl (fun K hK => ?_) AllReadyH.nil)
    go_simp
    refine hK.out _ _ (trivial) (fun hHeld => ?_)
    clear hK K
    try simp only [Act.put, List.getElem_toArray, List.getElem_cons_zero, List.getElem_cons_succ, List.setIfInBounds_toArray, List.set_cons_zero, List.set_cons_succ]
    refine wpAnyH_turn (fun W => Has W wn.heap.size 5 (bys [66])) (fun _ _ => trivial) (by first | exact Has.make _ 5 (bys [66]) | exact (Has.make _ 5 (bys [66])).drew) (fun hHeld => ?_)
    refine wpAnyH_take (i := 1) (v := .string ⟨#[66]⟩) rfl (by kernel_rfl) (by kernel_rfl) (by kernel_rfl) (fun _ _ _ h => h) (Or.inl ⟨by rfl, by intro w hSw; have ht := has_text (n := 1) hSw rfl; go_simp⟩) (by assumption) ?_
    try simp only [Act.put, List.getElem_toArray, List.getElem_cons_zero, List.getElem_cons_succ, List.setIfInBounds_toArray, List.set_cons_zero, List.set_cons_succ]
    refine wpAnyH_take (i := 6) (v := ?_) rfl (by kernel_rfl) (by kernel_rfl) (by kernel_rfl) (fun _ _ _ h => h) (Or.inl ⟨by rfl, ?_⟩) (by assumption) ?_
    rotate_left
    · intro w hSw; (try dsimp only at hSw); go_simp; try with_reducible rfl
    try simp only [Act.put, List.getElem_toArray, List.getElem_cons_zero, List.getElem_cons_succ, List.setIfInBounds_toArray, List.set_cons_zero, List.set_cons_succ]
    refine wpAnyH_take (i := 8) (v := ?_) rfl (by kernel_rfl) (by kernel_rfl) (by kernel_rfl) (fun _ _ _ h => h) (Or.inl ⟨by rfl, ?_⟩) (by assumption) ?_
    rotate_left
    · intro w hSw; (try dsimp only at hSw); go_simp; try with_reducible rfl
    try simp only [Act.put, List.getElem_toArray, List.getElem_cons_zero, List.getElem_cons_succ, List.setIfInBounds_toArray, List.set_cons_zero, List.set_cons_succ]
    refine wpAnyH_take (i := 9) (v := ?_) rfl (by kernel_rfl) (by kernel_rfl) (by kernel_rfl) (fun _ _ _ h => h) (Or.inl ⟨by rfl, ?_⟩) (by assumption) ?_
    rotate_left
    · intro w hSw; (try dsimp only at hSw); go_simp; try with_reducible rfl
    try simp only [Act.put, List.getElem_toArray, List.getElem_cons_zero, List.getElem_cons_succ, List.setIfInBounds_toArray, List.set_cons_zero, List.set_cons_succ]
    refine wpAnyH_done (by kernel_rfl) ?_ _
    go_wp2_with fail
    refine (C2.out _).mono ?_; rintro e w5 ⟨rfl, b5⟩
    have q1 := hq64.out
    go_wp2_with fail
    refine (C3.out _).mono ?_; rintro e w6 ⟨rfl, b6⟩
    go_wp2_with fail
    go_ret2
    exact ⟨by rw [← E.out]; rfl, up_trans (up_trans (up_trans B1.out (up_alloc hbn _)) b5) b6⟩

end Go.Proofs.YtalfmkgcelipdaaDoor
