/- Heads and supers, read from bytes by the document's own answer: the contracts of blackboxref06's functions that get. -/
import Derived.Test.YtfnjegjieglbbaaHeadC
import Derived.Test.YtfnjegjieglbbaaHeadE
namespace Go.Proofs.Ytfnjegjieglbbaa
open Go.RowKit Wire Crc Head

set_option maxRecDepth 100000 in
theorem rnumber_any (s : ByteArray) (h8 : 8 ≤ s.size) (hs : s.size ≤ maxLen) (w : World) :
    Calls Try.prog 27 #[.string s] w fun e w' => e = .returned (.int .u64 (be (s.data.toList.take 8) : Nat)) ∧ Below w.heap.size w w' := by
  have c := fun w => rtakeFixed_any s hs 8 w
  have e : tkf s.data.toList 8 = (be (s.data.toList.take 8), s.data.toList.drop 8, 0) := tkf_long (d := 8) (by omega) (by omega) (by rw [list_size]; exact h8)
  rw [e] at c
  generalize be (s.data.toList.take 8) = v at *
  generalize s.data.toList.drop 8 = r at *
  have C := Lib.hid c
  clear c e
  go_enter Try.func27, Try.ntmps27
  go_wp2_with fail
  refine (C.out _).mono ?_; rintro e w1 ⟨rfl, b1⟩
  go_wp2_with fail
  go_ret
  exact ⟨rfl, b1⟩

theorem zdig_set (l : List UInt8) (k : Nat) (hk : k < 32) (h32 : 32 ≤ l.length) (c : UInt8) (hc : l[k]? = some c) :
    (bys (l.take k ++ List.replicate (32 - k) 0)).set k (.int .u8 (c.toNat : Nat)) = bys (l.take (k + 1) ++ List.replicate (32 - (k + 1)) 0) := by
  have hl : (bys (l.take k)).length = k := by rw [bys_length, List.length_take]; omega
  have e : ∀ a b : List UInt8, bys (a ++ b) = bys a ++ bys b := fun a b => by simp [bys]
  rw [e, e, List.set_append_right _ _ (by omega), hl, Nat.sub_self, List.take_add_one, hc, show 32 - k = (32 - (k + 1)) + 1 by omega, List.replicate_succ, e]
  simp [bys]
theorem zdig_at (l : List UInt8) (k : Nat) (hk : k < 32) (h32 : 32 ≤ l.length) : (bys (l.take k ++ List.replicate (32 - k) 0))[k]? = some (.int .u8 0) := by
  have hl : (bys (l.take k)).length = k := by rw [bys_length, List.length_take]; omega
  have e : ∀ a b : List UInt8, bys (a ++ b) = bys a ++ bys b := fun a b => by simp [bys]
  rw [e, List.getElem?_append_right (by omega), hl, Nat.sub_self, show 32 - k = (32 - (k + 1)) + 1 by omega, List.replicate_succ]
  rfl

set_option maxHeartbeats 1600000 in
set_option maxRecDepth 100000 in
theorem rsum_any (s : ByteArray) (h32 : 32 ≤ s.size) (hs : s.size ≤ maxLen) (w : World) :
    Calls Try.prog 28 #[.string s] w fun e w' => e = .returned (.agg (bys (s.data.toList.take 32)).toArray) ∧ Below w.heap.size w w' := by
  unfold maxLen at hs
  have HR := Lib.hid ((Has.make w 24 zdig).alloc (.cells zdig.toArray 24))
  have HZ := Lib.hid (Has.make2 w (.cells zdig.toArray 24) 24 zdig)
  have B0 := Lib.hid (up_alloc (up_alloc (Below.refl w.heap.size w) (.cells zdig.toArray 24)) (.cells zdig.toArray 24))
  have hl := list_size s
  go_enter Try.func28, Try.ntmps28
  go_wp2_with fail
  generalize hw2 : (w.alloc (Obj.cells _ _)).alloc _ = w2
  replace HR : Hid (Has w2 w.heap.size 24 zdig) := by rw [← hw2]; exact HR
  replace HZ : Hid (Has w2 (w.heap.size + 1) 24 zdig) := by rw [← hw2]; exact HZ
  replace B0 : Hid (Below w.heap.size w w2) := by rw [← hw2]; exact B0
  clear hw2
  go_loopw [4] (fun i wr => ∃ k : Nat, i = .int .i64 (k : Nat) ∧ k ≤ 32 ∧ Has wr (w.heap.size + 1) 24 (bys (s.data.toList.take k ++ List.replicate (32 - k) 0)) ∧ Has wr w.heap.size 24 zdig ∧ Below w.heap.size w wr) (fun i _ => 32 - (intOf i).toNat)
  case atStart => exact ⟨0, rfl, by omega, HZ.out, HR.out, B0.out⟩
  case round =>
    clear HR HZ B0
    obtain ⟨k, rfl, hk, hZ, hR, hB⟩ := hrel
    by_cases h : k < 32
    · have h0 : (0 : Int) ≤ (k : Int) := by omega
      have h1 : (k : Int) < 32 := by omega
      have h2 : (k : Int) < (s.size : Int) := by omega
      have hks : k < s.size := by omega
      have HT := Lib.hid (zdig_set s.data.toList k h (by omega) s[k] (by rw [List.getElem?_eq_getElem (by omega)]; rfl))
      have g1 := hZ.at (zdig_at s.data.toList k h (by omega))
      have g2 := hZ.free k
      have HZ := Lib.hid hZ
      have HR := Lib.hid hR
      have HB := Lib.hid hB
      clear hZ hR hB hl
      go_wp2_with fail
      go_roundw
      case rel => exact ⟨k + 1, by go_num, by omega, by rw [← HT.out]; exact HZ.out.set k _, HR.out.other (p := ⟨w.heap.size + 1, k, none⟩) (by simp) _, HB.out.setCell (p := ⟨w.heap.size + 1, k, none⟩) (by simp) _⟩
      case measure => simp [intOf]; omega
    · obtain rfl : k = 32 := by omega
      have HZ : Hid (Has wr (w.heap.size + 1) 24 (bys (s.data.toList.take 32))) := Lib.hid (by simpa using hZ)
      have hi := info_digest
      have hu := Try.underlying24
      have hbl : (bys (s.data.toList.take 32)).length = 32 := by rw [bys_length, List.length_take]; omega
      have ho := bys_one (s.data.toList.take 32)
      have HR := Lib.hid hR
      have HB := Lib.hid hB
      obtain ⟨M, hM⟩ : ∃ M, M = bys (s.data.toList.take 32) := ⟨_, rfl⟩
      rw [← hM] at HZ hbl ho
      have HM := Lib.hid hM
      clear hZ hR hB hl hs h32 hM
      go_wp2_with (first
        | (refine wpList_load_row rfl 24 _ rfl (w.heap.size + 1) (by rfl) _ _ _ _ HZ.out hu rfl (by rw [hi, List.size_toArray, hbl]) ?_)
        | (refine wpList_store_whole rfl 24 _ _ rfl w.heap.size 24 zdig M (by rfl) (by rfl) HR.out (by rw [hbl]; rfl) (by rw [hi, hbl]) ho ?_; intro w7 hF7 hO7))
      refine bodyPost_ret_by (results_cell_row Try.results28 _ _ w.heap.size _ _ _ _ (by rfl) hF7 hu rfl (by rw [hi, List.size_toArray, hbl])) rfl ⟨by rw [HM.out], hO7.below (Nat.le_refl _) HB.out⟩

theorem zeros_upto {l : List UInt8} {k : Nat} (_h49 : 49 ≤ k) (h : ∀ j, 49 ≤ j → j < k → j < l.length → l[j]? = some 0) (h60 : 60 ≤ k) (hl : 60 ≤ l.length) : piece l 49 11 = z11 := by
  apply List.ext_getElem?
  intro i
  by_cases hi : i < 11
  · rw [piece, List.getElem?_take_of_lt hi, List.getElem?_drop, h (49 + i) (by omega) (by omega) (by omega), z11, List.getElem?_replicate_of_lt hi]
  · rw [List.getElem?_eq_none (by rw [piece_length (by omega)]; omega), List.getElem?_eq_none (by rw [z11_length]; omega)]
theorem zeros_not {l : List UInt8} {k : Nat} (h49 : 49 ≤ k) (h60 : k < 60) {c : UInt8} (hc : l[k]? = some c) (h : c ≠ 0) : piece l 49 11 ≠ z11 := by
  intro he
  have h1 := congrArg (fun m => m[k - 49]?) he
  simp only [piece, z11] at h1
  rw [List.getElem?_take_of_lt (by omega), List.getElem?_drop, show 49 + (k - 49) = k by omega, hc, List.getElem?_replicate_of_lt (by omega)] at h1
  exact h (Option.some.inj h1)

set_option maxHeartbeats 1000000 in
set_option maxRecDepth 100000 in
theorem ropened_sum (s : ByteArray) (hs : s.size ≤ maxLen) (h0 : 64 ≤ s.size) (h1 : s.data.toList.headD 0 = 72) (h2 : piece s.data.toList 60 4 ≠ fx (sumOf (s.data.toList.take 60)) 4) (w : World) :
    Calls Try.prog 26 #[.string s] w fun e w' => e = .returned (.int .i64 (errH s.data.toList : Nat)) ∧ Below w.heap.size w w' := by
  unfold maxLen at hs
  have E := Lib.hid (errH_sum (l := s.data.toList) (by rw [list_size]; omega) h1 h2)
  have hl := list_size s
  have h00 : 0 < s.size := by omega
  have hc := list_cons s h00
  have h0' : s[0] = 72 := by rw [hc] at h1; exact h1
  have d0 : ((s[0].toNat : Int) != 72) = false := by rw [h0']; decide
  have i0 : (0 : Int) < (s.size : Int) := by omega
  have i1 : ¬ (s.size : Int) < 64 := by omega
  have i2 : (60 : Int) ≤ (s.size : Int) := by omega
  have i3 : (64 : Int) ≤ (s.size : Int) := by omega
  have t1 : s.extract 60 64 = ⟨(piece s.data.toList 60 4).toArray⟩ := by rw [extract_mid]; rfl
  have t2 : s.extract 0 60 = ⟨(s.data.toList.take 60).toArray⟩ := head_of s 60
  have c1 := fun w => rcrc_sum (s.extract 0 60) (by rw [t2, text_list, List.length_take]; unfold maxLen; omega) w
  have hk := sumOf_lt (s.extract 0 60).data.toList
  have hkv : sumOf (s.extract 0 60).data.toList = sumOf (s.data.toList.take 60) := by rw [t2]
  have hv : IntKind.u64.wrap (sumOf (s.extract 0 60).data.toList : Int) = (sumOf (s.extract 0 60).data.toList : Int) := by rw [IntKind.wrap_u64]; omega
  have c2 := fun w => rfixed4 (sumOf (s.extract 0 60).data.toList) w
  rw [hkv] at c1 c2 hv
  have d1 : ((s.extract 60 64).toList == fx (sumOf (s.data.toList.take 60)) 4) = false := other_list (by rw [t1]; exact h2)
  have C1 := Lib.hid c1
  have C2 := Lib.hid c2
  generalize sumOf (s.data.toList.take 60) = m at *
  generalize fx m 4 = Y at *
  clear c1 c2 hkv hk t1 t2 hc h0'
  clear h2 h1
  go_enter Try.func26, Try.ntmps26
  go_wp2_with fail
  refine wp_region_held_drew (S := fun _ => True) (by kernel_rfl) (trivial) (fun hHeld => ?_)
  refine wpAnyH_take (i := 0) (v := ?_) rfl (by kernel_rfl) (by kernel_rfl) (by kernel_rfl) (fun _ _ _ h => h) (Or.inl ⟨by rfl, ?_⟩) (by assumption) ?_
  rotate_left
  · intro w hSw; (try dsimp only at hSw); go_simp; try with_reducible rfl
  try simp only [Act.put, List.getElem_toArray, List.getElem_cons_zero, List.setIfInBounds_toArray, List.set_cons_zero, List.set_cons_succ]
  refine wpAnyH_take (i := 1) (v := ?_) rfl (by kernel_rfl) (by kernel_rfl) (by kernel_rfl) (fun _ _ _ h => h) (Or.inl ⟨by rfl, ?_⟩) (by assumption) ?_
  rotate_left
  · intro w hSw; (try dsimp only at hSw); go_simp; try with_reducible rfl
  try simp only [Act.put, List.getElem_toArray, List.getElem_cons_zero, List.getElem_cons_succ, List.setIfInBounds_toArray, List.set_cons_zero, List.set_cons_succ]
  refine wpAnyH_take (i := 2) (v := ?_) rfl (by kernel_rfl) (by kernel_rfl) (by kernel_rfl) (fun _ _ _ h => h) (Or.inl ⟨by rfl, ?_⟩) (by assumption) ?_
  rotate_left
  · intro w hSw; (try dsimp only at hSw); go_simp; try with_reducible rfl
  try simp only [Act.put, List.getElem_toArray, List.getElem_cons_zero, List.getElem_cons_succ, List.setIfInBounds_toArray, List.set_cons_zero, List.set_cons_succ]
  refine wpAnyH_take (i := 3) (v := ?_) rfl (by kernel_rfl) (by kernel_rfl) (by kernel_rfl) (fun _ _ _ h => h) (Or.inl ⟨by rfl, ?_⟩) (by assumption) ?_
  rotate_left
  · intro w hSw; (try dsimp only at hSw); go_simp; try with_reducible rfl
  try simp only [Act.put, List.getElem_toArray, List.getElem_cons_zero, List.getElem_cons_succ, List.setIfInBounds_toArray, List.set_cons_zero, List.set_cons_succ]
  refine wpAnyH_ready (rs := [4]) (by kernel_rfl) (by simp) (AllReadyH.cons rfl (fun K hK => ?_) AllReadyH.nil)
  go_simp
  refine (C1.out _).mono ?_; rintro e wn ⟨rfl, hbn'⟩
  have hbn : Below w.heap.size w wn := up_trans (Below.refl _ _).drew hbn'
  clear hbn'
  go_wp2_with fail
  refine hK.out _ _ (trivial) (fun hHeld => ?_)
  clear hK K
  try simp only [Act.put, List.getElem_toArray, List.getElem_cons_zero, List.getElem_cons_succ, List.setIfInBounds_toArray, List.set_cons_zero, List.set_cons_succ]
  refine wpAnyH_take (i := 5) (v := ?_) rfl (by kernel_rfl) (by kernel_rfl) (by kernel_rfl) (fun _ _ _ h => h) (Or.inl ⟨by rfl, ?_⟩) (by assumption) ?_
  rotate_left
  · intro w hSw; (try dsimp only at hSw); go_simp; try with_reducible rfl
  try simp only [Act.put, List.getElem_toArray, List.getElem_cons_zero, List.getElem_cons_succ, List.setIfInBounds_toArray, List.set_cons_zero, List.set_cons_succ]
  refine wpAnyH_ready (rs := [6]) (by kernel_rfl) (by simp) (AllReadyH.cons rfl (fun K hK => ?_) AllReadyH.nil)
  go_simp
  refine (C2.out _).mono ?_; rintro e wn ⟨rfl, hbn'⟩
  replace hbn : Below w.heap.size w wn := up_trans hbn hbn'
  clear hbn'
  go_wp2_with fail
  refine hK.out _ _ (trivial) (fun hHeld => ?_)
  clear hK K
  try simp only [Act.put, List.getElem_toArray, List.getElem_cons_zero, List.getElem_cons_succ, List.setIfInBounds_toArray, List.set_cons_zero, List.set_cons_succ]
  refine wpAnyH_take (i := 7) (v := ?_) rfl (by kernel_rfl) (by kernel_rfl) (by kernel_rfl) (fun _ _ _ h => h) (Or.inl ⟨by rfl, ?_⟩) (by assumption) ?_
  rotate_left
  · intro w hSw; (try dsimp only at hSw); go_simp; try with_reducible rfl
  try simp only [Act.put, List.getElem_toArray, List.getElem_cons_zero, List.getElem_cons_succ, List.setIfInBounds_toArray, List.set_cons_zero, List.set_cons_succ]
  refine wpAnyH_done (by kernel_rfl) ?_ _
  go_wp2_with fail
  go_ret
  exact ⟨by rw [E.out]; rfl, hbn⟩

set_option maxHeartbeats 1600000 in
set_option maxRecDepth 100000 in
theorem ropened_ok (s : ByteArray) (hs : s.size ≤ maxLen) (h0 : 64 ≤ s.size) (h1 : s.data.toList.headD 0 = 72) (h2 : piece s.data.toList 60 4 = fx (sumOf (s.data.toList.take 60)) 4) (w : World) :
    Calls Try.prog 26 #[.string s] w fun e w' => e = .returned (.int .i64 (errH s.data.toList : Nat)) ∧ Below w.heap.size w w' := by
  unfold maxLen at hs
  have EO := Lib.hid (fun h3 => errH_ok (l := s.data.toList) (by rw [list_size]; omega) h1 h2 h3)
  have EZ := Lib.hid (fun h3 => errH_zero (l := s.data.toList) (by rw [list_size]; omega) h1 h2 h3)
  have hl := list_size s
  have h00 : 0 < s.size := by omega
  have hc := list_cons s h00
  have h0' : s[0] = 72 := by rw [hc] at h1; exact h1
  have d0 : ((s[0].toNat : Int) != 72) = false := by rw [h0']; decide
  have i0 : (0 : Int) < (s.size : Int) := by omega
  have i1 : ¬ (s.size : Int) < 64 := by omega
  have i2 : (60 : Int) ≤ (s.size : Int) := by omega
  have i3 : (64 : Int) ≤ (s.size : Int) := by omega
  have t1 : s.extract 60 64 = ⟨(piece s.data.toList 60 4).toArray⟩ := by rw [extract_mid]; rfl
  have t2 : s.extract 0 60 = ⟨(s.data.toList.take 60).toArray⟩ := head_of s 60
  have c1 := fun w => rcrc_sum (s.extract 0 60) (by rw [t2, text_list, List.length_take]; unfold maxLen; omega) w
  have hk := sumOf_lt (s.extract 0 60).data.toList
  have hkv : sumOf (s.extract 0 60).data.toList = sumOf (s.data.toList.take 60) := by rw [t2]
  have hv : IntKind.u64.wrap (sumOf (s.extract 0 60).data.toList : Int) = (sumOf (s.extract 0 60).data.toList : Int) := by rw [IntKind.wrap_u64]; omega
  have c2 := fun w => rfixed4 (sumOf (s.extract 0 60).data.toList) w
  rw [hkv] at c1 c2 hv
  have d1 : ((s.extract 60 64).toList == fx (sumOf (s.data.toList.take 60)) 4) = true := same_list (by rw [t1]; exact h2)
  have C1 := Lib.hid c1
  have C2 := Lib.hid c2
  generalize sumOf (s.data.toList.take 60) = m at *
  generalize fx m 4 = Y at *
  clear c1 c2 hkv hk t1 t2 hc h0'
  clear h2 h1
  go_enter Try.func26, Try.ntmps26
  go_wp2_with fail
  refine wp_region_held_drew (S := fun _ => True) (by kernel_rfl) (trivial) (fun hHeld => ?_)
  refine wpAnyH_take (i := 0) (v := ?_) rfl (by kernel_rfl) (by kernel_rfl) (by kernel_rfl) (fun _ _ _ h => h) (Or.inl ⟨by rfl, ?_⟩) (by assumption) ?_
  rotate_left
  · intro w hSw; (try dsimp only at hSw); go_simp; try with_reducible rfl
  try simp only [Act.put, List.getElem_toArray, List.getElem_cons_zero, List.setIfInBounds_toArray, List.set_cons_zero, List.set_cons_succ]
  refine wpAnyH_take (i := 1) (v := ?_) rfl (by kernel_rfl) (by kernel_rfl) (by kernel_rfl) (fun _ _ _ h => h) (Or.inl ⟨by rfl, ?_⟩) (by assumption) ?_
  rotate_left
  · intro w hSw; (try dsimp only at hSw); go_simp; try with_reducible rfl
  try simp only [Act.put, List.getElem_toArray, List.getElem_cons_zero, List.getElem_cons_succ, List.setIfInBounds_toArray, List.set_cons_zero, List.set_cons_succ]
  refine wpAnyH_take (i := 2) (v := ?_) rfl (by kernel_rfl) (by kernel_rfl) (by kernel_rfl) (fun _ _ _ h => h) (Or.inl ⟨by rfl, ?_⟩) (by assumption) ?_
  rotate_left
  · intro w hSw; (try dsimp only at hSw); go_simp; try with_reducible rfl
  try simp only [Act.put, List.getElem_toArray, List.getElem_cons_zero, List.getElem_cons_succ, List.setIfInBounds_toArray, List.set_cons_zero, List.set_cons_succ]
  refine wpAnyH_take (i := 3) (v := ?_) rfl (by kernel_rfl) (by kernel_rfl) (by kernel_rfl) (fun _ _ _ h => h) (Or.inl ⟨by rfl, ?_⟩) (by assumption) ?_
  rotate_left
  · intro w hSw; (try dsimp only at hSw); go_simp; try with_reducible rfl
  try simp only [Act.put, List.getElem_toArray, List.getElem_cons_zero, List.getElem_cons_succ, List.setIfInBounds_toArray, List.set_cons_zero, List.set_cons_succ]
  refine wpAnyH_ready (rs := [4]) (by kernel_rfl) (by simp) (AllReadyH.cons rfl (fun K hK => ?_) AllReadyH.nil)
  go_simp
  refine (C1.out _).mono ?_; rintro e wn ⟨rfl, hbn'⟩
  have hbn : Below w.heap.size w wn := up_trans (Below.refl _ _).drew hbn'
  clear hbn'
  go_wp2_with fail
  refine hK.out _ _ (trivial) (fun hHeld => ?_)
  clear hK K
  try simp only [Act.put, List.getElem_toArray, List.getElem_cons_zero, List.getElem_cons_succ, List.setIfInBounds_toArray, List.set_cons_zero, List.set_cons_succ]
  refine wpAnyH_take (i := 5) (v := ?_) rfl (by kernel_rfl) (by kernel_rfl) (by kernel_rfl) (fun _ _ _ h => h) (Or.inl ⟨by rfl, ?_⟩) (by assumption) ?_
  rotate_left
  · intro w hSw; (try dsimp only at hSw); go_simp; try with_reducible rfl
  try simp only [Act.put, List.getElem_toArray, List.getElem_cons_zero, List.getElem_cons_succ, List.setIfInBounds_toArray, List.set_cons_zero, List.set_cons_succ]
  refine wpAnyH_ready (rs := [6]) (by kernel_rfl) (by simp) (AllReadyH.cons rfl (fun K hK => ?_) AllReadyH.nil)
  go_simp
  refine (C2.out _).mono ?_; rintro e wn ⟨rfl, hbn'⟩
  replace hbn : Below w.heap.size w wn := up_trans hbn hbn'
  clear hbn'
  go_wp2_with fail
  refine hK.out _ _ (trivial) (fun hHeld => ?_)
  clear hK K
  try simp only [Act.put, List.getElem_toArray, List.getElem_cons_zero, List.getElem_cons_succ, List.setIfInBounds_toArray, List.set_cons_zero, List.set_cons_succ]
  refine wpAnyH_take (i := 7) (v := ?_) rfl (by kernel_rfl) (by kernel_rfl) (by kernel_rfl) (fun _ _ _ h => h) (Or.inl ⟨by rfl, ?_⟩) (by assumption) ?_
  rotate_left
  · intro w hSw; (try dsimp only at hSw); go_simp; try with_reducible rfl
  try simp only [Act.put, List.getElem_toArray, List.getElem_cons_zero, List.getElem_cons_succ, List.setIfInBounds_toArray, List.set_cons_zero, List.set_cons_succ]
  refine wpAnyH_done (by kernel_rfl) ?_ _
  go_wp2_with fail
  go_loop [3] (fun i => ∃ k : Nat, i = .int .i64 (k : Nat) ∧ 49 ≤ k ∧ k ≤ 60 ∧ ∀ j, 49 ≤ j → j < k → j < s.data.toList.length → s.data.toList[j]? = some 0) (fun i => 60 - (intOf i).toNat)
  case atStart => exact ⟨49, rfl, by omega, by omega, fun j a b => by omega⟩
  case round =>
    obtain ⟨k, rfl, hk1, hk2, hz⟩ := hrel
    by_cases h : k < 60
    · have q0 : (0 : Int) ≤ (k : Int) := by omega
      have q1 : (k : Int) < 60 := by omega
      have q2 : (k : Int) < (s.size : Int) := by omega
      have hks : k < s.size := by omega
      have hat : s.data.toList[k]? = some s[k] := by rw [List.getElem?_eq_getElem (by omega)]; rfl
      by_cases hb : s[k] = 0
      · have d2 : ((s[k].toNat : Int) != 0) = false := by rw [hb]; decide
        have hz' : ∀ j, 49 ≤ j → j < k + 1 → j < s.data.toList.length → s.data.toList[j]? = some 0 := fun j a b c => by
          by_cases hj : j < k
          · exact hz j a hj c
          · obtain rfl : j = k := by omega
            rw [hat, hb]
        have HZ := Lib.hid hz'
        clear hz hz' hat hb
        go_wp2_with fail
        go_round
        case rel => exact ⟨k + 1, by go_num, by omega, by omega, HZ.out⟩
        case measure => simp [intOf]; omega
      · have d2 : ((s[k].toNat : Int) != 0) = true := by
          rw [bne_iff_ne]
          intro he
          exact hb (UInt8.toNat_inj.1 (by show s[k].toNat = 0; omega))
        have E := Lib.hid (EZ.out (zeros_not hk1 h hat hb))
        clear hz hat hb
        go_wp2_with fail
        go_ret
        exact ⟨by rw [E.out]; rfl, hbn⟩
    · obtain rfl : k = 60 := by omega
      have E := Lib.hid (EO.out (zeros_upto hk1 hz (by omega) (by omega)))
      have q1 : ¬ (60 : Int) < 60 := by omega
      clear hz
      go_wp2_with fail
      go_ret
      exact ⟨by rw [E.out]; rfl, hbn⟩

set_option maxRecDepth 100000 in
theorem ropened_any (s : ByteArray) (hs : s.size ≤ maxLen) (w : World) :
    Calls Try.prog 26 #[.string s] w fun e w' => e = .returned (.int .i64 (errH s.data.toList : Nat)) ∧ Below w.heap.size w w' := by
  have hl := list_size s
  by_cases h0 : s.size < 64
  · have E := Lib.hid (errH_few (l := s.data.toList) (by omega))
    have i1 : (s.size : Int) < 64 := by omega
    go_enter Try.func26, Try.ntmps26
    go_wp2_with fail
    go_ret
    exact ⟨by rw [E.out]; rfl, Below.refl _ _⟩
  by_cases h1 : s.data.toList.headD 0 = 72
  · by_cases h2 : piece s.data.toList 60 4 = fx (sumOf (s.data.toList.take 60)) 4
    · exact ropened_ok s hs (by omega) h1 h2 w
    · exact ropened_sum s hs (by omega) h1 h2 w
  · have E := Lib.hid (errH_mark (l := s.data.toList) (by omega) h1)
    have h00 : 0 < s.size := by omega
    have hc := list_cons s h00
    have d0 : ((s[0].toNat : Int) != 72) = true := by
      rw [bne_iff_ne]
      intro he
      rw [hc] at h1
      exact h1 (UInt8.toNat_inj.1 (by show s[0].toNat = 72; omega))
    have i0 : (0 : Int) < (s.size : Int) := by omega
    have i1 : ¬ (s.size : Int) < 64 := by omega
    clear hc h1
    go_enter Try.func26, Try.ntmps26
    go_wp2_with fail
    go_ret
    exact ⟨by rw [E.out]; rfl, Below.refl _ _⟩

end Go.Proofs.Ytfnjegjieglbbaa
