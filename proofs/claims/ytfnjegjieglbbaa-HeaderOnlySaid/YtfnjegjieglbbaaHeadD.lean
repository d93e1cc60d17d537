/- Heads and supers as bytes: the contracts of header.PutHead and header.PutSuper. -/
import Derived.Test.YtfnjegjieglbbaaHeadA
namespace Go.Proofs.Ytfnjegjieglbbaa
open Go.RowKit Wire Crc Head

theorem spc_at {x : Sp} (hf : x.Fits) : (spc x)[35]? = some (.int .u64 (x.id : Nat)) ∧ (spc x)[36]? = some (.int .u64 (x.fin : Nat)) ∧ (spc x)[37]? = some (.int .u64 (x.next : Nat)) := by
  have hz : (bys x.anchor).length = 32 := by rw [bys_length, hf.anchor]
  have s : ∀ (t : List Value) (k : Nat), (bys x.anchor ++ t)[32 + k]? = t[k]? := fun t k => by
    rw [List.getElem?_append_right (by omega), hz, Nat.add_sub_cancel_left]
  refine ⟨?_, ?_, ?_⟩
  · show (bys x.anchor ++ _)[32 + 0]? = _
    rw [s]; rfl
  · show (bys x.anchor ++ _)[32 + 1]? = _
    rw [s]; rfl
  · show (bys x.anchor ++ _)[32 + 2]? = _
    rw [s]; rfl
theorem hdc_anchor (h : Hd) : ((hdc h).drop 2).take h.anchor.length = bys h.anchor := by
  show (bys h.anchor).take _ = _
  rw [List.take_of_length_le (by rw [bys_length]; omega)]
theorem spc_anchor (x : Sp) : ((spc x).drop 3).take x.anchor.length = bys x.anchor := by
  show (bys x.anchor ++ _).take _ = _
  rw [List.take_left' (bys_length _)]
theorem spc_sum {x : Sp} (hf : x.Fits) : ((spc x).drop 38).take x.sum.length = bys x.sum := by
  have hz : (bys x.anchor).length = 32 := by rw [bys_length, hf.anchor]
  show ((bys x.anchor ++ (([.int .u64 (x.id : Nat), .int .u64 (x.fin : Nat), .int .u64 (x.next : Nat)] : List Value) ++ bys x.sum)).drop 35).take _ = _
  rw [← List.append_assoc, List.drop_left' (by simp [hz]), List.take_of_length_le (by rw [bys_length]; omega)]
theorem hdc_range {h : Hd} {W : World} {b : Nat} {t : TypeId} (hW : Has W b t (hdc h)) : W.rangeAt b 2 (bys h.anchor) := by have := hW.range 2 h.anchor.length; rwa [hdc_anchor] at this
theorem spc_range3 {x : Sp} {W : World} {b : Nat} {t : TypeId} (hW : Has W b t (spc x)) : W.rangeAt b 3 (bys x.anchor) := by have := hW.range 3 x.anchor.length; rwa [spc_anchor] at this
theorem spc_range38 {x : Sp} (hf : x.Fits) {W : World} {b : Nat} {t : TypeId} (hW : Has W b t (spc x)) : W.rangeAt b 38 (bys x.sum) := by have := hW.range 38 x.sum.length; rwa [spc_sum hf] at this
theorem bytes_of (l : List UInt8) (n : Nat) (hl : l.length = n) (W : World) (g o : Nat) (h : W.rangeAt g o (bys l)) : (convert 43 9 (.slice (some ⟨g, o, none⟩) n n)).run Try.prog W = .ok (.string ⟨l.toArray⟩) W := by
  subst hl
  exact bytes_text W g o _ l h

set_option maxHeartbeats 1000000 in
set_option maxRecDepth 100000 in
theorem phead_any (h : Hd) (hf : h.Fits) (w : World) :
    Calls Try.prog 12 #[.agg (hdc h).toArray] w fun e w' => e = .returned (.string ⟨(putH h).toArray⟩) ∧ Below w.heap.size w w' := by
  have HX := Lib.hid (Has.make w 26 (hdc h))
  have L0 : Hid ((hdc h)[0]? = some (.int .u64 (h.id : Nat))) := Lib.hid rfl
  have L1 : Hid ((hdc h)[1]? = some (.int .u64 (h.first : Nat))) := Lib.hid rfl
  obtain ⟨A, hA⟩ : ∃ A : ByteArray, A = ⟨h.anchor.toArray⟩ := ⟨_, rfl⟩
  have TA : Hid (∀ W, Has W w.heap.size 26 (hdc h) → (convert 43 9 (.slice (some ⟨w.heap.size, 2, none⟩) 32 32)).run Try.prog W = .ok (.string A) W) := Lib.hid (fun W hW => by
    rw [hA]; exact bytes_of h.anchor 32 hf.anchor W _ _ (hdc_range hW))
  generalize hdc h = L at *
  have B1 := Lib.hid (up_alloc (Below.refl w.heap.size w) (.cells L.toArray 26))
  obtain ⟨M, hM⟩ : ∃ M : ByteArray, M = ⟨(72 :: [h.id, h.first].flatMap (fx · 8)).toArray⟩ := ⟨_, rfl⟩
  have cl : ∀ (g : Nat) (W : World), Has W g 22 (nums .u64 [h.id, h.first]) → Calls Try.prog 29 #[.int .u8 72, .slice (some ⟨g, 0, none⟩) 2 2] W fun e w' => e = .returned (.string M) ∧ Below W.heap.size W w' := fun g W hW => by
    rw [hM]; exact lay_any 72 [h.id, h.first] (by simp) g 2 W hW
  obtain ⟨Z, hZ⟩ : ∃ Z : ByteArray, Z = ⟨(List.replicate 11 0).toArray⟩ := ⟨_, rfl⟩
  have cz : ∀ w, Calls Try.prog 25 #[.int .i64 11] w _ := fun w => zeros_any 11 (by omega) w
  rw [← hZ] at cz
  have zA : A.size = 32 := by rw [hA, text_list, hf.anchor]
  have zM : M.size = 17 := by rw [hM, text_list]; simp [fx_length]
  have zZ : Z.size = 11 := by rw [hZ, text_list]; simp
  have hall : (M ++ A ++ Z).data.toList = frontH h := by rw [hM, hA, hZ]; simp [frontH, z11]
  have cs := fun w => sumof_any (M ++ A ++ Z) (by rw [ByteArray.size_append, ByteArray.size_append, zA, zM, zZ]; unfold maxLen; omega) w
  rw [hall] at cs
  obtain ⟨Y, hY⟩ : ∃ Y : ByteArray, Y = ⟨(fx (sumOf (frontH h)) 4).toArray⟩ := ⟨_, rfl⟩
  rw [← hY] at cs
  have zY : Y.size = 4 := by rw [hY, text_list, fx_length]
  have E : Hid (M ++ A ++ Z ++ Y = ⟨(putH h).toArray⟩) := Lib.hid (by
    apply ByteArray.ext
    apply Array.toList_inj.1
    show (M ++ A ++ Z ++ Y).data.toList = putH h
    rw [ByteArray.data_append, Array.toList_append, hall, hY]
    rfl)
  have CL := Lib.hid (fun g => cl g)
  have CZ := Lib.hid cz
  have CS := Lib.hid cs
  clear cl cz cs hall hA hM hZ hY
  go_enter Try.func12, Try.ntmps12
  go_wp2_with fail
  generalize hw1 : w.alloc (Obj.cells _ _) = w1
  replace HX : Hid (Has w1 w.heap.size 26 L) := by rw [← hw1]; exact HX
  replace B1 : Hid (Below w.heap.size w w1) := by rw [← hw1]; exact B1
  clear hw1
  refine wp_region_held_drew (S := fun W => Has W w.heap.size 26 L) (by kernel_rfl) (HX.out.drew) (fun hHeld => ?_)
  refine wpAnyH_take (i := 0) (v := ?_) rfl (by kernel_rfl) (by kernel_rfl) (by kernel_rfl) (fun _ _ _ h => h) (Or.inl ⟨by rfl, ?_⟩) (by assumption) ?_
  rotate_left
  · intro w hSw; (try dsimp only at hSw); go_simp; try with_reducible rfl
  try simp only [Act.put, List.getElem_toArray, List.getElem_cons_zero, List.setIfInBounds_toArray, List.set_cons_zero, List.set_cons_succ]
  refine wpAnyH_take (i := 1) (v := .int .u64 (h.id : Nat)) rfl (by kernel_rfl) (by kernel_rfl) (by kernel_rfl) (fun _ _ _ h => h) (Or.inl ⟨by rfl, by intro w hSw; have c := (hSw).at L0.out; go_simp⟩) (by assumption) ?_
  try simp only [Act.put, List.getElem_toArray, List.getElem_cons_zero, List.getElem_cons_succ, List.setIfInBounds_toArray, List.set_cons_zero, List.set_cons_succ]
  refine wpAnyH_take (i := 2) (v := ?_) rfl (by kernel_rfl) (by kernel_rfl) (by kernel_rfl) (fun _ _ _ h => h) (Or.inl ⟨by rfl, ?_⟩) (by assumption) ?_
  rotate_left
  · intro w hSw; (try dsimp only at hSw); go_simp; try with_reducible rfl
  try simp only [Act.put, List.getElem_toArray, List.getElem_cons_zero, List.getElem_cons_succ, List.setIfInBounds_toArray, List.set_cons_zero, List.set_cons_succ]
  refine wpAnyH_take (i := 3) (v := .int .u64 (h.first : Nat)) rfl (by kernel_rfl) (by kernel_rfl) (by kernel_rfl) (fun _ _ _ h => h) (Or.inl ⟨by rfl, by intro w hSw; have c := (hSw).at L1.out; go_simp⟩) (by assumption) ?_
  try simp only [Act.put, List.getElem_toArray, List.getElem_cons_zero, List.getElem_cons_succ, List.setIfInBounds_toArray, List.set_cons_zero, List.set_cons_succ]
  refine wpAnyH_take (i := 6) (v := ?_) rfl (by kernel_rfl) (by kernel_rfl) (by kernel_rfl) (fun _ _ _ h => h) (Or.inl ⟨by rfl, ?_⟩) (by assumption) ?_
  rotate_left
  · intro w hSw; (try dsimp only at hSw); go_simp; try with_reducible rfl
  try simp only [Act.put, List.getElem_toArray, List.getElem_cons_zero, List.getElem_cons_succ, List.setIfInBounds_toArray, List.set_cons_zero, List.set_cons_succ]
  refine wpAnyH_take (i := 7) (v := ?_) rfl (by kernel_rfl) (by kernel_rfl) (by kernel_rfl) (fun _ _ _ h => h) (Or.inl ⟨by rfl, ?_⟩) (by assumption) ?_
  rotate_left
  · intro w hSw; (try dsimp only at hSw); go_simp; try with_reducible rfl
  try simp only [Act.put, List.getElem_toArray, List.getElem_cons_zero, List.getElem_cons_succ, List.setIfInBounds_toArray, List.set_cons_zero, List.set_cons_succ]
  refine wpAnyH_take (i := 8) (v := .string A) rfl (by kernel_rfl) (by kernel_rfl) (by kernel_rfl) (fun _ _ _ h => h) (Or.inl ⟨by rfl, by intro w hSw; have c := TA.out w hSw; go_simp⟩) (by assumption) ?_
  try simp only [Act.put, List.getElem_toArray, List.getElem_cons_zero, List.getElem_cons_succ, List.setIfInBounds_toArray, List.set_cons_zero, List.set_cons_succ]
  refine wpAnyH_ready (rs := [4]) (by kernel_rfl) (by simp) (AllReadyH.cons rfl (fun K hK => ?_) AllReadyH.nil)
  go_simp
  refine hK.out _ _ (HX.out.drew.alloc _) (fun hHeld => ?_)
  clear hK K
  try simp only [Act.put, List.getElem_toArray, List.getElem_cons_zero, List.getElem_cons_succ, List.setIfInBounds_toArray, List.set_cons_zero, List.set_cons_succ]
  refine wpAnyH_turn (fun W => Has W w.heap.size 26 L ∧ Has W w1.heap.size 22 (nums .u64 [h.id, h.first])) (fun _ h => h.1) (by exact ⟨HX.out.drew.alloc _, Has.make _ 22 (nums .u64 [h.id, h.first])⟩) (fun hHeld => ?_)
  refine wpAnyH_ready (rs := [5]) (by kernel_rfl) (by simp) (AllReadyH.cons rfl (fun K hK => ?_) AllReadyH.nil)
  go_simp
  refine (CL.out _ _ hHeld.2).mono ?_; rintro e wn ⟨rfl, hbn'⟩
  replace hbn : Below w1.heap.size w1 wn := up_trans (up_alloc (Below.refl _ _).drew _) hbn'
  have hbw := hbn'
  clear hbn'
  go_wp2_with fail
  refine hK.out _ _ (⟨hHeld.1.up hbw, hHeld.2.up hbw⟩) (fun hHeld => ?_)
  clear hK K
  try simp only [Act.put, List.getElem_toArray, List.getElem_cons_zero, List.getElem_cons_succ, List.setIfInBounds_toArray, List.set_cons_zero, List.set_cons_succ]
  refine wpAnyH_take (i := 9) (v := ?_) rfl (by kernel_rfl) (by kernel_rfl) (by kernel_rfl) (fun _ _ _ h => h) (Or.inl ⟨by rfl, ?_⟩) (by assumption) ?_
  rotate_left
  · intro w hSw; (try dsimp only at hSw); go_simp; try with_reducible rfl
  try simp only [Act.put, List.getElem_toArray, List.getElem_cons_zero, List.getElem_cons_succ, List.setIfInBounds_toArray, List.set_cons_zero, List.set_cons_succ]
  refine wpAnyH_take (i := 10) (v := ?_) rfl (by kernel_rfl) (by kernel_rfl) (by kernel_rfl) (fun _ _ _ h => h) (Or.inl ⟨by rfl, ?_⟩) (by assumption) ?_
  rotate_left
  · intro w hSw; (try dsimp only at hSw); go_simp; try with_reducible rfl
  try simp only [Act.put, List.getElem_toArray, List.getElem_cons_zero, List.getElem_cons_succ, List.setIfInBounds_toArray, List.set_cons_zero, List.set_cons_succ]
  refine wpAnyH_done (by kernel_rfl) ?_ _
  replace B1 := Lib.hid (up_trans B1.out hbn)
  go_wp2_with fail
  refine (CZ.out _).mono ?_; rintro e w5 ⟨rfl, b5⟩
  go_wp2_with fail
  refine (CS.out _).mono ?_; rintro e w6 ⟨rfl, b6⟩
  go_wp2_with fail
  go_ret
  exact ⟨by rw [← E.out]; rfl, up_trans (up_trans B1.out b5) b6⟩

set_option maxHeartbeats 1000000 in
set_option maxRecDepth 100000 in
theorem psuper_any (x : Sp) (hf : x.Fits) (w : World) :
    Calls Try.prog 16 #[.agg (spc x).toArray] w fun e w' => e = .returned (.string ⟨(putS x).toArray⟩) ∧ Below w.heap.size w w' := by
  have HX := Lib.hid (Has.make w 34 (spc x))
  have L0 : Hid ((spc x)[0]? = some (.int .u64 (x.epoch : Nat))) := Lib.hid rfl
  have L1 : Hid ((spc x)[1]? = some (.int .u64 (x.tail : Nat))) := Lib.hid rfl
  have L2 : Hid ((spc x)[2]? = some (.int .u64 (x.first : Nat))) := Lib.hid rfl
  have L3 := Lib.hid (spc_at hf).1
  have L4 := Lib.hid (spc_at hf).2.1
  have L5 := Lib.hid (spc_at hf).2.2
  obtain ⟨A, hA⟩ : ∃ A : ByteArray, A = ⟨x.anchor.toArray⟩ := ⟨_, rfl⟩
  obtain ⟨D, hD⟩ : ∃ D : ByteArray, D = ⟨x.sum.toArray⟩ := ⟨_, rfl⟩
  have TA : Hid (∀ W, Has W w.heap.size 34 (spc x) → (convert 43 9 (.slice (some ⟨w.heap.size, 3, none⟩) 32 32)).run Try.prog W = .ok (.string A) W) := Lib.hid (fun W hW => by
    rw [hA]; exact bytes_of x.anchor 32 hf.anchor W _ _ (spc_range3 hW))
  have TD : Hid (∀ W, Has W w.heap.size 34 (spc x) → (convert 43 9 (.slice (some ⟨w.heap.size, 38, none⟩) 32 32)).run Try.prog W = .ok (.string D) W) := Lib.hid (fun W hW => by
    rw [hD]; exact bytes_of x.sum 32 hf.sum W _ _ (spc_range38 hf hW))
  generalize spc x = L at *
  have B1 := Lib.hid (up_alloc (Below.refl w.heap.size w) (.cells L.toArray 34))
  obtain ⟨M, hM⟩ : ∃ M : ByteArray, M = ⟨(83 :: [x.epoch, x.tail, x.first, x.id, x.fin, x.next].flatMap (fx · 8)).toArray⟩ := ⟨_, rfl⟩
  have cl : ∀ (g : Nat) (W : World), Has W g 22 (nums .u64 [x.epoch, x.tail, x.first, x.id, x.fin, x.next]) → Calls Try.prog 29 #[.int .u8 83, .slice (some ⟨g, 0, none⟩) 6 6] W fun e w' => e = .returned (.string M) ∧ Below W.heap.size W w' := fun g W hW => by
    rw [hM]; exact lay_any 83 [x.epoch, x.tail, x.first, x.id, x.fin, x.next] (by simp) g 6 W hW
  have zA : A.size = 32 := by rw [hA, text_list, hf.anchor]
  have zD : D.size = 32 := by rw [hD, text_list, hf.sum]
  have zM : M.size = 49 := by rw [hM, text_list]; simp [fx_length]
  have E : Hid (M ++ A ++ D ++ (M ++ A ++ D) = ⟨(putS x).toArray⟩) := Lib.hid (by
    apply ByteArray.ext
    apply Array.toList_inj.1
    rw [hM, hA, hD]
    simp [putS, halfS])
  have CL := Lib.hid cl
  clear cl hA hD hM
  go_enter Try.func16, Try.ntmps16
  go_wp2_with fail
  generalize hw1 : w.alloc (Obj.cells _ _) = w1
  replace HX : Hid (Has w1 w.heap.size 34 L) := by rw [← hw1]; exact HX
  replace B1 : Hid (Below w.heap.size w w1) := by rw [← hw1]; exact B1
  clear hw1
  refine wp_region_held_drew (S := fun W => Has W w.heap.size 34 L) (by kernel_rfl) (HX.out.drew) (fun hHeld => ?_)
  refine wpAnyH_take (i := 0) (v := ?_) rfl (by kernel_rfl) (by kernel_rfl) (by kernel_rfl) (fun _ _ _ h => h) (Or.inl ⟨by rfl, ?_⟩) (by assumption) ?_
  rotate_left
  · intro w hSw; (try dsimp only at hSw); go_simp; try with_reducible rfl
  try simp only [Act.put, List.getElem_toArray, List.getElem_cons_zero, List.setIfInBounds_toArray, List.set_cons_zero, List.set_cons_succ]
  refine wpAnyH_take (i := 1) (v := .int .u64 (x.epoch : Nat)) rfl (by kernel_rfl) (by kernel_rfl) (by kernel_rfl) (fun _ _ _ h => h) (Or.inl ⟨by rfl, by intro w hSw; have c := (hSw).at L0.out; go_simp⟩) (by assumption) ?_
  try simp only [Act.put, List.getElem_toArray, List.getElem_cons_zero, List.getElem_cons_succ, List.setIfInBounds_toArray, List.set_cons_zero, List.set_cons_succ]
  refine wpAnyH_take (i := 2) (v := ?_) rfl (by kernel_rfl) (by kernel_rfl) (by kernel_rfl) (fun _ _ _ h => h) (Or.inl ⟨by rfl, ?_⟩) (by assumption) ?_
  rotate_left
  · intro w hSw; (try dsimp only at hSw); go_simp; try with_reducible rfl
  try simp only [Act.put, List.getElem_toArray, List.getElem_cons_zero, List.getElem_cons_succ, List.setIfInBounds_toArray, List.set_cons_zero, List.set_cons_succ]
  refine wpAnyH_take (i := 3) (v := .int .u64 (x.tail : Nat)) rfl (by kernel_rfl) (by kernel_rfl) (by kernel_rfl) (fun _ _ _ h => h) (Or.inl ⟨by rfl, by intro w hSw; have c := (hSw).at L1.out; go_simp⟩) (by assumption) ?_
  try simp only [Act.put, List.getElem_toArray, List.getElem_cons_zero, List.getElem_cons_succ, List.setIfInBounds_toArray, List.set_cons_zero, List.set_cons_succ]
  refine wpAnyH_take (i := 4) (v := ?_) rfl (by kernel_rfl) (by kernel_rfl) (by kernel_rfl) (fun _ _ _ h => h) (Or.inl ⟨by rfl, ?_⟩) (by assumption) ?_
  rotate_left
  · intro w hSw; (try dsimp only at hSw); go_simp; try with_reducible rfl
  try simp only [Act.put, List.getElem_toArray, List.getElem_cons_zero, List.getElem_cons_succ, List.setIfInBounds_toArray, List.set_cons_zero, List.set_cons_succ]
  refine wpAnyH_take (i := 5) (v := .int .u64 (x.first : Nat)) rfl (by kernel_rfl) (by kernel_rfl) (by kernel_rfl) (fun _ _ _ h => h) (Or.inl ⟨by rfl, by intro w hSw; have c := (hSw).at L2.out; go_simp⟩) (by assumption) ?_
  try simp only [Act.put, List.getElem_toArray, List.getElem_cons_zero, List.getElem_cons_succ, List.setIfInBounds_toArray, List.set_cons_zero, List.set_cons_succ]
  refine wpAnyH_take (i := 6) (v := ?_) rfl (by kernel_rfl) (by kernel_rfl) (by kernel_rfl) (fun _ _ _ h => h) (Or.inl ⟨by rfl, ?_⟩) (by assumption) ?_
  rotate_left
  · intro w hSw; (try dsimp only at hSw); go_simp; try with_reducible rfl
  try simp only [Act.put, List.getElem_toArray, List.getElem_cons_zero, List.getElem_cons_succ, List.setIfInBounds_toArray, List.set_cons_zero, List.set_cons_succ]
  refine wpAnyH_take (i := 7) (v := .int .u64 (x.id : Nat)) rfl (by kernel_rfl) (by kernel_rfl) (by kernel_rfl) (fun _ _ _ h => h) (Or.inl ⟨by rfl, by intro w hSw; have c := (hSw).at L3.out; go_simp⟩) (by assumption) ?_
  try simp only [Act.put, List.getElem_toArray, List.getElem_cons_zero, List.getElem_cons_succ, List.setIfInBounds_toArray, List.set_cons_zero, List.set_cons_succ]
  refine wpAnyH_take (i := 8) (v := ?_) rfl (by kernel_rfl) (by kernel_rfl) (by kernel_rfl) (fun _ _ _ h => h) (Or.inl ⟨by rfl, ?_⟩) (by assumption) ?_
  rotate_left
  · intro w hSw; (try dsimp only at hSw); go_simp; try with_reducible rfl
  try simp only [Act.put, List.getElem_toArray, List.getElem_cons_zero, List.getElem_cons_succ, List.setIfInBounds_toArray, List.set_cons_zero, List.set_cons_succ]
  refine wpAnyH_take (i := 9) (v := .int .u64 (x.fin : Nat)) rfl (by kernel_rfl) (by kernel_rfl) (by kernel_rfl) (fun _ _ _ h => h) (Or.inl ⟨by rfl, by intro w hSw; have c := (hSw).at L4.out; go_simp⟩) (by assumption) ?_
  try simp only [Act.put, List.getElem_toArray, List.getElem_cons_zero, List.getElem_cons_succ, List.setIfInBounds_toArray, List.set_cons_zero, List.set_cons_succ]
  refine wpAnyH_take (i := 10) (v := ?_) rfl (by kernel_rfl) (by kernel_rfl) (by kernel_rfl) (fun _ _ _ h => h) (Or.inl ⟨by rfl, ?_⟩) (by assumption) ?_
  rotate_left
  · intro w hSw; (try dsimp only at hSw); go_simp; try with_reducible rfl
  try simp only [Act.put, List.getElem_toArray, List.getElem_cons_zero, List.getElem_cons_succ, List.setIfInBounds_toArray, List.set_cons_zero, List.set_cons_succ]
  refine wpAnyH_take (i := 11) (v := .int .u64 (x.next : Nat)) rfl (by kernel_rfl) (by kernel_rfl) (by kernel_rfl) (fun _ _ _ h => h) (Or.inl ⟨by rfl, by intro w hSw; have c := (hSw).at L5.out; go_simp⟩) (by assumption) ?_
  try simp only [Act.put, List.getElem_toArray, List.getElem_cons_zero, List.getElem_cons_succ, List.setIfInBounds_toArray, List.set_cons_zero, List.set_cons_succ]
  refine wpAnyH_take (i := 14) (v := ?_) rfl (by kernel_rfl) (by kernel_rfl) (by kernel_rfl) (fun _ _ _ h => h) (Or.inl ⟨by rfl, ?_⟩) (by assumption) ?_
  rotate_left
  · intro w hSw; (try dsimp only at hSw); go_simp; try with_reducible rfl
  try simp only [Act.put, List.getElem_toArray, List.getElem_cons_zero, List.getElem_cons_succ, List.setIfInBounds_toArray, List.set_cons_zero, List.set_cons_succ]
  refine wpAnyH_take (i := 15) (v := ?_) rfl (by kernel_rfl) (by kernel_rfl) (by kernel_rfl) (fun _ _ _ h => h) (Or.inl ⟨by rfl, ?_⟩) (by assumption) ?_
  rotate_left
  · intro w hSw; (try dsimp only at hSw); go_simp; try with_reducible rfl
  try simp only [Act.put, List.getElem_toArray, List.getElem_cons_zero, List.getElem_cons_succ, List.setIfInBounds_toArray, List.set_cons_zero, List.set_cons_succ]
  refine wpAnyH_take (i := 16) (v := .string A) rfl (by kernel_rfl) (by kernel_rfl) (by kernel_rfl) (fun _ _ _ h => h) (Or.inl ⟨by rfl, by intro w hSw; have c := TA.out w hSw; go_simp⟩) (by assumption) ?_
  try simp only [Act.put, List.getElem_toArray, List.getElem_cons_zero, List.getElem_cons_succ, List.setIfInBounds_toArray, List.set_cons_zero, List.set_cons_succ]
  refine wpAnyH_take (i := 18) (v := ?_) rfl (by kernel_rfl) (by kernel_rfl) (by kernel_rfl) (fun _ _ _ h => h) (Or.inl ⟨by rfl, ?_⟩) (by assumption) ?_
  rotate_left
  · intro w hSw; (try dsimp only at hSw); go_simp; try with_reducible rfl
  try simp only [Act.put, List.getElem_toArray, List.getElem_cons_zero, List.getElem_cons_succ, List.setIfInBounds_toArray, List.set_cons_zero, List.set_cons_succ]
  refine wpAnyH_take (i := 19) (v := ?_) rfl (by kernel_rfl) (by kernel_rfl) (by kernel_rfl) (fun _ _ _ h => h) (Or.inl ⟨by rfl, ?_⟩) (by assumption) ?_
  rotate_left
  · intro w hSw; (try dsimp only at hSw); go_simp; try with_reducible rfl
  try simp only [Act.put, List.getElem_toArray, List.getElem_cons_zero, List.getElem_cons_succ, List.setIfInBounds_toArray, List.set_cons_zero, List.set_cons_succ]
  refine wpAnyH_take (i := 20) (v := .string D) rfl (by kernel_rfl) (by kernel_rfl) (by kernel_rfl) (fun _ _ _ h => h) (Or.inl ⟨by rfl, by intro w hSw; have c := TD.out w hSw; go_simp⟩) (by assumption) ?_
  try simp only [Act.put, List.getElem_toArray, List.getElem_cons_zero, List.getElem_cons_succ, List.setIfInBounds_toArray, List.set_cons_zero, List.set_cons_succ]
  refine wpAnyH_ready (rs := [12]) (by kernel_rfl) (by simp) (AllReadyH.cons rfl (fun K hK => ?_) AllReadyH.nil)
  go_simp
  refine hK.out _ _ (HX.out.drew.alloc _) (fun hHeld => ?_)
  clear hK K
  try simp only [Act.put, List.getElem_toArray, List.getElem_cons_zero, List.getElem_cons_succ, List.setIfInBounds_toArray, List.set_cons_zero, List.set_cons_succ]
  refine wpAnyH_turn (fun W => Has W w.heap.size 34 L ∧ Has W w1.heap.size 22 (nums .u64 [x.epoch, x.tail, x.first, x.id, x.fin, x.next])) (fun _ h => h.1) (by exact ⟨HX.out.drew.alloc _, Has.make _ 22 (nums .u64 [x.epoch, x.tail, x.first, x.id, x.fin, x.next])⟩) (fun hHeld => ?_)
  refine wpAnyH_ready (rs := [13]) (by kernel_rfl) (by simp) (AllReadyH.cons rfl (fun K hK => ?_) AllReadyH.nil)
  go_simp
  refine (CL.out _ _ hHeld.2).mono ?_; rintro e wn ⟨rfl, hbn'⟩
  replace hbn : Below w1.heap.size w1 wn := up_trans (up_alloc (Below.refl _ _).drew _) hbn'
  have hbw := hbn'
  clear hbn'
  go_wp2_with fail
  refine hK.out _ _ (⟨hHeld.1.up hbw, hHeld.2.up hbw⟩) (fun hHeld => ?_)
  clear hK K
  try simp only [Act.put, List.getElem_toArray, List.getElem_cons_zero, List.getElem_cons_succ, List.setIfInBounds_toArray, List.set_cons_zero, List.set_cons_succ]
  refine wpAnyH_take (i := 17) (v := ?_) rfl (by kernel_rfl) (by kernel_rfl) (by kernel_rfl) (fun _ _ _ h => h) (Or.inl ⟨by rfl, ?_⟩) (by assumption) ?_
  rotate_left
  · intro w hSw; (try dsimp only at hSw); go_simp; try with_reducible rfl
  try simp only [Act.put, List.getElem_toArray, List.getElem_cons_zero, List.getElem_cons_succ, List.setIfInBounds_toArray, List.set_cons_zero, List.set_cons_succ]
  refine wpAnyH_take (i := 21) (v := ?_) rfl (by kernel_rfl) (by kernel_rfl) (by kernel_rfl) (fun _ _ _ h => h) (Or.inl ⟨by rfl, ?_⟩) (by assumption) ?_
  rotate_left
  · intro w hSw; (try dsimp only at hSw); go_simp; try with_reducible rfl
  try simp only [Act.put, List.getElem_toArray, List.getElem_cons_zero, List.getElem_cons_succ, List.setIfInBounds_toArray, List.set_cons_zero, List.set_cons_succ]
  refine wpAnyH_take (i := 22) (v := ?_) rfl (by kernel_rfl) (by kernel_rfl) (by kernel_rfl) (fun _ _ _ h => h) (Or.inl ⟨by rfl, ?_⟩) (by assumption) ?_
  rotate_left
  · intro w hSw; (try dsimp only at hSw); go_simp; try with_reducible rfl
  try simp only [Act.put, List.getElem_toArray, List.getElem_cons_zero, List.getElem_cons_succ, List.setIfInBounds_toArray, List.set_cons_zero, List.set_cons_succ]
  refine wpAnyH_done (by kernel_rfl) ?_ _
  replace B1 := Lib.hid (up_trans B1.out hbn)
  go_wp2_with fail
  go_ret
  exact ⟨by rw [← E.out]; rfl, B1.out⟩

end Go.Proofs.Ytfnjegjieglbbaa
