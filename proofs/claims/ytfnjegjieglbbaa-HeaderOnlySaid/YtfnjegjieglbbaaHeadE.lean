/- Heads and supers as bytes, by the document's own answer: the contracts of blackboxref06's functions that put. -/
import Derived.Test.YtfnjegjieglbbaaHeadD
namespace Go.Proofs.Ytfnjegjieglbbaa
open Go.RowKit Wire Crc Head

theorem rfixed8 (n : Nat) (w : World) :
    Calls Try.prog 31 #[.int .u64 (n : Nat), .int .i64 8] w fun e w' => e = .returned (.string ⟨(fx n 8).toArray⟩) ∧ Below w.heap.size w w' := by
  have c := rfixed_any n 8 w
  rw [show fxw n 8 = fx n 8 from fxw_yes (w := 8) (by omega) (by omega)] at c
  exact c

/-- Bytes, filled up to 60, and their sum. -/
def sealL (l : List UInt8) : List UInt8 := l ++ List.replicate (60 - l.length) 0

set_option maxHeartbeats 1000000 in
set_option maxRecDepth 100000 in
theorem rsealed_any (s : ByteArray) (hs : s.size ≤ 60) (w : World) :
    Calls Try.prog 30 #[.string s] w fun e w' => e = .returned (.string ⟨(sealL s.data.toList ++ fx (sumOf (sealL s.data.toList)) 4).toArray⟩) ∧ Below w.heap.size w w' := by
  have hl := list_size s
  have HL := Lib.hid hl
  clear hl
  go_enter Try.func30, Try.ntmps30
  go_wp2_with fail
  go_loop [0] (fun v => ∃ k : Nat, s.size + k ≤ 60 ∧ v = .string ⟨(s.data.toList ++ List.replicate k 0).toArray⟩) (fun v => match v with | .string x => 60 - x.size | _ => 0)
  case atStart => exact ⟨0, by omega, by simp⟩
  case round =>
    obtain ⟨k, hk, rfl⟩ := hrel
    obtain ⟨X, hX⟩ : ∃ X : ByteArray, X = ⟨(s.data.toList ++ List.replicate k 0).toArray⟩ := ⟨_, rfl⟩
    have zX : X.size = s.size + k := by rw [hX, text_list, List.length_append, List.length_replicate, HL.out]
    rw [← hX]
    by_cases h : s.size + k < 60
    · have h1 : (X.size : Int) < 60 := by omega
      have h2 : ¬ 9223372036854775807 < X.size + 1 := by omega
      have E := Lib.hid (show X ++ (⟨#[0]⟩ : ByteArray) = ⟨(s.data.toList ++ List.replicate (k + 1) 0).toArray⟩ by
        rw [hX]
        apply ByteArray.ext
        apply Array.toList_inj.1
        show s.data.toList ++ List.replicate k 0 ++ [0] = s.data.toList ++ List.replicate (k + 1) 0
        rw [List.append_assoc, List.replicate_succ'])
      have HX := Lib.hid zX
      clear hX zX
      go_wp2_with fail
      go_round
      case rel => exact ⟨k + 1, by omega, by rw [← E.out]⟩
      case measure =>
        have := HX.out
        simp [ByteArray.size_append]
        have e : (⟨#[0]⟩ : ByteArray).size = 1 := rfl
        omega
    · have h1 : ¬ (X.size : Int) < 60 := by omega
      have e : X.data.toList = sealL s.data.toList := by
        rw [hX, sealL, HL.out, show 60 - s.size = k by omega]
      have c1 := fun w => rcrc_sum X (by unfold maxLen; omega) w
      rw [e] at c1
      have hk := sumOf_lt (sealL s.data.toList)
      obtain ⟨m, hm⟩ : ∃ m, m = sumOf (sealL s.data.toList) := ⟨_, rfl⟩
      rw [← hm] at c1 hk
      have hv : IntKind.u64.wrap (m : Int) = (m : Int) := by rw [IntKind.wrap_u64]; omega
      obtain ⟨Y, hY⟩ : ∃ Y : ByteArray, Y = ⟨(fx m 4).toArray⟩ := ⟨_, rfl⟩
      have c2 := fun w => rfixed4 m w
      rw [← hY] at c2
      have zY : Y.size = 4 := by rw [hY, text_list, fx_length]
      have E := Lib.hid (show X ++ Y = ⟨(sealL s.data.toList ++ fx (sumOf (sealL s.data.toList)) 4).toArray⟩ by
        apply ByteArray.ext
        apply Array.toList_inj.1
        rw [ByteArray.data_append, Array.toList_append, e, hY, hm])
      have C1 := Lib.hid c1
      have C2 := Lib.hid c2
      have h2 : ¬ 9223372036854775807 < X.size + Y.size := by omega
      clear c1 c2 hX hY hm e zX
      go_wp2_with fail
      refine (C1.out _).mono ?_; rintro e w5 ⟨rfl, b5⟩
      go_wp2_with fail
      refine (C2.out _).mono ?_; rintro e w6 ⟨rfl, b6⟩
      go_wp2_with fail
      go_ret
      exact ⟨by rw [← E.out]; rfl, up_trans b5 b6⟩

set_option maxHeartbeats 1000000 in
set_option maxRecDepth 100000 in
theorem rphead_any (h : Hd) (hf : h.Fits) (w : World) :
    Calls Try.prog 13 #[.agg (hdc h).toArray] w fun e w' => e = .returned (.string ⟨(putH h).toArray⟩) ∧ Below w.heap.size w w' := by
  have HX := Lib.hid (Has.make w 26 (hdc h))
  have L0 : Hid ((hdc h)[0]? = some (.int .u64 (h.id : Nat))) := Lib.hid rfl
  have L1 : Hid ((hdc h)[1]? = some (.int .u64 (h.first : Nat))) := Lib.hid rfl
  have RG : Hid (∀ W, Has W w.heap.size 26 (hdc h) → W.rangeAt w.heap.size 2 (bys h.anchor)) := Lib.hid (fun W hW => hdc_range hW)
  have hpl : (bys h.anchor).length = 32 := by rw [bys_length, hf.anchor]
  have hdi := info_digest
  have hdu := Try.underlying24
  generalize hdc h = L at *
  have B1 := Lib.hid (up_alloc (Below.refl w.heap.size w) (.cells L.toArray 26))
  obtain ⟨F1, h1⟩ : ∃ F : ByteArray, F = ⟨(fx h.id 8).toArray⟩ := ⟨_, rfl⟩
  obtain ⟨F2, h2⟩ : ∃ F : ByteArray, F = ⟨(fx h.first 8).toArray⟩ := ⟨_, rfl⟩
  obtain ⟨A, hA⟩ : ∃ A : ByteArray, A = ⟨h.anchor.toArray⟩ := ⟨_, rfl⟩
  have c1 := fun w => rfixed8 h.id w
  have c2 := fun w => rfixed8 h.first w
  have c3 := fun w => rbytes_any h.anchor hf.anchor w
  rw [← h1] at c1
  rw [← h2] at c2
  rw [← hA] at c3
  have z1 : F1.size = 8 := by rw [h1, text_list, fx_length]
  have z2 : F2.size = 8 := by rw [h2, text_list, fx_length]
  have zA : A.size = 32 := by rw [hA, text_list, hf.anchor]
  have hall : ((⟨#[72]⟩ : ByteArray) ++ F1 ++ F2 ++ A).data.toList = 72 :: (fx h.id 8 ++ (fx h.first 8 ++ h.anchor)) := by rw [h1, h2, hA]; simp
  have hsz : ((⟨#[72]⟩ : ByteArray) ++ F1 ++ F2 ++ A).size = 49 := by rw [← list_size, hall]; simp [fx_length, hf.anchor]
  have cs := fun w => rsealed_any ((⟨#[72]⟩ : ByteArray) ++ F1 ++ F2 ++ A) (by omega) w
  have hse : sealL ((⟨#[72]⟩ : ByteArray) ++ F1 ++ F2 ++ A).data.toList = frontH h := by
    rw [hall, sealL, show (72 :: (fx h.id 8 ++ (fx h.first 8 ++ h.anchor))).length = 49 by simp [fx_length, hf.anchor]]
    simp [frontH, z11]
  rw [hse] at cs
  have E : Hid ((⟨(frontH h ++ fx (sumOf (frontH h)) 4).toArray⟩ : ByteArray) = ⟨(putH h).toArray⟩) := Lib.hid rfl
  generalize (frontH h ++ fx (sumOf (frontH h)) 4) = Y at *
  have C1 := Lib.hid c1
  have C2 := Lib.hid c2
  have C3 := Lib.hid c3
  have CS := Lib.hid cs
  clear c1 c2 c3 cs hall hsz hse h1 h2 hA
  go_enter Try.func13, Try.ntmps13
  go_wp2_with fail
  generalize hw1 : w.alloc (Obj.cells _ _) = w1
  replace HX : Hid (Has w1 w.heap.size 26 L) := by rw [← hw1]; exact HX
  replace B1 : Hid (Below w.heap.size w w1) := by rw [← hw1]; exact B1
  clear hw1
  refine wp_region_held_drew (S := fun W => Has W w.heap.size 26 L) (by kernel_rfl) (HX.out.drew) (fun hHeld => ?_)
  refine wpAnyH_take (i := 0) (v := ?_) rfl (by kernel_rfl) (by kernel_rfl) (by kernel_rfl) (fun _ _ _ h => h) (Or.inl ⟨by rfl, ?_⟩) (by assumption) ?_
  rotate_left
  · intro w hSw; (try dsimp only at hSw); go_simp; try with_reducible rfl
  try simp only [Act.put, List.getElem_toArray, List.getElem_cons_zero, List.setIfInBounds_toArray, List.set_cons_zero, List.set_cons_succ]
  refine wpAnyH_take (i := 1) (v := .int .u64 (h.id : Nat)) rfl (by kernel_rfl) (by kernel_rfl) (by kernel_rfl) (fun _ _ _ h => h) (Or.inl ⟨by rfl, by intro w hSw; have c := (hSw).at L0.out; go_simp⟩) (by assumption) ?_
  try simp only [Act.put, List.getElem_toArray, List.getElem_cons_zero, List.getElem_cons_succ, List.setIfInBounds_toArray, List.set_cons_zero, List.set_cons_succ]
  refine wpAnyH_take (i := 4) (v := ?_) rfl (by kernel_rfl) (by kernel_rfl) (by kernel_rfl) (fun _ _ _ h => h) (Or.inl ⟨by rfl, ?_⟩) (by assumption) ?_
  rotate_left
  · intro w hSw; (try dsimp only at hSw); go_simp; try with_reducible rfl
  try simp only [Act.put, List.getElem_toArray, List.getElem_cons_zero, List.getElem_cons_succ, List.setIfInBounds_toArray, List.set_cons_zero, List.set_cons_succ]
  refine wpAnyH_take (i := 5) (v := .int .u64 (h.first : Nat)) rfl (by kernel_rfl) (by kernel_rfl) (by kernel_rfl) (fun _ _ _ h => h) (Or.inl ⟨by rfl, by intro w hSw; have c := (hSw).at L1.out; go_simp⟩) (by assumption) ?_
  try simp only [Act.put, List.getElem_toArray, List.getElem_cons_zero, List.getElem_cons_succ, List.setIfInBounds_toArray, List.set_cons_zero, List.set_cons_succ]
  refine wpAnyH_take (i := 8) (v := ?_) rfl (by kernel_rfl) (by kernel_rfl) (by kernel_rfl) (fun _ _ _ h => h) (Or.inl ⟨by rfl, ?_⟩) (by assumption) ?_
  rotate_left
  · intro w hSw; (try dsimp only at hSw); go_simp; try with_reducible rfl
  try simp only [Act.put, List.getElem_toArray, List.getElem_cons_zero, List.getElem_cons_succ, List.setIfInBounds_toArray, List.set_cons_zero, List.set_cons_succ]
  refine wpAnyH_take (i := 9) rfl (by kernel_rfl) (by kernel_rfl) (by kernel_rfl) (fun _ _ _ h => h) (yieldsIf_load_mid (by rfl) _ _ rfl w.heap.size 2 rfl (bys h.anchor) _ (fun W h => RG.out W h) hdu rfl (by rw [hdi, hpl])) (by assumption) ?_
  try simp only [Act.put, List.getElem_toArray, List.getElem_cons_zero, List.getElem_cons_succ, List.setIfInBounds_toArray, List.set_cons_zero, List.set_cons_succ]
  refine wpAnyH_ready (rs := [2]) (by kernel_rfl) (by simp) (AllReadyH.cons rfl (fun K hK => ?_) AllReadyH.nil)
  go_simp
  refine (C1.out _).mono ?_; rintro e wn ⟨rfl, hbn'⟩
  have hbn : Below w1.heap.size w1 wn := up_trans (Below.refl _ _).drew hbn'
  clear hbn'
  go_wp2_with fail
  refine hK.out _ _ (HX.out.up hbn) (fun hHeld => ?_)
  clear hK K
  try simp only [Act.put, List.getElem_toArray, List.getElem_cons_zero, List.getElem_cons_succ, List.setIfInBounds_toArray, List.set_cons_zero, List.set_cons_succ]
  refine wpAnyH_take (i := 3) (v := ?_) rfl (by kernel_rfl) (by kernel_rfl) (by kernel_rfl) (fun _ _ _ h => h) (Or.inl ⟨by rfl, ?_⟩) (by assumption) ?_
  rotate_left
  · intro w hSw; (try dsimp only at hSw); go_simp; try with_reducible rfl
  try simp only [Act.put, List.getElem_toArray, List.getElem_cons_zero, List.getElem_cons_succ, List.setIfInBounds_toArray, List.set_cons_zero, List.set_cons_succ]
  refine wpAnyH_ready (rs := [6]) (by kernel_rfl) (by simp) (AllReadyH.cons rfl (fun K hK => ?_) AllReadyH.nil)
  go_simp
  refine (C2.out _).mono ?_; rintro e wn ⟨rfl, hbn'⟩
  replace hbn : Below w1.heap.size w1 wn := up_trans hbn hbn'
  clear hbn'
  go_wp2_with fail
  refine hK.out _ _ (HX.out.up hbn) (fun hHeld => ?_)
  clear hK K
  try simp only [Act.put, List.getElem_toArray, List.getElem_cons_zero, List.getElem_cons_succ, List.setIfInBounds_toArray, List.set_cons_zero, List.set_cons_succ]
  refine wpAnyH_take (i := 7) (v := ?_) rfl (by kernel_rfl) (by kernel_rfl) (by kernel_rfl) (fun _ _ _ h => h) (Or.inl ⟨by rfl, ?_⟩) (by assumption) ?_
  rotate_left
  · intro w hSw; (try dsimp only at hSw); go_simp; try with_reducible rfl
  try simp only [Act.put, List.getElem_toArray, List.getElem_cons_zero, List.getElem_cons_succ, List.setIfInBounds_toArray, List.set_cons_zero, List.set_cons_succ]
  refine wpAnyH_ready (rs := [10]) (by kernel_rfl) (by simp) (AllReadyH.cons rfl (fun K hK => ?_) AllReadyH.nil)
  go_simp
  refine (C3.out _).mono ?_; rintro e wn ⟨rfl, hbn'⟩
  replace hbn : Below w1.heap.size w1 wn := up_trans hbn hbn'
  clear hbn'
  go_wp2_with fail
  refine hK.out _ _ (HX.out.up hbn) (fun hHeld => ?_)
  clear hK K
  try simp only [Act.put, List.getElem_toArray, List.getElem_cons_zero, List.getElem_cons_succ, List.setIfInBounds_toArray, List.set_cons_zero, List.set_cons_succ]
  refine wpAnyH_take (i := 11) (v := ?_) rfl (by kernel_rfl) (by kernel_rfl) (by kernel_rfl) (fun _ _ _ h => h) (Or.inl ⟨by rfl, ?_⟩) (by assumption) ?_
  rotate_left
  · intro w hSw; (try dsimp only at hSw); go_simp; try with_reducible rfl
  try simp only [Act.put, List.getElem_toArray, List.getElem_cons_zero, List.getElem_cons_succ, List.setIfInBounds_toArray, List.set_cons_zero, List.set_cons_succ]
  refine wpAnyH_ready (rs := [12]) (by kernel_rfl) (by simp) (AllReadyH.cons rfl (fun K hK => ?_) AllReadyH.nil)
  go_simp
  refine (CS.out _).mono ?_; rintro e wn ⟨rfl, hbn'⟩
  replace hbn : Below w1.heap.size w1 wn := up_trans hbn hbn'
  clear hbn'
  go_wp2_with fail
  refine hK.out _ _ (HX.out.up hbn) (fun hHeld => ?_)
  clear hK K
  try simp only [Act.put, List.getElem_toArray, List.getElem_cons_zero, List.getElem_cons_succ, List.setIfInBounds_toArray, List.set_cons_zero, List.set_cons_succ]
  refine wpAnyH_take (i := 13) (v := ?_) rfl (by kernel_rfl) (by kernel_rfl) (by kernel_rfl) (fun _ _ _ h => h) (Or.inl ⟨by rfl, ?_⟩) (by assumption) ?_
  rotate_left
  · intro w hSw; (try dsimp only at hSw); go_simp; try with_reducible rfl
  try simp only [Act.put, List.getElem_toArray, List.getElem_cons_zero, List.getElem_cons_succ, List.setIfInBounds_toArray, List.set_cons_zero, List.set_cons_succ]
  refine wpAnyH_done (by kernel_rfl) ?_ _
  go_wp2_with fail
  go_ret
  exact ⟨by rw [← E.out]; rfl, up_trans B1.out hbn⟩

set_option maxHeartbeats 2000000 in
set_option maxRecDepth 100000 in
theorem rone_any (x : Sp) (hf : x.Fits) (w : World) :
    Calls Try.prog 33 #[.agg (spc x).toArray] w fun e w' => e = .returned (.string ⟨(halfS x).toArray⟩) ∧ Below w.heap.size w w' := by
  have HX := Lib.hid (Has.make w 34 (spc x))
  have L0 : Hid ((spc x)[0]? = some (.int .u64 (x.epoch : Nat))) := Lib.hid rfl
  have L1 : Hid ((spc x)[1]? = some (.int .u64 (x.tail : Nat))) := Lib.hid rfl
  have L2 : Hid ((spc x)[2]? = some (.int .u64 (x.first : Nat))) := Lib.hid rfl
  have L3 := Lib.hid (spc_at hf).1
  have L4 := Lib.hid (spc_at hf).2.1
  have L5 := Lib.hid (spc_at hf).2.2
  have RA : Hid (∀ W, Has W w.heap.size 34 (spc x) → W.rangeAt w.heap.size 3 (bys x.anchor)) := Lib.hid (fun W hW => spc_range3 hW)
  have RD : Hid (∀ W, Has W w.heap.size 34 (spc x) → W.rangeAt w.heap.size 38 (bys x.sum)) := Lib.hid (fun W hW => spc_range38 hf hW)
  have hpa : (bys x.anchor).length = 32 := by rw [bys_length, hf.anchor]
  have hpd : (bys x.sum).length = 32 := by rw [bys_length, hf.sum]
  have hdi := info_digest
  have hdu := Try.underlying24
  generalize spc x = L at *
  have B1 := Lib.hid (up_alloc (Below.refl w.heap.size w) (.cells L.toArray 34))
  obtain ⟨F1, h1⟩ : ∃ F : ByteArray, F = ⟨(fx x.epoch 8).toArray⟩ := ⟨_, rfl⟩
  have c1 := fun w => rfixed8 x.epoch w
  rw [← h1] at c1
  have z1 : F1.size = 8 := by rw [h1, text_list, fx_length]
  have C1 := Lib.hid c1
  clear c1
  obtain ⟨F2, h2⟩ : ∃ F : ByteArray, F = ⟨(fx x.tail 8).toArray⟩ := ⟨_, rfl⟩
  have c2 := fun w => rfixed8 x.tail w
  rw [← h2] at c2
  have z2 : F2.size = 8 := by rw [h2, text_list, fx_length]
  have C2 := Lib.hid c2
  clear c2
  obtain ⟨F3, h3⟩ : ∃ F : ByteArray, F = ⟨(fx x.first 8).toArray⟩ := ⟨_, rfl⟩
  have c3 := fun w => rfixed8 x.first w
  rw [← h3] at c3
  have z3 : F3.size = 8 := by rw [h3, text_list, fx_length]
  have C3 := Lib.hid c3
  clear c3
  obtain ⟨F4, h4⟩ : ∃ F : ByteArray, F = ⟨(fx x.id 8).toArray⟩ := ⟨_, rfl⟩
  have c4 := fun w => rfixed8 x.id w
  rw [← h4] at c4
  have z4 : F4.size = 8 := by rw [h4, text_list, fx_length]
  have C4 := Lib.hid c4
  clear c4
  obtain ⟨F5, h5⟩ : ∃ F : ByteArray, F = ⟨(fx x.fin 8).toArray⟩ := ⟨_, rfl⟩
  have c5 := fun w => rfixed8 x.fin w
  rw [← h5] at c5
  have z5 : F5.size = 8 := by rw [h5, text_list, fx_length]
  have C5 := Lib.hid c5
  clear c5
  obtain ⟨F6, h6⟩ : ∃ F : ByteArray, F = ⟨(fx x.next 8).toArray⟩ := ⟨_, rfl⟩
  have c6 := fun w => rfixed8 x.next w
  rw [← h6] at c6
  have z6 : F6.size = 8 := by rw [h6, text_list, fx_length]
  have C6 := Lib.hid c6
  clear c6
  obtain ⟨A, h7⟩ : ∃ F : ByteArray, F = ⟨x.anchor.toArray⟩ := ⟨_, rfl⟩
  have c7 := fun w => rbytes_any x.anchor hf.anchor w
  rw [← h7] at c7
  have z7 : A.size = 32 := by rw [h7, text_list, hf.anchor]
  have C7 := Lib.hid c7
  clear c7
  obtain ⟨D, h8⟩ : ∃ F : ByteArray, F = ⟨x.sum.toArray⟩ := ⟨_, rfl⟩
  have c8 := fun w => rbytes_any x.sum hf.sum w
  rw [← h8] at c8
  have z8 : D.size = 32 := by rw [h8, text_list, hf.sum]
  have C8 := Lib.hid c8
  clear c8
  have E := Lib.hid (show (⟨#[83]⟩ : ByteArray) ++ F1 ++ F2 ++ F3 ++ F4 ++ F5 ++ F6 ++ A ++ D = ⟨(halfS x).toArray⟩ by
    apply ByteArray.ext
    apply Array.toList_inj.1
    rw [h1, h2, h3, h4, h5, h6, h7, h8]
    simp [halfS])
  clear h1 h2 h3 h4 h5 h6 h7 h8
  go_enter Try.func33, Try.ntmps33
  go_wp2_with fail
  generalize hw1 : w.alloc (Obj.cells _ _) = w1
  replace HX : Hid (Has w1 w.heap.size 34 L) := by rw [← hw1]; exact HX
  replace B1 : Hid (Below w.heap.size w w1) := by rw [← hw1]; exact B1
  clear hw1
  refine wp_region_held_drew (S := fun W => Has W w.heap.size 34 L) (by kernel_rfl) (HX.out.drew) (fun hHeld => ?_)
  refine wpAnyH_take (i := 0) (v := ?_) rfl (by kernel_rfl) (by kernel_rfl) (by kernel_rfl) (fun _ _ _ h => h) (Or.inl ⟨by rfl, ?_⟩) (by assumption) ?_
  rotate_left
  · intro w hSw; (try dsimp only at hSw); go_simp; try with_reducible rfl
  try simp only [Act.put, List.getElem_toArray, List.getElem_cons_zero, List.setIfInBounds_toArray, List.set_cons_zero, List.set_cons_succ]
  refine wpAnyH_take (i := 1) (v := .int .u64 (x.epoch : Nat)) rfl (by kernel_rfl) (by kernel_rfl) (by kernel_rfl) (fun _ _ _ h => h) (Or.inl ⟨by rfl, by intro w hSw; have c := (hSw).at L0.out; go_simp⟩) (by assumption) ?_
  try simp only [Act.put, List.getElem_toArray, List.getElem_cons_zero, List.getElem_cons_succ, List.setIfInBounds_toArray, List.set_cons_zero, List.set_cons_succ]
  refine wpAnyH_take (i := 4) (v := ?_) rfl (by kernel_rfl) (by kernel_rfl) (by kernel_rfl) (fun _ _ _ h => h) (Or.inl ⟨by rfl, ?_⟩) (by assumption) ?_
  rotate_left
  · intro w hSw; (try dsimp only at hSw); go_simp; try with_reducible rfl
  try simp only [Act.put, List.getElem_toArray, List.getElem_cons_zero, List.getElem_cons_succ, List.setIfInBounds_toArray, List.set_cons_zero, List.set_cons_succ]
  refine wpAnyH_take (i := 5) (v := .int .u64 (x.tail : Nat)) rfl (by kernel_rfl) (by kernel_rfl) (by kernel_rfl) (fun _ _ _ h => h) (Or.inl ⟨by rfl, by intro w hSw; have c := (hSw).at L1.out; go_simp⟩) (by assumption) ?_
  try simp only [Act.put, List.getElem_toArray, List.getElem_cons_zero, List.getElem_cons_succ, List.setIfInBounds_toArray, List.set_cons_zero, List.set_cons_succ]
  refine wpAnyH_take (i := 8) (v := ?_) rfl (by kernel_rfl) (by kernel_rfl) (by kernel_rfl) (fun _ _ _ h => h) (Or.inl ⟨by rfl, ?_⟩) (by assumption) ?_
  rotate_left
  · intro w hSw; (try dsimp only at hSw); go_simp; try with_reducible rfl
  try simp only [Act.put, List.getElem_toArray, List.getElem_cons_zero, List.getElem_cons_succ, List.setIfInBounds_toArray, List.set_cons_zero, List.set_cons_succ]
  refine wpAnyH_take (i := 9) (v := .int .u64 (x.first : Nat)) rfl (by kernel_rfl) (by kernel_rfl) (by kernel_rfl) (fun _ _ _ h => h) (Or.inl ⟨by rfl, by intro w hSw; have c := (hSw).at L2.out; go_simp⟩) (by assumption) ?_
  try simp only [Act.put, List.getElem_toArray, List.getElem_cons_zero, List.getElem_cons_succ, List.setIfInBounds_toArray, List.set_cons_zero, List.set_cons_succ]
  refine wpAnyH_ready (rs := [2]) (by kernel_rfl) (by simp) (AllReadyH.cons rfl (fun K hK => ?_) AllReadyH.nil)
  go_simp
  refine (C1.out _).mono ?_; rintro e wn ⟨rfl, hbn'⟩
  have hbn : Below w1.heap.size w1 wn := up_trans (Below.refl _ _).drew hbn'
  clear hbn'
  go_wp2_with fail
  refine hK.out _ _ (HX.out.up hbn) (fun hHeld => ?_)
  clear hK K
  try simp only [Act.put, List.getElem_toArray, List.getElem_cons_zero, List.getElem_cons_succ, List.setIfInBounds_toArray, List.set_cons_zero, List.set_cons_succ]
  refine wpAnyH_take (i := 3) (v := ?_) rfl (by kernel_rfl) (by kernel_rfl) (by kernel_rfl) (fun _ _ _ h => h) (Or.inl ⟨by rfl, ?_⟩) (by assumption) ?_
  rotate_left
  · intro w hSw; (try dsimp only at hSw); go_simp; try with_reducible rfl
  try simp only [Act.put, List.getElem_toArray, List.getElem_cons_zero, List.getElem_cons_succ, List.setIfInBounds_toArray, List.set_cons_zero, List.set_cons_succ]
  refine wpAnyH_ready (rs := [6]) (by kernel_rfl) (by simp) (AllReadyH.cons rfl (fun K hK => ?_) AllReadyH.nil)
  go_simp
  refine (C2.out _).mono ?_; rintro e wn ⟨rfl, hbn'⟩
  replace hbn : Below w1.heap.size w1 wn := up_trans hbn hbn'
  clear hbn'
  go_wp2_with fail
  refine hK.out _ _ (HX.out.up hbn) (fun hHeld => ?_)
  clear hK K
  try simp only [Act.put, List.getElem_toArray, List.getElem_cons_zero, List.getElem_cons_succ, List.setIfInBounds_toArray, List.set_cons_zero, List.set_cons_succ]
  refine wpAnyH_take (i := 7) (v := ?_) rfl (by kernel_rfl) (by kernel_rfl) (by kernel_rfl) (fun _ _ _ h => h) (Or.inl ⟨by rfl, ?_⟩) (by assumption) ?_
  rotate_left
  · intro w hSw; (try dsimp only at hSw); go_simp; try with_reducible rfl
  try simp only [Act.put, List.getElem_toArray, List.getElem_cons_zero, List.getElem_cons_succ, List.setIfInBounds_toArray, List.set_cons_zero, List.set_cons_succ]
  refine wpAnyH_ready (rs := [10]) (by kernel_rfl) (by simp) (AllReadyH.cons rfl (fun K hK => ?_) AllReadyH.nil)
  go_simp
  refine (C3.out _).mono ?_; rintro e wn ⟨rfl, hbn'⟩
  replace hbn : Below w1.heap.size w1 wn := up_trans hbn hbn'
  clear hbn'
  go_wp2_with fail
  refine hK.out _ _ (HX.out.up hbn) (fun hHeld => ?_)
  clear hK K
  try simp only [Act.put, List.getElem_toArray, List.getElem_cons_zero, List.getElem_cons_succ, List.setIfInBounds_toArray, List.set_cons_zero, List.set_cons_succ]
  refine wpAnyH_take (i := 11) (v := ?_) rfl (by kernel_rfl) (by kernel_rfl) (by kernel_rfl) (fun _ _ _ h => h) (Or.inl ⟨by rfl, ?_⟩) (by assumption) ?_
  rotate_left
  · intro w hSw; (try dsimp only at hSw); go_simp; try with_reducible rfl
  try simp only [Act.put, List.getElem_toArray, List.getElem_cons_zero, List.getElem_cons_succ, List.setIfInBounds_toArray, List.set_cons_zero, List.set_cons_succ]
  refine wpAnyH_take (i := 12) (v := ?_) rfl (by kernel_rfl) (by kernel_rfl) (by kernel_rfl) (fun _ _ _ h => h) (Or.inl ⟨by rfl, ?_⟩) (by assumption) ?_
  rotate_left
  · intro w hSw; (try dsimp only at hSw); go_simp; try with_reducible rfl
  try simp only [Act.put, List.getElem_toArray, List.getElem_cons_zero, List.getElem_cons_succ, List.setIfInBounds_toArray, List.set_cons_zero, List.set_cons_succ]
  refine wpAnyH_done (by kernel_rfl) ?_ _
  replace HX := Lib.hid (HX.out.up hbn)
  replace B1 := Lib.hid (up_trans B1.out hbn)
  clear hbn
  go_wp2_with fail
  generalize wn = w2 at *
  refine wp_region_held_drew (S := fun W => Has W w.heap.size 34 L) (by kernel_rfl) (HX.out.drew) (fun hHeld => ?_)
  refine wpAnyH_take (i := 0) (v := ?_) rfl (by kernel_rfl) (by kernel_rfl) (by kernel_rfl) (fun _ _ _ h => h) (Or.inl ⟨by rfl, ?_⟩) (by assumption) ?_
  rotate_left
  · intro w hSw; (try dsimp only at hSw); go_simp; try with_reducible rfl
  try simp only [Act.put, List.getElem_toArray, List.getElem_cons_zero, List.setIfInBounds_toArray, List.set_cons_zero, List.set_cons_succ]
  refine wpAnyH_take (i := 1) (v := ?_) rfl (by kernel_rfl) (by kernel_rfl) (by kernel_rfl) (fun _ _ _ h => h) (Or.inl ⟨by rfl, ?_⟩) (by assumption) ?_
  rotate_left
  · intro w hSw; (try dsimp only at hSw); go_simp; try with_reducible rfl
  try simp only [Act.put, List.getElem_toArray, List.getElem_cons_zero, List.getElem_cons_succ, List.setIfInBounds_toArray, List.set_cons_zero, List.set_cons_succ]
  refine wpAnyH_take (i := 2) (v := .int .u64 (x.id : Nat)) rfl (by kernel_rfl) (by kernel_rfl) (by kernel_rfl) (fun _ _ _ h => h) (Or.inl ⟨by rfl, by intro w hSw; have c := (hSw).at L3.out; go_simp⟩) (by assumption) ?_
  try simp only [Act.put, List.getElem_toArray, List.getElem_cons_zero, List.getElem_cons_succ, List.setIfInBounds_toArray, List.set_cons_zero, List.set_cons_succ]
  refine wpAnyH_take (i := 5) (v := ?_) rfl (by kernel_rfl) (by kernel_rfl) (by kernel_rfl) (fun _ _ _ h => h) (Or.inl ⟨by rfl, ?_⟩) (by assumption) ?_
  rotate_left
  · intro w hSw; (try dsimp only at hSw); go_simp; try with_reducible rfl
  try simp only [Act.put, List.getElem_toArray, List.getElem_cons_zero, List.getElem_cons_succ, List.setIfInBounds_toArray, List.set_cons_zero, List.set_cons_succ]
  refine wpAnyH_take (i := 6) (v := .int .u64 (x.fin : Nat)) rfl (by kernel_rfl) (by kernel_rfl) (by kernel_rfl) (fun _ _ _ h => h) (Or.inl ⟨by rfl, by intro w hSw; have c := (hSw).at L4.out; go_simp⟩) (by assumption) ?_
  try simp only [Act.put, List.getElem_toArray, List.getElem_cons_zero, List.getElem_cons_succ, List.setIfInBounds_toArray, List.set_cons_zero, List.set_cons_succ]
  refine wpAnyH_take (i := 9) (v := ?_) rfl (by kernel_rfl) (by kernel_rfl) (by kernel_rfl) (fun _ _ _ h => h) (Or.inl ⟨by rfl, ?_⟩) (by assumption) ?_
  rotate_left
  · intro w hSw; (try dsimp only at hSw); go_simp; try with_reducible rfl
  try simp only [Act.put, List.getElem_toArray, List.getElem_cons_zero, List.getElem_cons_succ, List.setIfInBounds_toArray, List.set_cons_zero, List.set_cons_succ]
  refine wpAnyH_take (i := 10) (v := .int .u64 (x.next : Nat)) rfl (by kernel_rfl) (by kernel_rfl) (by kernel_rfl) (fun _ _ _ h => h) (Or.inl ⟨by rfl, by intro w hSw; have c := (hSw).at L5.out; go_simp⟩) (by assumption) ?_
  try simp only [Act.put, List.getElem_toArray, List.getElem_cons_zero, List.getElem_cons_succ, List.setIfInBounds_toArray, List.set_cons_zero, List.set_cons_succ]
  refine wpAnyH_ready (rs := [3]) (by kernel_rfl) (by simp) (AllReadyH.cons rfl (fun K hK => ?_) AllReadyH.nil)
  go_simp
  refine (C4.out _).mono ?_; rintro e wn ⟨rfl, hbn'⟩
  have hbn : Below w2.heap.size w2 wn := up_trans (Below.refl _ _).drew hbn'
  clear hbn'
  go_wp2_with fail
  refine hK.out _ _ (HX.out.up hbn) (fun hHeld => ?_)
  clear hK K
  try simp only [Act.put, List.getElem_toArray, List.getElem_cons_zero, List.getElem_cons_succ, List.setIfInBounds_toArray, List.set_cons_zero, List.set_cons_succ]
  refine wpAnyH_take (i := 4) (v := ?_) rfl (by kernel_rfl) (by kernel_rfl) (by kernel_rfl) (fun _ _ _ h => h) (Or.inl ⟨by rfl, ?_⟩) (by assumption) ?_
  rotate_left
  · intro w hSw; (try dsimp only at hSw); go_simp; try with_reducible rfl
  try simp only [Act.put, List.getElem_toArray, List.getElem_cons_zero, List.getElem_cons_succ, List.setIfInBounds_toArray, List.set_cons_zero, List.set_cons_succ]
  refine wpAnyH_ready (rs := [7]) (by kernel_rfl) (by simp) (AllReadyH.cons rfl (fun K hK => ?_) AllReadyH.nil)
  go_simp
  refine (C5.out _).mono ?_; rintro e wn ⟨rfl, hbn'⟩
  replace hbn : Below w2.heap.size w2 wn := up_trans hbn hbn'
  clear hbn'
  go_wp2_with fail
  refine hK.out _ _ (HX.out.up hbn) (fun hHeld => ?_)
  clear hK K
  try simp only [Act.put, List.getElem_toArray, List.getElem_cons_zero, List.getElem_cons_succ, List.setIfInBounds_toArray, List.set_cons_zero, List.set_cons_succ]
  refine wpAnyH_take (i := 8) (v := ?_) rfl (by kernel_rfl) (by kernel_rfl) (by kernel_rfl) (fun _ _ _ h => h) (Or.inl ⟨by rfl, ?_⟩) (by assumption) ?_
  rotate_left
  · intro w hSw; (try dsimp only at hSw); go_simp; try with_reducible rfl
  try simp only [Act.put, List.getElem_toArray, List.getElem_cons_zero, List.getElem_cons_succ, List.setIfInBounds_toArray, List.set_cons_zero, List.set_cons_succ]
  refine wpAnyH_ready (rs := [11]) (by kernel_rfl) (by simp) (AllReadyH.cons rfl (fun K hK => ?_) AllReadyH.nil)
  go_simp
  refine (C6.out _).mono ?_; rintro e wn ⟨rfl, hbn'⟩
  replace hbn : Below w2.heap.size w2 wn := up_trans hbn hbn'
  clear hbn'
  go_wp2_with fail
  refine hK.out _ _ (HX.out.up hbn) (fun hHeld => ?_)
  clear hK K
  try simp only [Act.put, List.getElem_toArray, List.getElem_cons_zero, List.getElem_cons_succ, List.setIfInBounds_toArray, List.set_cons_zero, List.set_cons_succ]
  refine wpAnyH_take (i := 12) (v := ?_) rfl (by kernel_rfl) (by kernel_rfl) (by kernel_rfl) (fun _ _ _ h => h) (Or.inl ⟨by rfl, ?_⟩) (by assumption) ?_
  rotate_left
  · intro w hSw; (try dsimp only at hSw); go_simp; try with_reducible rfl
  try simp only [Act.put, List.getElem_toArray, List.getElem_cons_zero, List.getElem_cons_succ, List.setIfInBounds_toArray, List.set_cons_zero, List.set_cons_succ]
  refine wpAnyH_take (i := 13) (v := ?_) rfl (by kernel_rfl) (by kernel_rfl) (by kernel_rfl) (fun _ _ _ h => h) (Or.inl ⟨by rfl, ?_⟩) (by assumption) ?_
  rotate_left
  · intro w hSw; (try dsimp only at hSw); go_simp; try with_reducible rfl
  try simp only [Act.put, List.getElem_toArray, List.getElem_cons_zero, List.getElem_cons_succ, List.setIfInBounds_toArray, List.set_cons_zero, List.set_cons_succ]
  refine wpAnyH_done (by kernel_rfl) ?_ _
  replace HX := Lib.hid (HX.out.up hbn)
  replace B1 := Lib.hid (up_trans B1.out hbn)
  clear hbn
  go_wp2_with fail
  generalize wn = w3 at *
  refine wp_region_held_drew (S := fun W => Has W w.heap.size 34 L) (by kernel_rfl) (HX.out.drew) (fun hHeld => ?_)
  refine wpAnyH_take (i := 0) (v := ?_) rfl (by kernel_rfl) (by kernel_rfl) (by kernel_rfl) (fun _ _ _ h => h) (Or.inl ⟨by rfl, ?_⟩) (by assumption) ?_
  rotate_left
  · intro w hSw; (try dsimp only at hSw); go_simp; try with_reducible rfl
  try simp only [Act.put, List.getElem_toArray, List.getElem_cons_zero, List.setIfInBounds_toArray, List.set_cons_zero, List.set_cons_succ]
  refine wpAnyH_take (i := 1) (v := ?_) rfl (by kernel_rfl) (by kernel_rfl) (by kernel_rfl) (fun _ _ _ h => h) (Or.inl ⟨by rfl, ?_⟩) (by assumption) ?_
  rotate_left
  · intro w hSw; (try dsimp only at hSw); go_simp; try with_reducible rfl
  try simp only [Act.put, List.getElem_toArray, List.getElem_cons_zero, List.getElem_cons_succ, List.setIfInBounds_toArray, List.set_cons_zero, List.set_cons_succ]
  refine wpAnyH_take (i := 2) rfl (by kernel_rfl) (by kernel_rfl) (by kernel_rfl) (fun _ _ _ h => h) (yieldsIf_load_mid (by rfl) _ _ rfl w.heap.size 3 rfl (bys x.anchor) _ (fun W h => RA.out W h) hdu rfl (by rw [hdi, hpa])) (by assumption) ?_
  try simp only [Act.put, List.getElem_toArray, List.getElem_cons_zero, List.getElem_cons_succ, List.setIfInBounds_toArray, List.set_cons_zero, List.set_cons_succ]
  refine wpAnyH_take (i := 5) (v := ?_) rfl (by kernel_rfl) (by kernel_rfl) (by kernel_rfl) (fun _ _ _ h => h) (Or.inl ⟨by rfl, ?_⟩) (by assumption) ?_
  rotate_left
  · intro w hSw; (try dsimp only at hSw); go_simp; try with_reducible rfl
  try simp only [Act.put, List.getElem_toArray, List.getElem_cons_zero, List.getElem_cons_succ, List.setIfInBounds_toArray, List.set_cons_zero, List.set_cons_succ]
  refine wpAnyH_take (i := 6) rfl (by kernel_rfl) (by kernel_rfl) (by kernel_rfl) (fun _ _ _ h => h) (yieldsIf_load_mid (by rfl) _ _ rfl w.heap.size 38 rfl (bys x.sum) _ (fun W h => RD.out W h) hdu rfl (by rw [hdi, hpd])) (by assumption) ?_
  try simp only [Act.put, List.getElem_toArray, List.getElem_cons_zero, List.getElem_cons_succ, List.setIfInBounds_toArray, List.set_cons_zero, List.set_cons_succ]
  refine wpAnyH_ready (rs := [3]) (by kernel_rfl) (by simp) (AllReadyH.cons rfl (fun K hK => ?_) AllReadyH.nil)
  go_simp
  refine (C7.out _).mono ?_; rintro e wn ⟨rfl, hbn'⟩
  have hbn : Below w3.heap.size w3 wn := up_trans (Below.refl _ _).drew hbn'
  clear hbn'
  go_wp2_with fail
  refine hK.out _ _ (HX.out.up hbn) (fun hHeld => ?_)
  clear hK K
  try simp only [Act.put, List.getElem_toArray, List.getElem_cons_zero, List.getElem_cons_succ, List.setIfInBounds_toArray, List.set_cons_zero, List.set_cons_succ]
  refine wpAnyH_take (i := 4) (v := ?_) rfl (by kernel_rfl) (by kernel_rfl) (by kernel_rfl) (fun _ _ _ h => h) (Or.inl ⟨by rfl, ?_⟩) (by assumption) ?_
  rotate_left
  · intro w hSw; (try dsimp only at hSw); go_simp; try with_reducible rfl
  try simp only [Act.put, List.getElem_toArray, List.getElem_cons_zero, List.getElem_cons_succ, List.setIfInBounds_toArray, List.set_cons_zero, List.set_cons_succ]
  refine wpAnyH_ready (rs := [7]) (by kernel_rfl) (by simp) (AllReadyH.cons rfl (fun K hK => ?_) AllReadyH.nil)
  go_simp
  refine (C8.out _).mono ?_; rintro e wn ⟨rfl, hbn'⟩
  replace hbn : Below w3.heap.size w3 wn := up_trans hbn hbn'
  clear hbn'
  go_wp2_with fail
  refine hK.out _ _ (HX.out.up hbn) (fun hHeld => ?_)
  clear hK K
  try simp only [Act.put, List.getElem_toArray, List.getElem_cons_zero, List.getElem_cons_succ, List.setIfInBounds_toArray, List.set_cons_zero, List.set_cons_succ]
  refine wpAnyH_take (i := 8) (v := ?_) rfl (by kernel_rfl) (by kernel_rfl) (by kernel_rfl) (fun _ _ _ h => h) (Or.inl ⟨by rfl, ?_⟩) (by assumption) ?_
  rotate_left
  · intro w hSw; (try dsimp only at hSw); go_simp; try with_reducible rfl
  try simp only [Act.put, List.getElem_toArray, List.getElem_cons_zero, List.getElem_cons_succ, List.setIfInBounds_toArray, List.set_cons_zero, List.set_cons_succ]
  refine wpAnyH_take (i := 9) (v := ?_) rfl (by kernel_rfl) (by kernel_rfl) (by kernel_rfl) (fun _ _ _ h => h) (Or.inl ⟨by rfl, ?_⟩) (by assumption) ?_
  rotate_left
  · intro w hSw; (try dsimp only at hSw); go_simp; try with_reducible rfl
  try simp only [Act.put, List.getElem_toArray, List.getElem_cons_zero, List.getElem_cons_succ, List.setIfInBounds_toArray, List.set_cons_zero, List.set_cons_succ]
  refine wpAnyH_done (by kernel_rfl) ?_ _
  go_wp2_with fail
  go_ret
  exact ⟨by rw [← E.out]; rfl, up_trans B1.out hbn⟩



set_option maxHeartbeats 1000000 in
set_option maxRecDepth 100000 in
theorem rpsuper_any (x : Sp) (hf : x.Fits) (w : World) :
    Calls Try.prog 17 #[.agg (spc x).toArray] w fun e w' => e = .returned (.string ⟨(putS x).toArray⟩) ∧ Below w.heap.size w w' := by
  have HX := Lib.hid (Has.make w 34 (spc x))
  have hlen := spc_length hf
  have hi := info_super
  have hu := Try.underlying34
  have co := fun w => rone_any x hf w
  generalize spc x = L at *
  have B1 := Lib.hid (up_alloc (Below.refl w.heap.size w) (.cells L.toArray 34))
  obtain ⟨Y, hY⟩ : ∃ F : ByteArray, F = ⟨(halfS x).toArray⟩ := ⟨_, rfl⟩
  rw [← hY] at co
  have zY : Y.size = 113 := by rw [hY, text_list, halfS_len hf]
  have E := Lib.hid (show Y ++ Y = ⟨(putS x).toArray⟩ by
    apply ByteArray.ext
    apply Array.toList_inj.1
    rw [hY]
    simp [putS])
  have CO := Lib.hid co
  clear co hY
  go_enter Try.func17, Try.ntmps17
  go_wp2_with fail
  generalize hw1 : w.alloc (Obj.cells _ _) = w1
  replace HX : Hid (Has w1 w.heap.size 34 L) := by rw [← hw1]; exact HX
  replace B1 : Hid (Below w.heap.size w w1) := by rw [← hw1]; exact B1
  clear hw1
  refine wp_region_held_drew (S := fun W => Has W w.heap.size 34 L) (by kernel_rfl) (HX.out.drew) (fun hHeld => ?_)
  refine wpAnyH_take (i := 0) rfl (by kernel_rfl) (by kernel_rfl) (by kernel_rfl) (fun _ _ _ h => h) (yieldsIf_load_mid (by rfl) _ _ rfl w.heap.size 0 rfl L _ (fun W h => Has.whole h) hu rfl (by rw [hi, hlen])) (by assumption) ?_
  try simp only [Act.put, List.getElem_toArray, List.getElem_cons_zero, List.setIfInBounds_toArray, List.set_cons_zero, List.set_cons_succ]
  refine wpAnyH_take (i := 2) rfl (by kernel_rfl) (by kernel_rfl) (by kernel_rfl) (fun _ _ _ h => h) (yieldsIf_load_mid (by rfl) _ _ rfl w.heap.size 0 rfl L _ (fun W h => Has.whole h) hu rfl (by rw [hi, hlen])) (by assumption) ?_
  try simp only [Act.put, List.getElem_toArray, List.getElem_cons_zero, List.getElem_cons_succ, List.setIfInBounds_toArray, List.set_cons_zero, List.set_cons_succ]
  refine wpAnyH_ready (rs := [1]) (by kernel_rfl) (by simp) (AllReadyH.cons rfl (fun K hK => ?_) AllReadyH.nil)
  go_simp
  refine (CO.out _).mono ?_; rintro e wn ⟨rfl, hbn'⟩
  have hbn : Below w1.heap.size w1 wn := up_trans (Below.refl _ _).drew hbn'
  clear hbn'
  go_wp2_with fail
  refine hK.out _ _ (HX.out.up hbn) (fun hHeld => ?_)
  clear hK K
  try simp only [Act.put, List.getElem_toArray, List.getElem_cons_zero, List.getElem_cons_succ, List.setIfInBounds_toArray, List.set_cons_zero, List.set_cons_succ]
  refine wpAnyH_ready (rs := [3]) (by kernel_rfl) (by simp) (AllReadyH.cons rfl (fun K hK => ?_) AllReadyH.nil)
  go_simp
  refine (CO.out _).mono ?_; rintro e wn ⟨rfl, hbn'⟩
  replace hbn : Below w1.heap.size w1 wn := up_trans hbn hbn'
  clear hbn'
  go_wp2_with fail
  refine hK.out _ _ (HX.out.up hbn) (fun hHeld => ?_)
  clear hK K
  try simp only [Act.put, List.getElem_toArray, List.getElem_cons_zero, List.getElem_cons_succ, List.setIfInBounds_toArray, List.set_cons_zero, List.set_cons_succ]
  refine wpAnyH_take (i := 4) (v := ?_) rfl (by kernel_rfl) (by kernel_rfl) (by kernel_rfl) (fun _ _ _ h => h) (Or.inl ⟨by rfl, ?_⟩) (by assumption) ?_
  rotate_left
  · intro w hSw; (try dsimp only at hSw); go_simp; try with_reducible rfl
  try simp only [Act.put, List.getElem_toArray, List.getElem_cons_zero, List.getElem_cons_succ, List.setIfInBounds_toArray, List.set_cons_zero, List.set_cons_succ]
  refine wpAnyH_take (i := 5) (v := ?_) rfl (by kernel_rfl) (by kernel_rfl) (by kernel_rfl) (fun _ _ _ h => h) (Or.inl ⟨by rfl, ?_⟩) (by assumption) ?_
  rotate_left
  · intro w hSw; (try dsimp only at hSw); go_simp; try with_reducible rfl
  try simp only [Act.put, List.getElem_toArray, List.getElem_cons_zero, List.getElem_cons_succ, List.setIfInBounds_toArray, List.set_cons_zero, List.set_cons_succ]
  refine wpAnyH_done (by kernel_rfl) ?_ _
  go_wp2_with fail
  go_ret
  exact ⟨by rw [← E.out]; rfl, up_trans B1.out hbn⟩

end Go.Proofs.Ytfnjegjieglbbaa
