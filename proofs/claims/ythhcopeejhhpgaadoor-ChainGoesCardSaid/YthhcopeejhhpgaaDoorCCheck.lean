/- chain.Check. -/
import Derived.Test.YthhcopeejhhpgaaDoorCFollow
namespace Go.Proofs.YthhcopeejhhpgaaDoor
open Go.RowKit Evt Bat Chn

/-- Where a check stands. -/
structure Ckp (w wr : World) (c : Cs) (v : Value) : Prop where
  own : OwnE w.heap.size v c.acc wr
  sum : Has wr (w.heap.size + 1 + 1) 23 (bys c.a)
  res : Has wr (w.heap.size + 1) 23 (bys z32)
  below : Below w.heap.size w wr
theorem Ckp.up {w wr w' : World} {c : Cs} {v : Value} (h : Ckp w wr c v) (b : Below wr.heap.size wr w') : Ckp w w' c v :=
  ⟨h.own.up b, h.sum.up b, h.res.up b, up_trans h.below b⟩
/-- .. behind an append. -/
theorem Ckp.push {w wr w' : World} {c : Cs} {v v' : Value} {evs : List Ev} (h : Ckp w wr c v) (ho : OwnE w.heap.size v' (c.acc ++ evs) w') (s : Save (Typ w.heap.size 47 wr) wr w') : Ckp w w' ⟨c.acc ++ evs, c.a, c.f⟩ v' :=
  ⟨ho, s.has h.sum (Typ.ne h.sum (by decide)), s.has h.res (Typ.ne h.res (by decide)), h.below.trans (s.below (fun _ hk => hk.1) h.below.size)⟩
/-- .. behind the store of a sum. -/
theorem Ckp.summed {w wr w' : World} {c : Cs} {v : Value} {x : List UInt8} (h : Ckp w wr c v) (hx : Has w' (w.heap.size + 1 + 1) 23 (bys x)) (s : Save (fun k => k = w.heap.size + 1 + 1) wr w') : Ckp w w' ⟨c.acc, x, c.f⟩ v :=
  ⟨h.own.save s (fun k hk e => Typ.ne h.sum (by decide) (e ▸ hk)), hx, s.has h.res (fun e => by omega), h.below.trans (s.below (fun k e => by omega) h.below.size)⟩
theorem Ckp.num {w wr : World} {c : List Ev} {x : List UInt8} {f f' : Nat} {v : Value} (h : Ckp w wr ⟨c, x, f⟩ v) : Ckp w wr ⟨c, x, f'⟩ v := ⟨h.own, h.sum, h.res, h.below⟩

theorem last_next (first n : Nat) : IntKind.u64.wrap (((lastB first n : Nat) : Int) + 1) = (((first + n) % 18446744073709551616 : Nat) : Int) := by
  simp only [IntKind.wrap_u64]; unfold lastB; omega

theorem er_bare (st : Cs) (s : List UInt8) : er ⟨[], st.a, st.f⟩ s = er st s := rfl

set_option maxHeartbeats 4000000 in
set_option maxRecDepth 100000 in
theorem check_any (a : List UInt8) (ha : a.length = 32) (f : Nat) (hf : f < 18446744073709551616) (A : Option Addr) (l : List (List UInt8)) (n c : Nat) (hn : n = l.length) (hl : l.length ≤ 1000) (hls : ∀ s ∈ l, s.length ≤ 100000) (w : World) (hTab : Tab w) (hA : StSl w A l) :
    Calls Tryd.prog 14 #[.agg (bys a).toArray, .int .u64 (f : Nat), .slice A n c] w (ChkPost w (chk hsh a f l)) := by
  have hi := info_batch
  have hu := Tryd.underlying27
  have hdi := info_digest
  have hdu := Tryd.underlying23
  have hz : zbt.length = 34 := btc_length _ _ (by simp)
  have hzo : ∀ v ∈ zbt, v.oneCell' = true := btc_one 0 none 0 0 _
  have hzl : (bys z32).length = 32 := by rw [bys_length]; rfl
  have hal : (bys a).length = 32 := by rw [bys_length, ha]
  have hao := bys_one a
  have HX0 := Lib.hid ((Has.make w 23 (bys a)).alloc (.cells (bys z32).toArray 23))
  have HR0 := Lib.hid ((Has.make2 w (.cells (bys a).toArray 23) 23 (bys z32)).alloc (.cells (bys z32).toArray 23))
  have HS0 := Lib.hid (Has.make3 w (.cells (bys a).toArray 23) (.cells (bys z32).toArray 23) 23 (bys z32))
  have B0 := Lib.hid (up_alloc (up_alloc (up_alloc (Below.refl w.heap.size w) (.cells (bys a).toArray 23)) (.cells (bys z32).toArray 23)) (.cells (bys z32).toArray 23))
  have HA := Lib.hid hA
  have HN := Lib.hid hn
  have HLS := Lib.hid hls
  have HF := Lib.hid hf
  have HAL := Lib.hid ha
  have HT := Lib.hid (fun W (hb : Below w.heap.size w W) => tab_up hTab hb)
  have nb : n ≤ 1000 := by omega
  clear hA hn hls hf ha hl hTab
  go_enter Tryd.func14, Tryd.ntmps14
  go_wp2_with (first | (refine wpList_load_row rfl 23 _ rfl w.heap.size (by rfl) _ _ _ _ HX0.out hdu rfl (by rw [hdi, List.size_toArray, hal]) ?_) | (refine wpList_store_save rfl 23 _ _ rfl (w.heap.size + 1 + 1) 23 (bys z32) (bys a) (by rfl) (by rfl) HS0.out (by rw [hal, hzl]) (by rw [hdi, hal]) hao ?_; intro w1 hF1 s1; have CK0 : Hid (Ckp w w1 ⟨[], a, f⟩ (.slice none 0 0)) := Lib.hid ⟨OwnE.nil _ _, hF1, s1.has HR0.out (fun e => by omega), B0.out.trans (s1.below (fun k e => by omega) B0.out.size)⟩; clear hF1 s1))
  clear HX0 HR0 HS0 B0 hao hal
  go_loopw [9, 11, 20] (fun v9 v11 i wr => ∃ (k : Nat) (st : Cs), k ≤ n ∧ v11 = .int .u64 (st.f : Nat) ∧ i = .int .i64 (k : Nat) ∧ Hid (run hsh (l.take k) ⟨[], a, f⟩ = (st, 0)) ∧ Hid (Ckp w wr st v9)) (fun _ _ i _ => n - (intOf i).toNat)
  case atStart => exact ⟨0, ⟨[], a, f⟩, Nat.zero_le _, rfl, rfl, Lib.hid (by rw [List.take_zero]; rfl), CK0⟩
  case round =>
    obtain ⟨k, st, hk, rfl, rfl, HR, CK⟩ := hrel
    clear CK0
    have HSL : Hid (st.a.length = 32) := Lib.hid (by
      have := run_len32 (H := hsh) hsh_len (l.take k) (c := ⟨[], a, f⟩) HAL.out
      rwa [HR.out] at this)
    have hal : (bys st.a).length = 32 := by rw [bys_length, HSL.out]
    have hso := bys_one st.a
    by_cases hlt : k < n
    · have hkl : k < l.length := by rw [← HN.out]; exact hlt
      obtain ⟨g, o, hAe, hc⟩ := (HA.out.up CK.out.below).out (by omega)
      subst hAe
      have cc := hc k l[k] (List.getElem?_eq_getElem hkl)
      have S1 := HLS.out _ (List.getElem_mem hkl)
      have HH := Lib.hid (fun x hx he => chk_halt (H := hsh) hkl HR.out (x := x) hx he)
      have HO1 := Lib.hid (fun he => run_on (H := hsh) hkl HR.out he)
      have klt : (k : Int) < (n : Int) := by omega
      have fo := fun W => follower_any st.a HSL.out st.f l[k] S1 W
      unfold FolPost at fo
      simp only [er_bare] at fo
      have hfit := gotB_fits l[k]
      clear hc
      generalize hgb : gotB l[k] = gb at *
      have HGB := Lib.hid hgb
      clear hgb
      generalize l[k] = s at *
      have HX := Lib.hid (fun W h => hof_any s S1 W h)
      obtain ⟨⟨first, evs, prev⟩, used, err⟩ := gb
      have hprev := hfit.prev
      simp only at hprev fo
      have HPV := Lib.hid hprev
      clear hprev hfit S1
      by_cases e1 : er st s = 0
      · simp only [e1, if_true, forall_const] at fo
        have FO := Lib.hid fo
        have HO1' := Lib.hid (HO1.out e1)
        clear fo e1 HH
        go_wp2_with (refine wpList_load_row rfl 23 _ rfl (w.heap.size + 1 + 1) (by rfl) _ _ _ _ CK.out.sum hdu rfl (by rw [hdi, List.size_toArray, hal]) ?_)
        refine (FO.out _).mono ?_; rintro e w2 ⟨A2, n2, cap2, rfl, hO, b2⟩
        obtain ⟨A3, n3, cap3, hv, hn2, _, _, hca⟩ := hO.opened2
        injection hv with v1 v2 v3
        subst v1 v2 v3
        have HCA := Lib.hid hca
        have HO2 := Lib.hid hO
        have HN2 := Lib.hid hn2
        have CK2 := Lib.hid (CK.out.up b2)
        clear hO b2 hn2 hca FO
        have hL := btc_length first (.slice A2 n2 cap2) HPV.out
        have hoL := btc_one first A2 n2 cap2 prev
        have hz2 := CK2.out.sum.lt
        have HL1 := Lib.hid (show (btc first (.slice A2 n2 cap2) prev)[1]? = some (.slice A2 n2 cap2) from rfl)
        have hnx : Hid (nx hsh st s = ⟨st.acc ++ evs, hsh s, (first + n2) % 18446744073709551616⟩) := Lib.hid (by unfold nx; rw [HGB.out]; simp only [HN2.out])
        have HBD := Lib.hid (show st.acc.length + n2 ≤ 1000000 by
          obtain ⟨j1, _, j2, _, j3⟩ := run_num (H := hsh) (l := l.take k) (c := ⟨[], a, f⟩) HF.out (by rw [HR.out])
          obtain ⟨j4, _, j5, _, j6⟩ := run_num (H := hsh) (l := l.take (k + 1)) (c := ⟨[], a, f⟩) HF.out (by rw [HO1'.out])
          rw [HO1'.out, hnx.out] at j5
          simp only [List.length_append, List.length_nil, Nat.zero_add] at j5
          rw [List.length_take] at j6
          have := HN2.out
          omega)
        have LST := Lib.hid (fun W => blast_any first n2 (by have := HBD.out; omega) A2 cap2 prev W)
        have hln := last_next first n2
        generalize btc first (.slice A2 n2 cap2) prev = L at *
        go_wp2_with (first | (refine wpList_store_save rfl 27 _ _ rfl w2.heap.size 27 zbt L (by rfl) (by rfl) (Has.make w2 _ zbt) (by rw [hL, hz]) (by rw [hi, hL]) hoL ?_; intro w3 hF3 s3; have HX3 := Lib.hid hF3; have CK3 := Lib.hid (CK2.out.up (made_up2 rfl s3)); have HO3 := Lib.hid (HO2.out.up (made_up2 rfl s3)); have x1 := HX3.out.at HL1.out; clear hF3 s3) | (refine wpList_pushEs rfl (.tmp 35) (.tmp 37) rfl w.heap.size _ st.acc rfl CK3.out.own A2 n2 cap2 evs rfl HN2.out.symm HO3.out.slice.2.2 HCA.out HBD.out CK3.out.below.size ?_; intro v' w4 ho4 s4; have HX4 := Lib.hid (s4.has HX3.out (Typ.ne HX3.out (by decide))); have CK4 := Lib.hid (CK3.out.push ho4 s4); clear ho4 s4))
        have hhl : (bys (hsh s)).length = 32 := by rw [bys_length, hsh_len]
        have hho := bys_one (hsh s)
        have hX4 := HX4.out.lt
        refine wp_region_held_drew (S := fun W => W.rangeAt w2.heap.size 0 L) (by kernel_rfl) (HX4.out.drew.whole) (fun hHeld => ?_)
        refine wpAnyH_take (i := 0) (v := ?_) rfl (by kernel_rfl) (by kernel_rfl) (by kernel_rfl) (fun _ _ _ h => h) (Or.inl ⟨by rfl, ?_⟩) (by assumption) ?_
        rotate_left
        · intro w hSw; (try dsimp only at hSw); go_simp; try with_reducible rfl
        try simp only [Act.put, List.getElem_toArray, List.getElem_cons_zero, List.setIfInBounds_toArray, List.set_cons_zero, List.set_cons_succ]
        refine wpAnyH_take (i := 2) rfl (by kernel_rfl) (by kernel_rfl) (by kernel_rfl) (fun _ _ _ h => h) (yieldsIf_load_mid (by rfl) _ _ rfl w2.heap.size 0 rfl L _ (fun W h => h) hu rfl (by rw [hi, hL])) (by assumption) ?_
        try simp only [Act.put, List.getElem_toArray, List.getElem_cons_zero, List.getElem_cons_succ, List.setIfInBounds_toArray, List.set_cons_zero, List.set_cons_succ]
        refine wpAnyH_ready (rs := [1]) (by kernel_rfl) (by simp) (AllReadyH.cons rfl (fun K hK => ?_) AllReadyH.nil)
        go_simp
        refine (HX.out _ (HT.out _ (up_trans CK4.out.below (Below.refl _ _).drew))).mono ?_; rintro e wn ⟨rfl, hbn'⟩
        have hbn : Below w4.heap.size w4 wn := up_trans (Below.refl _ _).drew hbn'
        clear hbn'
        go_wp2_with fail
        refine hK.out _ _ ((HX4.out.up hbn).whole) (fun hHeld => ?_)
        clear hK K
        try simp only [Act.put, List.getElem_toArray, List.getElem_cons_zero, List.getElem_cons_succ, List.setIfInBounds_toArray, List.set_cons_zero, List.set_cons_succ]
        refine wpAnyH_ready (rs := [3]) (by kernel_rfl) (by simp) (AllReadyH.cons rfl (fun K hK => ?_) AllReadyH.nil)
        go_simp
        refine (LST.out _).mono ?_; rintro e wn ⟨rfl, hbn'⟩
        replace hbn : Below w4.heap.size w4 wn := up_trans hbn hbn'
        clear hbn'
        go_wp2_with fail
        refine hK.out _ _ ((HX4.out.up hbn).whole) (fun hHeld => ?_)
        clear hK K
        try simp only [Act.put, List.getElem_toArray, List.getElem_cons_zero, List.getElem_cons_succ, List.setIfInBounds_toArray, List.set_cons_zero, List.set_cons_succ]
        refine wpAnyH_take (i := 4) (v := ?_) rfl (by kernel_rfl) (by kernel_rfl) (by kernel_rfl) (fun _ _ _ h => h) (Or.inl ⟨by rfl, ?_⟩) (by assumption) ?_
        rotate_left
        · intro w hSw; (try dsimp only at hSw); go_simp; try with_reducible rfl
        try simp only [Act.put, List.getElem_toArray, List.getElem_cons_zero, List.getElem_cons_succ, List.setIfInBounds_toArray, List.set_cons_zero, List.set_cons_succ]
        refine wpAnyH_ready (rs := [5]) (by kernel_rfl) (by simp) (AllReadyH.cons rfl (fun K hK => ?_) AllReadyH.nil)
        refine wp_store_save 23 _ _ rfl (w.heap.size + 1 + 1) 23 (bys st.a) (bys (hsh s)) (by rfl) (by rfl) (CK4.out.up hbn).sum (by rw [hhl, hal]) (by rw [hdi, hhl]) hho ?_; intro w6 hF6 s6; have CK6 := Lib.hid ((CK4.out.up hbn).summed hF6 s6); have HS6 := Lib.hid s6; clear hF6 s6
        refine hK.out _ _ ((HS6.out.has (HX4.out.up hbn) (fun e => by omega)).whole) (fun hHeld => ?_)
        clear hK K
        try simp only [Act.put, List.getElem_toArray, List.getElem_cons_zero, List.getElem_cons_succ]
        refine wpAnyH_take (i := 6) (v := ?_) rfl (by kernel_rfl) (by kernel_rfl) (by kernel_rfl) (fun _ _ _ h => h) (Or.inl ⟨by rfl, ?_⟩) (by assumption) ?_
        rotate_left
        · intro w hSw; (try dsimp only at hSw); go_simp; try with_reducible rfl
        try simp only [Act.put, List.getElem_toArray, List.getElem_cons_zero, List.getElem_cons_succ, List.setIfInBounds_toArray, List.set_cons_zero, List.set_cons_succ]
        refine wpAnyH_done (by kernel_rfl) ?_ _
        skip
        go_wp2_with fail
        go_roundw
        case rel => exact ⟨k + 1, nx hsh st s, by omega, by rw [hnx.out]; simp, by go_num, HO1', Lib.hid (by rw [hnx.out]; exact CK6.out.num)⟩
        case measure => simp [intOf]; omega
      · have HC := Lib.hid (HH.out (er st s) rfl e1)
        simp only [e1, if_false, false_implies, true_and] at fo
        generalize er st s = x at *
        have FO := Lib.hid fo
        have e5 : ((x : Int) == 0) = false := by simp; omega
        have e6 : ((x : Int) != 0) = true := by simp; omega
        clear fo e1 HH HO1
        go_wp2_with (refine wpList_load_row rfl 23 _ rfl (w.heap.size + 1 + 1) (by rfl) _ _ _ _ CK.out.sum hdu rfl (by rw [hdi, List.size_toArray, hal]) ?_)
        refine (FO.out _).mono ?_; rintro e w2 ⟨A2, n2, cap2, rfl, b2⟩
        have CK2 := Lib.hid (CK.out.up b2)
        clear b2
        go_wp2_with (first | (refine wpList_store_save rfl 27 _ _ rfl w2.heap.size 27 zbt zbt (by rfl) (by rfl) (Has.make w2 _ zbt) rfl (by rw [hi, hz]) hzo ?_; intro w3 hF3 s3; have CK3 := Lib.hid (CK2.out.up (made_up2 rfl s3)); clear hF3 s3) | (refine wpList_store_save rfl 23 _ _ rfl (w.heap.size + 1) 23 (bys z32) (bys z32) (by rfl) (by rfl) CK3.out.res rfl (by rw [hdi, hzl]) (bys_one _) ?_; intro w4 hF4 s4; have HF4 := Lib.hid hF4; have HS4 := Lib.hid s4; clear hF4 s4))
        refine bodyPost_ret_by (results_chk Tryd.results14 _ _ (w.heap.size + 1) z32 (.slice none 0 0) (.int .i64 (x : Nat)) (by rfl) HF4.out (by rfl) (by rfl) (by rfl)) rfl ?_
        rw [HC.out]
        exact ⟨_, rfl, OwnE.nil _ _, CK3.out.below.trans (HS4.out.below (fun k e => by omega) CK3.out.below.size)⟩
    · obtain rfl : k = n := by omega
      have HC := Lib.hid (chk_end (H := hsh) HN.out HR.out)
      obtain ⟨A2, _, cap2, rfl, rfl, _, _⟩ := CK.out.own.opened
      go_wp2_with fail
      refine wp_region_held_drew (S := fun W => W.rangeAt (w.heap.size + 1 + 1) 0 (bys st.a)) (by kernel_rfl) (CK.out.sum.drew.whole) (fun hHeld => ?_)
      refine wpAnyH_take (i := 0) (v := ?_) rfl (by kernel_rfl) (by kernel_rfl) (by kernel_rfl) (fun _ _ _ h => h) (Or.inl ⟨by rfl, ?_⟩) (by assumption) ?_
      rotate_left
      · intro w hSw; (try dsimp only at hSw); go_simp; try with_reducible rfl
      try simp only [Act.put, List.getElem_toArray, List.getElem_cons_zero, List.setIfInBounds_toArray, List.set_cons_zero, List.set_cons_succ]
      refine wpAnyH_take (i := 1) rfl (by kernel_rfl) (by kernel_rfl) (by kernel_rfl) (fun _ _ _ h => h) (yieldsIf_load_mid (by rfl) _ _ rfl (w.heap.size + 1 + 1) 0 rfl (bys st.a) _ (fun W h => h) hdu rfl (by rw [hdi, hal])) (by assumption) ?_
      try simp only [Act.put, List.getElem_toArray, List.getElem_cons_zero, List.getElem_cons_succ, List.setIfInBounds_toArray, List.set_cons_zero, List.set_cons_succ]
      refine wpAnyH_take (i := 2) (v := ?_) rfl (by kernel_rfl) (by kernel_rfl) (by kernel_rfl) (fun _ _ _ h => h) (Or.inl ⟨by rfl, ?_⟩) (by assumption) ?_
      rotate_left
      · intro w hSw; (try dsimp only at hSw); go_simp; try with_reducible rfl
      try simp only [Act.put, List.getElem_toArray, List.getElem_cons_zero, List.getElem_cons_succ, List.setIfInBounds_toArray, List.set_cons_zero, List.set_cons_succ]
      refine wpAnyH_ready (rs := [3]) (by kernel_rfl) (by simp) (AllReadyH.cons rfl (fun K hK => ?_) AllReadyH.nil)
      refine wp_store_save 23 _ _ rfl (w.heap.size + 1) 23 (bys z32) (bys st.a) (by rfl) (by rfl) CK.out.res.drew (by rw [hal, hzl]) (by rw [hdi, hal]) hso ?_; intro w4 hF4 s4; have HF4 := Lib.hid hF4; have HS4 := Lib.hid s4; clear hF4 s4
      refine hK.out _ _ ((HS4.out.has CK.out.sum.drew (fun e => by omega)).whole) (fun hHeld => ?_)
      clear hK K
      try simp only [Act.put, List.getElem_toArray, List.getElem_cons_zero, List.getElem_cons_succ]
      refine wpAnyH_take (i := 4) (v := ?_) rfl (by kernel_rfl) (by kernel_rfl) (by kernel_rfl) (fun _ _ _ h => h) (Or.inl ⟨by rfl, ?_⟩) (by assumption) ?_
      rotate_left
      · intro w hSw; (try dsimp only at hSw); go_simp; try with_reducible rfl
      try simp only [Act.put, List.getElem_toArray, List.getElem_cons_zero, List.getElem_cons_succ, List.setIfInBounds_toArray, List.set_cons_zero, List.set_cons_succ]
      refine wpAnyH_done (by kernel_rfl) ?_ _
      skip
      go_wp2_with fail
      refine bodyPost_ret_by (results_chk Tryd.results14 _ _ (w.heap.size + 1) st.a (.slice A2 st.acc.length cap2) (.int .i64 0) (by rfl) HF4.out HSL.out (by rfl) (by rfl)) rfl ?_
      rw [HC.out]
      exact ⟨_, rfl, (CK.out.own.up (Below.refl _ _).drew).save HS4.out (fun k hk e => Typ.ne (CK.out.res.drew) (by decide) (e ▸ hk)), CK.out.below.trans (HS4.out.drewed.below (fun k e => by omega) CK.out.below.size)⟩

end Go.Proofs.YthhcopeejhhpgaaDoor
