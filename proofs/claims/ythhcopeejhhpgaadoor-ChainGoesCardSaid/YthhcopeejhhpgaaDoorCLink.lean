/- chain.Link. -/
import Derived.Test.YthhcopeejhhpgaaDoorCLinkA
import Derived.Test.YthhcopeejhhpgaaDoorChainLinksWalk
namespace Go.Proofs.YthhcopeejhhpgaaDoor
open Go.RowKit Wire Evt Bat Crc Chn

/-- Where a link stands: its result, its batch at any block, the copy of the events. -/
structure Lnq (w wr : World) (g : Nat) (L : List Value) (v : Value) (l : List Ev) : Prop where
  res : Has wr (w.heap.size + 1) 27 zbt
  bat : Has wr g 27 L
  own : OwnE w.heap.size v l wr
  below : Below w.heap.size w wr
  far : w.heap.size + 2 ≤ g
theorem Lnq.up {w wr w' : World} {g : Nat} {L : List Value} {v : Value} {l : List Ev} (h : Lnq w wr g L v l) (b : Below wr.heap.size wr w') : Lnq w w' g L v l := ⟨h.res.up b, h.bat.up b, h.own.up b, up_trans h.below b, h.far⟩
theorem Lnq.store {w wr w' : World} {g : Nat} {L L' : List Value} {v : Value} {l : List Ev} (h : Lnq w wr g L v l) (hF : Has w' g 27 L') (s : Save (fun k => k = g) wr w') : Lnq w w' g L' v l :=
  ⟨s.has h.res (fun e => by have := h.far; omega), hF, h.own.save s (fun k hk e => Typ.ne h.bat (by decide) (e ▸ hk)), h.below.trans (s.below (fun k e => by have := h.far; omega) h.below.size), h.far⟩
theorem Lnq.first {w wr : World} {g : Nat} {v : Value} {p : List UInt8} {l : List Ev} (h : Lnq w wr g (btc 0 v p) v l) (q : Nat) : Lnq w (wr.setCell ⟨g, 0, none⟩ (.int .u64 (q : Nat))) g (btc q v p) v l := by
  have s : Save (fun k => k = g) wr (wr.setCell ⟨g, 0, none⟩ (.int .u64 (q : Nat))) := Save.one wr g 0 (.int .u64 (q : Nat))
  exact h.store (h.bat.set 0 (.int .u64 (q : Nat))) s

set_option maxHeartbeats 4000000 in
set_option maxRecDepth 100000 in
theorem link_none_any (p : List UInt8) (hp : p.length = 32) (A : Option Addr) (n cap : Nat) (hn : n = 0) (w : World) (hA : EvSl w A []) :
    Calls Tryd.prog 9 #[.agg (bys p).toArray, .slice A n cap] w fun e w' => LinkedTo p [] e w' ∧ Below w.heap.size w w' := by
  have hz : zbt.length = 34 := btc_length _ _ (by simp)
  have hzo : ∀ v ∈ zbt, v.oneCell' = true := btc_one 0 none 0 0 _
  have hi := info_batch
  have hu := Tryd.underlying27
  have hdi := info_digest
  have hdu := Tryd.underlying23
  have hpl : (bys p).length = 32 := by rw [bys_length, hp]
  have HBE := Lib.hid (fun A n c => built_ev (.slice A n c) rfl p hp)
  have HN0 := Lib.hid built_none
  have HBL := Lib.hid (fun q A n c => btc_length q (.slice A n c) hp)
  have HBO := Lib.hid (fun q A n c => btc_one q A n c p)
  have HNN := Lib.hid hn
  have HLT := Lib.hid (fun w' => show LinkedTo p [] (.returned (.tuple #[.agg zbt.toArray, .string ⟨#[]⟩, .int .i64 1])) w' from by
    have hb : isB (headSeq []) [] = false := rfl
    unfold LinkedTo
    rw [putB_no (show isB (lnk p []).first (lnk p []).evs = false from rfl), hb]
    exact ⟨none, 0, 0, rfl, fun h => by cases h⟩)
  have CL := Lib.hid (fun W h => clone_any A [] n cap hn (Nat.zero_le _) W h)
  have cp := fun A n c hn hc w hA => bput_any (lnk p []) ⟨show (0 : Nat) < _ by decide, hp, fun _ h => by cases h⟩ (Nat.zero_le _) A n c hn hc w hA
  rw [putB_no (show isB (lnk p []).first (lnk p []).evs = false from rfl)] at cp
  have CP : Hid (∀ (A : Option Addr) (n c : Nat), n = 0 → 0 ≤ c → ∀ w, EvSl w A [] → Calls Tryd.prog 24 #[.agg (btc 0 (.slice A n c) p).toArray] w fun e w' => e = .returned (.tuple #[.string ⟨#[]⟩, .int .i64 1]) ∧ Below w.heap.size w w') := Lib.hid cp
  have HE := Lib.hid (fun W (b : Below w.heap.size w W) => hA.up b)
  have P1 := Lib.hid ((Has.make w 23 (bys p)).alloc (.cells zbt.toArray 27))
  have R1 := Lib.hid (Has.make2 w (.cells (bys p).toArray 23) 27 zbt)
  have B1 := Lib.hid (up_alloc (up_alloc (Below.refl w.heap.size w) (.cells (bys p).toArray 23)) (.cells zbt.toArray 27))
  have Z1 := Lib.hid (show ((w.alloc (.cells (bys p).toArray 23)).alloc (.cells zbt.toArray 27)).heap.size = w.heap.size + 2 by simp)
  clear cp hA
  clear hn
  go_enter Tryd.func9, Tryd.ntmps9
  go_wp2_with fail
  generalize hw1 : World.alloc (World.alloc w _) _ = w1
  rw [show ((w.alloc (.cells (bys p).toArray 23)).alloc (.cells zbt.toArray 27)) = w1 from hw1] at P1 R1 B1 Z1
  clear hw1
  refine wp_region_held_drew (S := fun W => W.rangeAt w.heap.size 0 (bys p)) (by kernel_rfl) (P1.out.drew.whole) (fun hHeld => ?_)
  refine wpAnyH_take (i := 0) (v := ?_) rfl (by kernel_rfl) (by kernel_rfl) (by kernel_rfl) (fun _ _ _ h => h) (Or.inl ⟨by rfl, ?_⟩) (by assumption) ?_
  rotate_left
  · intro w hSw; (try dsimp only at hSw); go_simp; try with_reducible rfl
  try simp only [Act.put, List.getElem_toArray, List.getElem_cons_zero, List.setIfInBounds_toArray, List.set_cons_zero, List.set_cons_succ]
  refine wpAnyH_take (i := 2) rfl (by kernel_rfl) (by kernel_rfl) (by kernel_rfl) (fun _ _ _ h => h) (yieldsIf_load_mid (by rfl) _ _ rfl w.heap.size 0 rfl (bys p) _ (fun W h => h) hdu rfl (by rw [hdi, hpl])) (by assumption) ?_
  try simp only [Act.put, List.getElem_toArray, List.getElem_cons_zero, List.getElem_cons_succ, List.setIfInBounds_toArray, List.set_cons_zero, List.set_cons_succ]
  refine wpAnyH_ready (rs := [1, 4]) (by kernel_rfl) (by simp) (AllReadyH.cons rfl (fun K hK => ?_) (AllReadyH.cons rfl (fun K hK => ?_) AllReadyH.nil))
  · skip
    go_simp
    refine (CL.out _ (HE.out _ (up_trans B1.out (Below.refl _ _).drew))).mono ?_; rintro e wn ⟨A1, n1', c1, rfl, hO, hbn'⟩
    have hbn : Below w1.heap.size w1 wn := up_trans (Below.refl _ _).drew hbn'
    have HO : Hid (OwnE w.heap.size (.slice A1 n1' c1) [] wn) := Lib.hid (hO.mono_base (up_trans B1.out (Below.refl _ _).drew).size)
    try replace HG := Lib.hid (HG.out.up hbn')
    clear hO hbn'
    go_wp2_with fail
    refine hK.out _ _ ((P1.out.up hbn).whole) (fun hHeld => ?_)
    clear hK K
    try simp only [Act.put, List.getElem_toArray, List.getElem_cons_zero, List.getElem_cons_succ, List.setIfInBounds_toArray, List.set_cons_zero, List.set_cons_succ]
    refine wpAnyH_take (i := 3) (v := .agg (btc 0 (.slice A1 n1' c1) p).toArray) rfl (by kernel_rfl) (by kernel_rfl) (by kernel_rfl) (fun _ _ _ h => h) (yieldsIf_bat (by rfl) _ _ (by rfl) _ (HBE.out A1 n1' c1)) (by assumption) ?_
    try simp only [Act.put, List.getElem_toArray, List.getElem_cons_zero, List.getElem_cons_succ, List.setIfInBounds_toArray, List.set_cons_zero, List.set_cons_succ]
    refine wpAnyH_ready (rs := [4]) (by kernel_rfl) (by simp) (AllReadyH.cons rfl (fun K hK => ?_) AllReadyH.nil)
    go_simp
    refine hK.out _ _ ((P1.out.up (up_alloc hbn _)).whole) (fun hHeld => ?_)
    clear hK K
    try simp only [Act.put, List.getElem_toArray, List.getElem_cons_zero, List.getElem_cons_succ, List.setIfInBounds_toArray, List.set_cons_zero, List.set_cons_succ]
    obtain ⟨GG, hGG⟩ : ∃ GG, GG = wn.heap.size := ⟨_, rfl⟩
    have HG : Hid (Has (wn.alloc (.cells zbt.toArray 27)) GG 27 zbt) := Lib.hid (by rw [hGG]; exact Has.make wn 27 zbt)
    have hge : w.heap.size + 2 ≤ GG := by rw [hGG, ← Z1.out]; exact hbn.size
    rw [← hGG]
    clear hGG
    replace hbn : Below w1.heap.size w1 (wn.alloc (.cells zbt.toArray 27)) := up_alloc hbn _
    replace HO := Lib.hid (HO.out.alloc (.cells zbt.toArray 27))
    refine wpAnyH_ready (rs := [5]) (by kernel_rfl) (by simp) (AllReadyH.cons rfl (fun K hK => ?_) AllReadyH.nil)
    refine wp_store_save 27 _ _ rfl GG 27 zbt (btc 0 (.slice A1 n1' c1) p) (by rfl) (by rfl) HG.out (by rw [HBL.out 0 A1 n1' c1, hz]) (by rw [hi, HBL.out 0 A1 n1' c1]) (HBO.out 0 A1 n1' c1) ?_; intro w3 hF3 s3; have LQ : Hid (Lnq w w3 GG (btc 0 (.slice A1 n1' c1) p) (.slice A1 n1' c1) []) := Lib.hid ((Lnq.mk (R1.out.up hbn) HG.out HO.out (up_trans B1.out hbn) hge).store hF3 s3); have HP3 := Lib.hid (s3.has (P1.out.up hbn) (fun e => by omega)); clear hF3 s3
    refine hK.out _ _ (HP3.out.whole) (fun hHeld => ?_)
    clear hK K
    try simp only [Act.put, List.getElem_toArray, List.getElem_cons_zero, List.getElem_cons_succ]
    refine wpAnyH_done (by kernel_rfl) ?_ _
    clear hHeld
    obtain ⟨hn2, hc2, hE2⟩ := LQ.out.own.slice
    have hz0 : n = 0 := HNN.out
    subst hz0
    have hz2 : n1' = 0 := hn2
    subst hz2
    have HB3 := HBL.out 0 A1 0 c1
    have HC2 := Lib.hid hc2
    have HE2 := Lib.hid hE2
    clear hn2 hc2 hE2
    go_wp2_with (refine wpList_load_row rfl 27 _ rfl GG (by rfl) _ _ _ _ LQ.out.bat hu rfl (by rw [hi, List.size_toArray, HB3]) ?_)
    refine (CP.out A1 0 c1 rfl HC2.out _ HE2.out).mono ?_; rintro e w5 ⟨rfl, b5⟩
    have LQ5 := Lib.hid (LQ.out.up b5)
    clear b5
    go_wp2_with (first | (refine wpList_build rfl 27 _ rfl _ HN0.out ?_) | (refine wpList_store_save rfl 27 _ _ rfl (w.heap.size + 1) 27 zbt zbt (by rfl) (by rfl) LQ5.out.res (by rw [hz]) (by rw [hi, hz]) hzo ?_; intro w6 hF6 s6; have HR6 := Lib.hid hF6; have B6 := Lib.hid (LQ5.out.below.trans (s6.below (fun k e => by omega) LQ5.out.below.size)); clear hF6 s6))
    refine bodyPost_ret_by (results_got Tryd.results9 _ _ (w.heap.size + 1) zbt (.string ⟨#[]⟩) (.int .i64 1) (by rfl) HR6.out hz (by rfl) (by rfl)) rfl ⟨HLT.out _, B6.out⟩
  · skip
    go_simp
    refine hK.out _ _ ((P1.out.up (up_alloc (Below.refl _ _).drew _)).whole) (fun hHeld => ?_)
    clear hK K
    try simp only [Act.put, List.getElem_toArray, List.getElem_cons_zero, List.getElem_cons_succ, List.setIfInBounds_toArray, List.set_cons_zero, List.set_cons_succ]
    obtain ⟨GG, hGG⟩ : ∃ GG, GG = w1.heap.size := ⟨_, rfl⟩
    have HG : Hid (Has (w1.drew.alloc (.cells zbt.toArray 27)) GG 27 zbt) := Lib.hid (by rw [hGG]; exact Has.make w1.drew 27 zbt)
    have hge : w.heap.size + 2 ≤ GG := by rw [hGG, ← Z1.out]; exact Nat.le_refl _
    rw [← hGG]
    clear hGG
    refine wpAnyH_ready (rs := [1]) (by kernel_rfl) (by simp) (AllReadyH.cons rfl (fun K hK => ?_) AllReadyH.nil)
    go_simp
    refine (CL.out _ (HE.out _ (up_trans B1.out (up_alloc (Below.refl _ _).drew _)))).mono ?_; rintro e wn ⟨A1, n1', c1, rfl, hO, hbn'⟩
    have hbn : Below w1.heap.size w1 wn := up_trans (up_alloc (Below.refl _ _).drew _) hbn'
    have HO : Hid (OwnE w.heap.size (.slice A1 n1' c1) [] wn) := Lib.hid (hO.mono_base (up_trans B1.out (up_alloc (Below.refl _ _).drew _)).size)
    try replace HG := Lib.hid (HG.out.up hbn')
    clear hO hbn'
    go_wp2_with fail
    refine hK.out _ _ ((P1.out.up hbn).whole) (fun hHeld => ?_)
    clear hK K
    try simp only [Act.put, List.getElem_toArray, List.getElem_cons_zero, List.getElem_cons_succ, List.setIfInBounds_toArray, List.set_cons_zero, List.set_cons_succ]
    refine wpAnyH_take (i := 3) (v := .agg (btc 0 (.slice A1 n1' c1) p).toArray) rfl (by kernel_rfl) (by kernel_rfl) (by kernel_rfl) (fun _ _ _ h => h) (yieldsIf_bat (by rfl) _ _ (by rfl) _ (HBE.out A1 n1' c1)) (by assumption) ?_
    try simp only [Act.put, List.getElem_toArray, List.getElem_cons_zero, List.getElem_cons_succ, List.setIfInBounds_toArray, List.set_cons_zero, List.set_cons_succ]
    refine wpAnyH_ready (rs := [5]) (by kernel_rfl) (by simp) (AllReadyH.cons rfl (fun K hK => ?_) AllReadyH.nil)
    refine wp_store_save 27 _ _ rfl GG 27 zbt (btc 0 (.slice A1 n1' c1) p) (by rfl) (by rfl) HG.out (by rw [HBL.out 0 A1 n1' c1, hz]) (by rw [hi, HBL.out 0 A1 n1' c1]) (HBO.out 0 A1 n1' c1) ?_; intro w3 hF3 s3; have LQ : Hid (Lnq w w3 GG (btc 0 (.slice A1 n1' c1) p) (.slice A1 n1' c1) []) := Lib.hid ((Lnq.mk (R1.out.up hbn) HG.out HO.out (up_trans B1.out hbn) hge).store hF3 s3); have HP3 := Lib.hid (s3.has (P1.out.up hbn) (fun e => by omega)); clear hF3 s3
    refine hK.out _ _ (HP3.out.whole) (fun hHeld => ?_)
    clear hK K
    try simp only [Act.put, List.getElem_toArray, List.getElem_cons_zero, List.getElem_cons_succ]
    refine wpAnyH_done (by kernel_rfl) ?_ _
    clear hHeld
    obtain ⟨hn2, hc2, hE2⟩ := LQ.out.own.slice
    have hz0 : n = 0 := HNN.out
    subst hz0
    have hz2 : n1' = 0 := hn2
    subst hz2
    have HB3 := HBL.out 0 A1 0 c1
    have HC2 := Lib.hid hc2
    have HE2 := Lib.hid hE2
    clear hn2 hc2 hE2
    go_wp2_with (refine wpList_load_row rfl 27 _ rfl GG (by rfl) _ _ _ _ LQ.out.bat hu rfl (by rw [hi, List.size_toArray, HB3]) ?_)
    refine (CP.out A1 0 c1 rfl HC2.out _ HE2.out).mono ?_; rintro e w5 ⟨rfl, b5⟩
    have LQ5 := Lib.hid (LQ.out.up b5)
    clear b5
    go_wp2_with (first | (refine wpList_build rfl 27 _ rfl _ HN0.out ?_) | (refine wpList_store_save rfl 27 _ _ rfl (w.heap.size + 1) 27 zbt zbt (by rfl) (by rfl) LQ5.out.res (by rw [hz]) (by rw [hi, hz]) hzo ?_; intro w6 hF6 s6; have HR6 := Lib.hid hF6; have B6 := Lib.hid (LQ5.out.below.trans (s6.below (fun k e => by omega) LQ5.out.below.size)); clear hF6 s6))
    refine bodyPost_ret_by (results_got Tryd.results9 _ _ (w.heap.size + 1) zbt (.string ⟨#[]⟩) (.int .i64 1) (by rfl) HR6.out hz (by rfl) (by rfl)) rfl ⟨HLT.out _, B6.out⟩

set_option maxHeartbeats 4000000 in
set_option maxRecDepth 100000 in
theorem link_yes_any (p : List UInt8) (hp : p.length = 32) (x : Ev) (m : List Ev) (hs : ∀ y ∈ x :: m, y.seq < 18446744073709551616) (h : isB x.seq (x :: m) = true) (g o n cap : Nat) (hn : n = (x :: m).length) (hm : (x :: m).length ≤ 1000) (w : World) (hA : EvSl w (some ⟨g, o, none⟩) (x :: m)) :
    Calls Tryd.prog 9 #[.agg (bys p).toArray, .slice (some ⟨g, o, none⟩) n cap] w fun e w' => LinkedTo p (x :: m) e w' ∧ Below w.heap.size w w' := by
  have hz : zbt.length = 34 := btc_length _ _ (by simp)
  have hzo : ∀ v ∈ zbt, v.oneCell' = true := btc_one 0 none 0 0 _
  have hi := info_batch
  have hu := Tryd.underlying27
  have hdi := info_digest
  have hdu := Tryd.underlying23
  have hpl : (bys p).length = 32 := by rw [bys_length, hp]
  have HBE := Lib.hid (fun A n c => built_ev (.slice A n c) rfl p hp)
  have HN0 := Lib.hid built_none
  have HBL := Lib.hid (fun q A n c => btc_length q (.slice A n c) hp)
  have HBO := Lib.hid (fun q A n c => btc_one q A n c p)
  have HNN := Lib.hid hn
  have HLT := Lib.hid (fun w' A n c (h1 : n = (x :: m).length) (h2 : n ≤ c) (h3 : EvSl w' A (x :: m)) => show LinkedTo p (x :: m) (.returned (.tuple #[.agg (btc x.seq (.slice A n c) p).toArray, .string ⟨(whole (lnk p (x :: m))).toArray⟩, .int .i64 0])) w' from by
    have hb : isB (headSeq (x :: m)) (x :: m) = true := h
    unfold LinkedTo
    rw [putB_yes (show isB (lnk p (x :: m)).first (lnk p (x :: m)).evs = true from h), hb]
    exact ⟨A, n, c, rfl, fun _ => ⟨h1, h2, h3⟩⟩)
  have CL := Lib.hid (fun W h => clone_any (some ⟨g, o, none⟩) (x :: m) n cap hn hm W h)
  have cp := fun A n c hn hc w hA => bput_any (lnk p (x :: m)) ⟨hs x (List.mem_cons_self ..), hp, hs⟩ (show (x :: m).length ≤ 140737488355327 by omega) A n c hn hc w hA
  rw [putB_yes (show isB (lnk p (x :: m)).first (lnk p (x :: m)).evs = true from h)] at cp
  have CP : Hid (∀ (A : Option Addr) (n c : Nat), n = (x :: m).length → (x :: m).length ≤ c → ∀ w, EvSl w A (x :: m) → Calls Tryd.prog 24 #[.agg (btc x.seq (.slice A n c) p).toArray] w fun e w' => e = .returned (.tuple #[.string ⟨(whole (lnk p (x :: m))).toArray⟩, .int .i64 0]) ∧ Below w.heap.size w w') := Lib.hid cp
  have n1 : 0 < n := by rw [hn]; simp
  have e0 : ∀ W, Below w.heap.size w W → W.cell? ⟨g, o, none⟩ = some (.int .u64 (x.seq : Nat)) := fun W hb => by
    obtain ⟨g', o', e1, hev⟩ := (hA.up hb) (by simp)
    cases e1
    simpa using hev 0 x rfl 0 (.int .u64 (x.seq : Nat)) rfl
  have E0 := Lib.hid e0
  generalize (⟨(whole (lnk p (x :: m))).toArray⟩ : ByteArray) = T at *
  have HE := Lib.hid (fun W (b : Below w.heap.size w W) => hA.up b)
  have P1 := Lib.hid ((Has.make w 23 (bys p)).alloc (.cells zbt.toArray 27))
  have R1 := Lib.hid (Has.make2 w (.cells (bys p).toArray 23) 27 zbt)
  have B1 := Lib.hid (up_alloc (up_alloc (Below.refl w.heap.size w) (.cells (bys p).toArray 23)) (.cells zbt.toArray 27))
  have Z1 := Lib.hid (show ((w.alloc (.cells (bys p).toArray 23)).alloc (.cells zbt.toArray 27)).heap.size = w.heap.size + 2 by simp)
  clear cp hA hn hm hs h e0
  generalize x.seq = q at *
  go_enter Tryd.func9, Tryd.ntmps9
  go_wp2_with fail
  generalize hw1 : World.alloc (World.alloc w _) _ = w1
  rw [show ((w.alloc (.cells (bys p).toArray 23)).alloc (.cells zbt.toArray 27)) = w1 from hw1] at P1 R1 B1 Z1
  clear hw1
  refine wp_region_held_drew (S := fun W => W.rangeAt w.heap.size 0 (bys p)) (by kernel_rfl) (P1.out.drew.whole) (fun hHeld => ?_)
  refine wpAnyH_take (i := 0) (v := ?_) rfl (by kernel_rfl) (by kernel_rfl) (by kernel_rfl) (fun _ _ _ h => h) (Or.inl ⟨by rfl, ?_⟩) (by assumption) ?_
  rotate_left
  · intro w hSw; (try dsimp only at hSw); go_simp; try with_reducible rfl
  try simp only [Act.put, List.getElem_toArray, List.getElem_cons_zero, List.setIfInBounds_toArray, List.set_cons_zero, List.set_cons_succ]
  refine wpAnyH_take (i := 2) rfl (by kernel_rfl) (by kernel_rfl) (by kernel_rfl) (fun _ _ _ h => h) (yieldsIf_load_mid (by rfl) _ _ rfl w.heap.size 0 rfl (bys p) _ (fun W h => h) hdu rfl (by rw [hdi, hpl])) (by assumption) ?_
  try simp only [Act.put, List.getElem_toArray, List.getElem_cons_zero, List.getElem_cons_succ, List.setIfInBounds_toArray, List.set_cons_zero, List.set_cons_succ]
  refine wpAnyH_ready (rs := [1, 4]) (by kernel_rfl) (by simp) (AllReadyH.cons rfl (fun K hK => ?_) (AllReadyH.cons rfl (fun K hK => ?_) AllReadyH.nil))
  · skip
    go_simp
    refine (CL.out _ (HE.out _ (up_trans B1.out (Below.refl _ _).drew))).mono ?_; rintro e wn ⟨A1, n1', c1, rfl, hO, hbn'⟩
    have hbn : Below w1.heap.size w1 wn := up_trans (Below.refl _ _).drew hbn'
    have HO : Hid (OwnE w.heap.size (.slice A1 n1' c1) (x :: m) wn) := Lib.hid (hO.mono_base (up_trans B1.out (Below.refl _ _).drew).size)
    try replace HG := Lib.hid (HG.out.up hbn')
    clear hO hbn'
    go_wp2_with fail
    refine hK.out _ _ ((P1.out.up hbn).whole) (fun hHeld => ?_)
    clear hK K
    try simp only [Act.put, List.getElem_toArray, List.getElem_cons_zero, List.getElem_cons_succ, List.setIfInBounds_toArray, List.set_cons_zero, List.set_cons_succ]
    refine wpAnyH_take (i := 3) (v := .agg (btc 0 (.slice A1 n1' c1) p).toArray) rfl (by kernel_rfl) (by kernel_rfl) (by kernel_rfl) (fun _ _ _ h => h) (yieldsIf_bat (by rfl) _ _ (by rfl) _ (HBE.out A1 n1' c1)) (by assumption) ?_
    try simp only [Act.put, List.getElem_toArray, List.getElem_cons_zero, List.getElem_cons_succ, List.setIfInBounds_toArray, List.set_cons_zero, List.set_cons_succ]
    refine wpAnyH_ready (rs := [4]) (by kernel_rfl) (by simp) (AllReadyH.cons rfl (fun K hK => ?_) AllReadyH.nil)
    go_simp
    refine hK.out _ _ ((P1.out.up (up_alloc hbn _)).whole) (fun hHeld => ?_)
    clear hK K
    try simp only [Act.put, List.getElem_toArray, List.getElem_cons_zero, List.getElem_cons_succ, List.setIfInBounds_toArray, List.set_cons_zero, List.set_cons_succ]
    obtain ⟨GG, hGG⟩ : ∃ GG, GG = wn.heap.size := ⟨_, rfl⟩
    have HG : Hid (Has (wn.alloc (.cells zbt.toArray 27)) GG 27 zbt) := Lib.hid (by rw [hGG]; exact Has.make wn 27 zbt)
    have hge : w.heap.size + 2 ≤ GG := by rw [hGG, ← Z1.out]; exact hbn.size
    rw [← hGG]
    clear hGG
    replace hbn : Below w1.heap.size w1 (wn.alloc (.cells zbt.toArray 27)) := up_alloc hbn _
    replace HO := Lib.hid (HO.out.alloc (.cells zbt.toArray 27))
    refine wpAnyH_ready (rs := [5]) (by kernel_rfl) (by simp) (AllReadyH.cons rfl (fun K hK => ?_) AllReadyH.nil)
    refine wp_store_save 27 _ _ rfl GG 27 zbt (btc 0 (.slice A1 n1' c1) p) (by rfl) (by rfl) HG.out (by rw [HBL.out 0 A1 n1' c1, hz]) (by rw [hi, HBL.out 0 A1 n1' c1]) (HBO.out 0 A1 n1' c1) ?_; intro w3 hF3 s3; have LQ : Hid (Lnq w w3 GG (btc 0 (.slice A1 n1' c1) p) (.slice A1 n1' c1) (x :: m)) := Lib.hid ((Lnq.mk (R1.out.up hbn) HG.out HO.out (up_trans B1.out hbn) hge).store hF3 s3); have HP3 := Lib.hid (s3.has (P1.out.up hbn) (fun e => by omega)); clear hF3 s3
    refine hK.out _ _ (HP3.out.whole) (fun hHeld => ?_)
    clear hK K
    try simp only [Act.put, List.getElem_toArray, List.getElem_cons_zero, List.getElem_cons_succ]
    refine wpAnyH_done (by kernel_rfl) ?_ _
    clear hHeld
    have ce := E0.out _ LQ.out.below
    have cb := LQ.out.bat.at (i := 0) rfl
    have cf := LQ.out.bat.free 0
    have LQ4 := Lib.hid (LQ.out.first q)
    obtain ⟨hn2, hc2, hE2⟩ := LQ4.out.own.slice
    have hnn : n1' = n := hn2.trans HNN.out.symm
    subst hnn
    have HC2 := Lib.hid hc2
    have HE2 := Lib.hid hE2
    clear hn2 hc2 hE2
    have HB4 := HBL.out q A1 n1' c1
    go_wp2_with (refine wpList_load_row rfl 27 _ rfl GG (by rfl) _ _ _ _ LQ4.out.bat hu rfl (by rw [hi, List.size_toArray, HB4]) ?_)
    refine (CP.out A1 n1' c1 HNN.out HC2.out _ HE2.out).mono ?_; rintro e w5 ⟨rfl, b5⟩
    have LQ5 := Lib.hid (LQ4.out.up b5)
    clear b5 ce cb cf
    go_wp2_with (first | (refine wpList_load_row rfl 27 _ rfl GG (by rfl) _ _ _ _ LQ5.out.bat hu rfl (by rw [hi, List.size_toArray, HB4]) ?_) | (refine wpList_store_save rfl 27 _ _ rfl (w.heap.size + 1) 27 zbt (btc q (.slice A1 n1' c1) p) (by rfl) (by rfl) LQ5.out.res (by rw [HB4, hz]) (by rw [hi, HB4]) (HBO.out q A1 n1' c1) ?_; intro w6 hF6 s6; have HR6 := Lib.hid hF6; have HO6 := Lib.hid (LQ5.out.own.save s6 (fun k hk e => Typ.ne LQ5.out.res (by decide) (e ▸ hk))); have B6 := Lib.hid (LQ5.out.below.trans (s6.below (fun k e => by omega) LQ5.out.below.size)); clear hF6 s6))
    obtain ⟨hn6, hc6, hE6⟩ := HO6.out.slice
    refine bodyPost_ret_by (results_got Tryd.results9 _ _ (w.heap.size + 1) _ (.string T) (.int .i64 0) (by rfl) HR6.out HB4 (by rfl) (by rfl)) rfl ⟨HLT.out _ A1 n1' c1 hn6 (by omega) hE6, B6.out⟩
  · skip
    go_simp
    refine hK.out _ _ ((P1.out.up (up_alloc (Below.refl _ _).drew _)).whole) (fun hHeld => ?_)
    clear hK K
    try simp only [Act.put, List.getElem_toArray, List.getElem_cons_zero, List.getElem_cons_succ, List.setIfInBounds_toArray, List.set_cons_zero, List.set_cons_succ]
    obtain ⟨GG, hGG⟩ : ∃ GG, GG = w1.heap.size := ⟨_, rfl⟩
    have HG : Hid (Has (w1.drew.alloc (.cells zbt.toArray 27)) GG 27 zbt) := Lib.hid (by rw [hGG]; exact Has.make w1.drew 27 zbt)
    have hge : w.heap.size + 2 ≤ GG := by rw [hGG, ← Z1.out]; exact Nat.le_refl _
    rw [← hGG]
    clear hGG
    refine wpAnyH_ready (rs := [1]) (by kernel_rfl) (by simp) (AllReadyH.cons rfl (fun K hK => ?_) AllReadyH.nil)
    go_simp
    refine (CL.out _ (HE.out _ (up_trans B1.out (up_alloc (Below.refl _ _).drew _)))).mono ?_; rintro e wn ⟨A1, n1', c1, rfl, hO, hbn'⟩
    have hbn : Below w1.heap.size w1 wn := up_trans (up_alloc (Below.refl _ _).drew _) hbn'
    have HO : Hid (OwnE w.heap.size (.slice A1 n1' c1) (x :: m) wn) := Lib.hid (hO.mono_base (up_trans B1.out (up_alloc (Below.refl _ _).drew _)).size)
    try replace HG := Lib.hid (HG.out.up hbn')
    clear hO hbn'
    go_wp2_with fail
    refine hK.out _ _ ((P1.out.up hbn).whole) (fun hHeld => ?_)
    clear hK K
    try simp only [Act.put, List.getElem_toArray, List.getElem_cons_zero, List.getElem_cons_succ, List.setIfInBounds_toArray, List.set_cons_zero, List.set_cons_succ]
    refine wpAnyH_take (i := 3) (v := .agg (btc 0 (.slice A1 n1' c1) p).toArray) rfl (by kernel_rfl) (by kernel_rfl) (by kernel_rfl) (fun _ _ _ h => h) (yieldsIf_bat (by rfl) _ _ (by rfl) _ (HBE.out A1 n1' c1)) (by assumption) ?_
    try simp only [Act.put, List.getElem_toArray, List.getElem_cons_zero, List.getElem_cons_succ, List.setIfInBounds_toArray, List.set_cons_zero, List.set_cons_succ]
    refine wpAnyH_ready (rs := [5]) (by kernel_rfl) (by simp) (AllReadyH.cons rfl (fun K hK => ?_) AllReadyH.nil)
    refine wp_store_save 27 _ _ rfl GG 27 zbt (btc 0 (.slice A1 n1' c1) p) (by rfl) (by rfl) HG.out (by rw [HBL.out 0 A1 n1' c1, hz]) (by rw [hi, HBL.out 0 A1 n1' c1]) (HBO.out 0 A1 n1' c1) ?_; intro w3 hF3 s3; have LQ : Hid (Lnq w w3 GG (btc 0 (.slice A1 n1' c1) p) (.slice A1 n1' c1) (x :: m)) := Lib.hid ((Lnq.mk (R1.out.up hbn) HG.out HO.out (up_trans B1.out hbn) hge).store hF3 s3); have HP3 := Lib.hid (s3.has (P1.out.up hbn) (fun e => by omega)); clear hF3 s3
    refine hK.out _ _ (HP3.out.whole) (fun hHeld => ?_)
    clear hK K
    try simp only [Act.put, List.getElem_toArray, List.getElem_cons_zero, List.getElem_cons_succ]
    refine wpAnyH_done (by kernel_rfl) ?_ _
    clear hHeld
    have ce := E0.out _ LQ.out.below
    have cb := LQ.out.bat.at (i := 0) rfl
    have cf := LQ.out.bat.free 0
    have LQ4 := Lib.hid (LQ.out.first q)
    obtain ⟨hn2, hc2, hE2⟩ := LQ4.out.own.slice
    have hnn : n1' = n := hn2.trans HNN.out.symm
    subst hnn
    have HC2 := Lib.hid hc2
    have HE2 := Lib.hid hE2
    clear hn2 hc2 hE2
    have HB4 := HBL.out q A1 n1' c1
    go_wp2_with (refine wpList_load_row rfl 27 _ rfl GG (by rfl) _ _ _ _ LQ4.out.bat hu rfl (by rw [hi, List.size_toArray, HB4]) ?_)
    refine (CP.out A1 n1' c1 HNN.out HC2.out _ HE2.out).mono ?_; rintro e w5 ⟨rfl, b5⟩
    have LQ5 := Lib.hid (LQ4.out.up b5)
    clear b5 ce cb cf
    go_wp2_with (first | (refine wpList_load_row rfl 27 _ rfl GG (by rfl) _ _ _ _ LQ5.out.bat hu rfl (by rw [hi, List.size_toArray, HB4]) ?_) | (refine wpList_store_save rfl 27 _ _ rfl (w.heap.size + 1) 27 zbt (btc q (.slice A1 n1' c1) p) (by rfl) (by rfl) LQ5.out.res (by rw [HB4, hz]) (by rw [hi, HB4]) (HBO.out q A1 n1' c1) ?_; intro w6 hF6 s6; have HR6 := Lib.hid hF6; have HO6 := Lib.hid (LQ5.out.own.save s6 (fun k hk e => Typ.ne LQ5.out.res (by decide) (e ▸ hk))); have B6 := Lib.hid (LQ5.out.below.trans (s6.below (fun k e => by omega) LQ5.out.below.size)); clear hF6 s6))
    obtain ⟨hn6, hc6, hE6⟩ := HO6.out.slice
    refine bodyPost_ret_by (results_got Tryd.results9 _ _ (w.heap.size + 1) _ (.string T) (.int .i64 0) (by rfl) HR6.out HB4 (by rfl) (by rfl)) rfl ⟨HLT.out _ A1 n1' c1 hn6 (by omega) hE6, B6.out⟩

set_option maxHeartbeats 4000000 in
set_option maxRecDepth 100000 in
theorem link_no_any (p : List UInt8) (hp : p.length = 32) (x : Ev) (m : List Ev) (hs : ∀ y ∈ x :: m, y.seq < 18446744073709551616) (h : isB x.seq (x :: m) = false) (g o n cap : Nat) (hn : n = (x :: m).length) (hm : (x :: m).length ≤ 1000) (w : World) (hA : EvSl w (some ⟨g, o, none⟩) (x :: m)) :
    Calls Tryd.prog 9 #[.agg (bys p).toArray, .slice (some ⟨g, o, none⟩) n cap] w fun e w' => LinkedTo p (x :: m) e w' ∧ Below w.heap.size w w' := by
  have hz : zbt.length = 34 := btc_length _ _ (by simp)
  have hzo : ∀ v ∈ zbt, v.oneCell' = true := btc_one 0 none 0 0 _
  have hi := info_batch
  have hu := Tryd.underlying27
  have hdi := info_digest
  have hdu := Tryd.underlying23
  have hpl : (bys p).length = 32 := by rw [bys_length, hp]
  have HBE := Lib.hid (fun A n c => built_ev (.slice A n c) rfl p hp)
  have HN0 := Lib.hid built_none
  have HBL := Lib.hid (fun q A n c => btc_length q (.slice A n c) hp)
  have HBO := Lib.hid (fun q A n c => btc_one q A n c p)
  have HNN := Lib.hid hn
  have HLT := Lib.hid (fun w' => show LinkedTo p (x :: m) (.returned (.tuple #[.agg zbt.toArray, .string ⟨#[]⟩, .int .i64 1])) w' from by
    have hb : isB (headSeq (x :: m)) (x :: m) = false := h
    unfold LinkedTo
    rw [putB_no (show isB (lnk p (x :: m)).first (lnk p (x :: m)).evs = false from h), hb]
    exact ⟨none, 0, 0, rfl, fun h => by cases h⟩)
  have CL := Lib.hid (fun W h => clone_any (some ⟨g, o, none⟩) (x :: m) n cap hn hm W h)
  have cp := fun A n c hn hc w hA => bput_any (lnk p (x :: m)) ⟨hs x (List.mem_cons_self ..), hp, hs⟩ (show (x :: m).length ≤ 140737488355327 by omega) A n c hn hc w hA
  rw [putB_no (show isB (lnk p (x :: m)).first (lnk p (x :: m)).evs = false from h)] at cp
  have CP : Hid (∀ (A : Option Addr) (n c : Nat), n = (x :: m).length → (x :: m).length ≤ c → ∀ w, EvSl w A (x :: m) → Calls Tryd.prog 24 #[.agg (btc x.seq (.slice A n c) p).toArray] w fun e w' => e = .returned (.tuple #[.string ⟨#[]⟩, .int .i64 1]) ∧ Below w.heap.size w w') := Lib.hid cp
  have n1 : 0 < n := by rw [hn]; simp
  have e0 : ∀ W, Below w.heap.size w W → W.cell? ⟨g, o, none⟩ = some (.int .u64 (x.seq : Nat)) := fun W hb => by
    obtain ⟨g', o', e1, hev⟩ := (hA.up hb) (by simp)
    cases e1
    simpa using hev 0 x rfl 0 (.int .u64 (x.seq : Nat)) rfl
  have E0 := Lib.hid e0
  have HE := Lib.hid (fun W (b : Below w.heap.size w W) => hA.up b)
  have P1 := Lib.hid ((Has.make w 23 (bys p)).alloc (.cells zbt.toArray 27))
  have R1 := Lib.hid (Has.make2 w (.cells (bys p).toArray 23) 27 zbt)
  have B1 := Lib.hid (up_alloc (up_alloc (Below.refl w.heap.size w) (.cells (bys p).toArray 23)) (.cells zbt.toArray 27))
  have Z1 := Lib.hid (show ((w.alloc (.cells (bys p).toArray 23)).alloc (.cells zbt.toArray 27)).heap.size = w.heap.size + 2 by simp)
  clear cp hA hn hm hs h e0
  generalize x.seq = q at *
  go_enter Tryd.func9, Tryd.ntmps9
  go_wp2_with fail
  generalize hw1 : World.alloc (World.alloc w _) _ = w1
  rw [show ((w.alloc (.cells (bys p).toArray 23)).alloc (.cells zbt.toArray 27)) = w1 from hw1] at P1 R1 B1 Z1
  clear hw1
  refine wp_region_held_drew (S := fun W => W.rangeAt w.heap.size 0 (bys p)) (by kernel_rfl) (P1.out.drew.whole) (fun hHeld => ?_)
  refine wpAnyH_take (i := 0) (v := ?_) rfl (by kernel_rfl) (by kernel_rfl) (by kernel_rfl) (fun _ _ _ h => h) (Or.inl ⟨by rfl, ?_⟩) (by assumption) ?_
  rotate_left
  · intro w hSw; (try dsimp only at hSw); go_simp; try with_reducible rfl
  try simp only [Act.put, List.getElem_toArray, List.getElem_cons_zero, List.setIfInBounds_toArray, List.set_cons_zero, List.set_cons_succ]
  refine wpAnyH_take (i := 2) rfl (by kernel_rfl) (by kernel_rfl) (by kernel_rfl) (fun _ _ _ h => h) (yieldsIf_load_mid (by rfl) _ _ rfl w.heap.size 0 rfl (bys p) _ (fun W h => h) hdu rfl (by rw [hdi, hpl])) (by assumption) ?_
  try simp only [Act.put, List.getElem_toArray, List.getElem_cons_zero, List.getElem_cons_succ, List.setIfInBounds_toArray, List.set_cons_zero, List.set_cons_succ]
  refine wpAnyH_ready (rs := [1, 4]) (by kernel_rfl) (by simp) (AllReadyH.cons rfl (fun K hK => ?_) (AllReadyH.cons rfl (fun K hK => ?_) AllReadyH.nil))
  · skip
    go_simp
    refine (CL.out _ (HE.out _ (up_trans B1.out (Below.refl _ _).drew))).mono ?_; rintro e wn ⟨A1, n1', c1, rfl, hO, hbn'⟩
    have hbn : Below w1.heap.size w1 wn := up_trans (Below.refl _ _).drew hbn'
    have HO : Hid (OwnE w.heap.size (.slice A1 n1' c1) (x :: m) wn) := Lib.hid (hO.mono_base (up_trans B1.out (Below.refl _ _).drew).size)
    try replace HG := Lib.hid (HG.out.up hbn')
    clear hO hbn'
    go_wp2_with fail
    refine hK.out _ _ ((P1.out.up hbn).whole) (fun hHeld => ?_)
    clear hK K
    try simp only [Act.put, List.getElem_toArray, List.getElem_cons_zero, List.getElem_cons_succ, List.setIfInBounds_toArray, List.set_cons_zero, List.set_cons_succ]
    refine wpAnyH_take (i := 3) (v := .agg (btc 0 (.slice A1 n1' c1) p).toArray) rfl (by kernel_rfl) (by kernel_rfl) (by kernel_rfl) (fun _ _ _ h => h) (yieldsIf_bat (by rfl) _ _ (by rfl) _ (HBE.out A1 n1' c1)) (by assumption) ?_
    try simp only [Act.put, List.getElem_toArray, List.getElem_cons_zero, List.getElem_cons_succ, List.setIfInBounds_toArray, List.set_cons_zero, List.set_cons_succ]
    refine wpAnyH_ready (rs := [4]) (by kernel_rfl) (by simp) (AllReadyH.cons rfl (fun K hK => ?_) AllReadyH.nil)
    go_simp
    refine hK.out _ _ ((P1.out.up (up_alloc hbn _)).whole) (fun hHeld => ?_)
    clear hK K
    try simp only [Act.put, List.getElem_toArray, List.getElem_cons_zero, List.getElem_cons_succ, List.setIfInBounds_toArray, List.set_cons_zero, List.set_cons_succ]
    obtain ⟨GG, hGG⟩ : ∃ GG, GG = wn.heap.size := ⟨_, rfl⟩
    have HG : Hid (Has (wn.alloc (.cells zbt.toArray 27)) GG 27 zbt) := Lib.hid (by rw [hGG]; exact Has.make wn 27 zbt)
    have hge : w.heap.size + 2 ≤ GG := by rw [hGG, ← Z1.out]; exact hbn.size
    rw [← hGG]
    clear hGG
    replace hbn : Below w1.heap.size w1 (wn.alloc (.cells zbt.toArray 27)) := up_alloc hbn _
    replace HO := Lib.hid (HO.out.alloc (.cells zbt.toArray 27))
    refine wpAnyH_ready (rs := [5]) (by kernel_rfl) (by simp) (AllReadyH.cons rfl (fun K hK => ?_) AllReadyH.nil)
    refine wp_store_save 27 _ _ rfl GG 27 zbt (btc 0 (.slice A1 n1' c1) p) (by rfl) (by rfl) HG.out (by rw [HBL.out 0 A1 n1' c1, hz]) (by rw [hi, HBL.out 0 A1 n1' c1]) (HBO.out 0 A1 n1' c1) ?_; intro w3 hF3 s3; have LQ : Hid (Lnq w w3 GG (btc 0 (.slice A1 n1' c1) p) (.slice A1 n1' c1) (x :: m)) := Lib.hid ((Lnq.mk (R1.out.up hbn) HG.out HO.out (up_trans B1.out hbn) hge).store hF3 s3); have HP3 := Lib.hid (s3.has (P1.out.up hbn) (fun e => by omega)); clear hF3 s3
    refine hK.out _ _ (HP3.out.whole) (fun hHeld => ?_)
    clear hK K
    try simp only [Act.put, List.getElem_toArray, List.getElem_cons_zero, List.getElem_cons_succ]
    refine wpAnyH_done (by kernel_rfl) ?_ _
    clear hHeld
    have ce := E0.out _ LQ.out.below
    have cb := LQ.out.bat.at (i := 0) rfl
    have cf := LQ.out.bat.free 0
    have LQ4 := Lib.hid (LQ.out.first q)
    obtain ⟨hn2, hc2, hE2⟩ := LQ4.out.own.slice
    have hnn : n1' = n := hn2.trans HNN.out.symm
    subst hnn
    have HC2 := Lib.hid hc2
    have HE2 := Lib.hid hE2
    clear hn2 hc2 hE2
    have HB4 := HBL.out q A1 n1' c1
    go_wp2_with (refine wpList_load_row rfl 27 _ rfl GG (by rfl) _ _ _ _ LQ4.out.bat hu rfl (by rw [hi, List.size_toArray, HB4]) ?_)
    refine (CP.out A1 n1' c1 HNN.out HC2.out _ HE2.out).mono ?_; rintro e w5 ⟨rfl, b5⟩
    have LQ5 := Lib.hid (LQ4.out.up b5)
    clear b5 ce cb cf
    go_wp2_with (first | (refine wpList_build rfl 27 _ rfl _ HN0.out ?_) | (refine wpList_store_save rfl 27 _ _ rfl (w.heap.size + 1) 27 zbt zbt (by rfl) (by rfl) LQ5.out.res (by rw [hz]) (by rw [hi, hz]) hzo ?_; intro w6 hF6 s6; have HR6 := Lib.hid hF6; have B6 := Lib.hid (LQ5.out.below.trans (s6.below (fun k e => by omega) LQ5.out.below.size)); clear hF6 s6))
    refine bodyPost_ret_by (results_got Tryd.results9 _ _ (w.heap.size + 1) zbt (.string ⟨#[]⟩) (.int .i64 1) (by rfl) HR6.out hz (by rfl) (by rfl)) rfl ⟨HLT.out _, B6.out⟩
  · skip
    go_simp
    refine hK.out _ _ ((P1.out.up (up_alloc (Below.refl _ _).drew _)).whole) (fun hHeld => ?_)
    clear hK K
    try simp only [Act.put, List.getElem_toArray, List.getElem_cons_zero, List.getElem_cons_succ, List.setIfInBounds_toArray, List.set_cons_zero, List.set_cons_succ]
    obtain ⟨GG, hGG⟩ : ∃ GG, GG = w1.heap.size := ⟨_, rfl⟩
    have HG : Hid (Has (w1.drew.alloc (.cells zbt.toArray 27)) GG 27 zbt) := Lib.hid (by rw [hGG]; exact Has.make w1.drew 27 zbt)
    have hge : w.heap.size + 2 ≤ GG := by rw [hGG, ← Z1.out]; exact Nat.le_refl _
    rw [← hGG]
    clear hGG
    refine wpAnyH_ready (rs := [1]) (by kernel_rfl) (by simp) (AllReadyH.cons rfl (fun K hK => ?_) AllReadyH.nil)
    go_simp
    refine (CL.out _ (HE.out _ (up_trans B1.out (up_alloc (Below.refl _ _).drew _)))).mono ?_; rintro e wn ⟨A1, n1', c1, rfl, hO, hbn'⟩
    have hbn : Below w1.heap.size w1 wn := up_trans (up_alloc (Below.refl _ _).drew _) hbn'
    have HO : Hid (OwnE w.heap.size (.slice A1 n1' c1) (x :: m) wn) := Lib.hid (hO.mono_base (up_trans B1.out (up_alloc (Below.refl _ _).drew _)).size)
    try replace HG := Lib.hid (HG.out.up hbn')
    clear hO hbn'
    go_wp2_with fail
    refine hK.out _ _ ((P1.out.up hbn).whole) (fun hHeld => ?_)
    clear hK K
    try simp only [Act.put, List.getElem_toArray, List.getElem_cons_zero, List.getElem_cons_succ, List.setIfInBounds_toArray, List.set_cons_zero, List.set_cons_succ]
    refine wpAnyH_take (i := 3) (v := .agg (btc 0 (.slice A1 n1' c1) p).toArray) rfl (by kernel_rfl) (by kernel_rfl) (by kernel_rfl) (fun _ _ _ h => h) (yieldsIf_bat (by rfl) _ _ (by rfl) _ (HBE.out A1 n1' c1)) (by assumption) ?_
    try simp only [Act.put, List.getElem_toArray, List.getElem_cons_zero, List.getElem_cons_succ, List.setIfInBounds_toArray, List.set_cons_zero, List.set_cons_succ]
    refine wpAnyH_ready (rs := [5]) (by kernel_rfl) (by simp) (AllReadyH.cons rfl (fun K hK => ?_) AllReadyH.nil)
    refine wp_store_save 27 _ _ rfl GG 27 zbt (btc 0 (.slice A1 n1' c1) p) (by rfl) (by rfl) HG.out (by rw [HBL.out 0 A1 n1' c1, hz]) (by rw [hi, HBL.out 0 A1 n1' c1]) (HBO.out 0 A1 n1' c1) ?_; intro w3 hF3 s3; have LQ : Hid (Lnq w w3 GG (btc 0 (.slice A1 n1' c1) p) (.slice A1 n1' c1) (x :: m)) := Lib.hid ((Lnq.mk (R1.out.up hbn) HG.out HO.out (up_trans B1.out hbn) hge).store hF3 s3); have HP3 := Lib.hid (s3.has (P1.out.up hbn) (fun e => by omega)); clear hF3 s3
    refine hK.out _ _ (HP3.out.whole) (fun hHeld => ?_)
    clear hK K
    try simp only [Act.put, List.getElem_toArray, List.getElem_cons_zero, List.getElem_cons_succ]
    refine wpAnyH_done (by kernel_rfl) ?_ _
    clear hHeld
    have ce := E0.out _ LQ.out.below
    have cb := LQ.out.bat.at (i := 0) rfl
    have cf := LQ.out.bat.free 0
    have LQ4 := Lib.hid (LQ.out.first q)
    obtain ⟨hn2, hc2, hE2⟩ := LQ4.out.own.slice
    have hnn : n1' = n := hn2.trans HNN.out.symm
    subst hnn
    have HC2 := Lib.hid hc2
    have HE2 := Lib.hid hE2
    clear hn2 hc2 hE2
    have HB4 := HBL.out q A1 n1' c1
    go_wp2_with (refine wpList_load_row rfl 27 _ rfl GG (by rfl) _ _ _ _ LQ4.out.bat hu rfl (by rw [hi, List.size_toArray, HB4]) ?_)
    refine (CP.out A1 n1' c1 HNN.out HC2.out _ HE2.out).mono ?_; rintro e w5 ⟨rfl, b5⟩
    have LQ5 := Lib.hid (LQ4.out.up b5)
    clear b5 ce cb cf
    go_wp2_with (first | (refine wpList_build rfl 27 _ rfl _ HN0.out ?_) | (refine wpList_store_save rfl 27 _ _ rfl (w.heap.size + 1) 27 zbt zbt (by rfl) (by rfl) LQ5.out.res (by rw [hz]) (by rw [hi, hz]) hzo ?_; intro w6 hF6 s6; have HR6 := Lib.hid hF6; have B6 := Lib.hid (LQ5.out.below.trans (s6.below (fun k e => by omega) LQ5.out.below.size)); clear hF6 s6))
    refine bodyPost_ret_by (results_got Tryd.results9 _ _ (w.heap.size + 1) zbt (.string ⟨#[]⟩) (.int .i64 1) (by rfl) HR6.out hz (by rfl) (by rfl)) rfl ⟨HLT.out _, B6.out⟩

theorem link_any : LinkP := by
  intro p l A n cap w hp hs hn hc hm hA
  cases l with
  | nil => exact link_none_any p hp A n cap hn w hA
  | cons x m =>
    obtain ⟨g, o, rfl, _⟩ := hA (by simp)
    cases h : isB x.seq (x :: m) with
    | true => exact link_yes_any p hp x m hs h g o n cap hn hm w hA
    | false => exact link_no_any p hp x m hs h g o n cap hn hm w hA

end Go.Proofs.YthhcopeejhhpgaaDoor
