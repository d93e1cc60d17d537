/- Rows that are linked are checked, and each beginning of them, second part: two pieces. -/
import Derived.Test.YthhcopeejhhpgaaDoorGoesA
namespace Go.Proofs.YthhcopeejhhpgaaDoor
open Go.RowKit Wire Evt Bat Chn

set_option maxHeartbeats 4000000 in
set_option maxRecDepth 100000 in
theorem goes_part (LK : LinkC) (CK : CheckC) (CL : ClashC) (a : List UInt8) (ha : a.length = 32) (evs : List Ev) (hs : ∀ x ∈ evs, x.seq < 18446744073709551616) (A : Option Addr) (n c : Nat) (hn : n = evs.length) (hc : n ≤ c) (zs : List Int) (Z : Option Addr) (m d : Nat) (hm : m = zs.length) (k : Int) (h1 : n ≤ 200) (h2 : m ≤ 30) (h3 : n ≠ 0) (h4 : runL evs = true) (h5 : rws hsh a evs zs ≠ []) (kk : Nat) (hkk : min (max k 0) ((rws hsh a evs zs).length : Int) = (kk : Int)) (hkN : kk < (rws hsh a evs zs).length) (w : World) (hTab : Tab w) (hA : EvSl w A evs) (hZ : ZSl w Z zs) :
    Calls Tryd.prog 6 #[.agg (bys a).toArray, .slice A n c, .slice Z m d, .int .i64 k] w fun e w' => e = .returned (.bool true) ∧ Below w.heap.size w w' := by
  have hdi := info_digest
  have hdu := Tryd.underlying23
  have hal : (bys a).length = 32 := by rw [bys_length, ha]
  have HP := Lib.hid (Has.make w 23 (bys a))
  have B1 := Lib.hid (up_alloc (Below.refl w.heap.size w) (.cells (bys a).toArray 23))
  have HA := Lib.hid (fun W (b : Below w.heap.size w W) => hA.up b)
  have HZ := Lib.hid (fun W (b : Below w.heap.size w W) => hZ.up b)
  have HT := Lib.hid (fun W (b : Below w.heap.size w W) => tab_up hTab b)
  have L9 := Lib.hid (fun w hT => linked_any LK CK CL w hT)
  obtain ⟨E, E1, E2, mid, sum, s, k1, k2, k3, kE, kE0, kE1, kEl, hmid, hsum, hss, hlast, hf64, hE2p⟩ := goes_told ha zs h4 hs (by omega) (fun h => h3 (by rw [hn, h]; rfl)) h5 kk
  have hll := rws_len hsh zs a evs
  have hlb := rws_short hsh_len zs a evs ha hs
  have hNN : 0 < (rws hsh a evs zs).length := List.length_pos_iff.2 h5
  have rn := fun w hA => run_len A evs n c hn (by omega) (by omega) hs w hA
  rw [h4] at rn
  have RN := Lib.hid rn
  have RW := Lib.hid (fun W hT hA hZ => rows_any LK a ha evs hs zs A Z n c m d hn hc hm (by omega) (by omega) W hT hA hZ)
  generalize rws hsh a evs zs = l at *
  obtain ⟨f, hf⟩ : ∃ f, f = headSeq evs := ⟨_, rfl⟩
  have hseq : ∀ W, EvSl W A evs → ∃ g o, A = some ⟨g, o, none⟩ ∧ W.cell? ⟨g, o, none⟩ = some (.int .u64 (f : Nat)) := fun W h => by
    obtain ⟨g, o, rfl, hev⟩ := h (by omega)
    refine ⟨g, o, rfl, ?_⟩
    cases hcs : evs with
    | nil => rw [hcs] at hn; simp at hn; omega
    | cons x q =>
      rw [hcs] at hev hf
      rw [hf]
      show W.cell? _ = some (.int .u64 (x.seq : Nat))
      simpa using hev 0 x rfl 0 (.int .u64 (x.seq : Nat)) rfl
  rw [← hf] at k1 k2 k3 hf64
  obtain ⟨ge, oe, rfl, _⟩ := hseq w hA
  have HQ : Hid (∀ W, Below w.heap.size w W → W.cell? ⟨ge, oe, none⟩ = some (.int .u64 (f : Nat))) := Lib.hid fun W b => by
    obtain ⟨g, o, e, h⟩ := hseq W (hA.up b)
    cases e
    exact h
  obtain ⟨N, hN⟩ : ∃ N, N = l.length := ⟨_, rfl⟩
  obtain ⟨nE, hnE⟩ : ∃ nE, nE = E.length := ⟨_, rfl⟩
  obtain ⟨nB, hnB⟩ : ∃ nB, nB = E1.length := ⟨_, rfl⟩
  rw [← hN] at hkk hNN hkN hlast hll
  have hnEn : nE ≤ n := by omega
  have hnBE : nB ≤ nE := by rw [hnE, kE, List.length_append]; omega
  have C1 := Lib.hid (fun AL cap hc W hT hV => chk_call CK ha hf64 k1 hN hnE (by omega) hlb AL cap hc W hT hV)
  have C2 := Lib.hid (fun AL cap hc W hT hV => chk_call CK ha hf64 k2 (n := kk) (by rw [List.length_take]; omega) hnB (by rw [List.length_take]; omega) (fun s hs => hlb s (List.mem_of_mem_take hs)) AL cap hc W hT hV)
  obtain ⟨nC, hnC⟩ : ∃ nC, nC = E2.length := ⟨_, rfl⟩
  obtain ⟨fn, hfn⟩ : ∃ fn, fn = (f + nB) % 18446744073709551616 := ⟨_, rfl⟩
  rw [← hnB, ← hfn] at k3
  have C3 := Lib.hid (fun AL cap hc W hT hV => chk_call CK hmid (show fn < 18446744073709551616 by omega) k3 (n := N - kk) (by rw [List.length_drop]; omega) hnC (by rw [List.length_drop]; omega) (fun s hs => hlb s (List.mem_of_mem_drop hs)) AL cap hc W hT hV)
  have hnEC : nE = nB + nC := by rw [hnE, kE, List.length_append]; omega
  have hsub : nE - nB = nC := by omega
  have hnC0 : 0 < nC := by rw [hnC]; exact hE2p (by omega)
  have HEC := Lib.hid hnEC
  clear hnEC
  have hmidl : (bys mid).length = 32 := by rw [bys_length, hmid]
  have hmido := bys_one mid
  have hfw : IntKind.u64.wrap ((f : Int) + (nB : Int)) = (fn : Int) := by rw [hfn]; simp only [IntKind.wrap_u64]; omega
  have hbw : IntKind.u64.wrap (nB : Int) = (nB : Int) := by simp [IntKind.wrap, IntKind.bits, IntKind.signed]; omega
  have hsuml : (bys sum).length = 32 := by rw [bys_length, hsum]
  have hsumo := bys_one sum
  have z3 : (bys z32).length = 32 := by rw [bys_length]; rfl
  have OF := Lib.hid (fun W hT => hof_any s (hlb s (List.mem_of_getElem? hlast)) W hT)
  rw [← hss] at OF
  have EQ := eql_dig sum sum hsum hsum
  rw [decide_eq_true rfl] at EQ
  have NQ := neq_dig sum sum hsum hsum
  rw [show (!decide (sum = sum)) = false by simp] at NQ
  have d1 : decide ((n : Int) > 200) = false := by simp; omega
  have d2 : decide ((200 : Int) < (n : Int)) = false := by simp; omega
  have g1 : decide ((m : Int) > 30) = false := by simp; omega
  have g2 : decide ((30 : Int) < (m : Int)) = false := by simp; omega
  have p1 : ((n : Int) == 0) = false := by simp; omega
  have p2 : ((n : Int) != 0) = true := by simp; omega
  have q1 : ((N : Int) == 0) = false := by simp; omega
  have q2 : ((N : Int) != 0) = true := by simp; omega
  have e1 : decide ((nE : Int) > (n : Int)) = false := by simp; omega
  have e2 : decide (((n : Int) : Int) < (nE : Int)) = false := by simp; omega
  have u1 : decide ((nB : Int) > (nE : Int)) = false := by simp; omega
  have u2 : decide (((nE : Int) : Int) < (nB : Int)) = false := by simp; omega
  obtain ⟨NL, hNL⟩ : ∃ NL, NL + 1 = N := ⟨N - 1, by omega⟩
  have hN1 : (N : Int) - 1 = (NL : Int) := by omega
  have hN2 : IntKind.i64.wrap (NL : Int) = (NL : Int) := by simp [IntKind.wrap, IntKind.bits, IntKind.signed]; omega
  have hN3 : IntKind.i64.wrap ((N : Int) - 1) = (NL : Int) := by rw [hN1, hN2]
  have hN4 : NL < N := by omega
  have hN5 : (NL : Int) < (N : Int) := by omega
  rw [show N - 1 = NL by omega] at hlast
  have hidx : (0 : Int) < (n : Int) := by omega
  have hidn : 0 < n := by omega
  have kk1 : (kk : Int) ≤ (N : Int) := by omega
  have lk1 : decide ((kk : Int) < (N : Int)) = true := by simp; omega
  have HL := Lib.hid hlast
  have HN := Lib.hid hN
  have HNE := Lib.hid hnE
  have HNB := Lib.hid hnB
  have HKE := Lib.hid kE
  have HK0 := Lib.hid kE0
  have HK1 := Lib.hid kE1
  have HCN := Lib.hid hc
  have H200 := Lib.hid (show nE ≤ 200 ∧ nB ≤ 200 by omega)
  have HNC := Lib.hid hnC
  clear hTab hA hZ LK CK CL ha hs hn hc hm h1 h2 h3 h4 h5 rn k1 k2 k3 hss hlast hf hf64 hseq hmid hsum hN hnE hnB kE kE0 kE1 kEl hll hlb hE2p hnC hfn
  go_enter Tryd.func6, Tryd.ntmps6
  go_wp2_with fail
  refine (RN.out _ (HA.out _ B1.out)).mono ?_; rintro e wr ⟨rfl, br⟩
  replace HP := Lib.hid (HP.out.up br)
  replace B1 := Lib.hid (up_trans B1.out br)
  clear br
  go_wp2_with (refine wpList_load_row rfl 23 _ rfl w.heap.size (by rfl) _ _ _ _ HP.out hdu rfl (by rw [hdi, List.size_toArray, hal]) ?_)
  refine (RW.out _ (HT.out _ B1.out) (HA.out _ B1.out) (HZ.out _ B1.out)).mono ?_; rintro e w2 ⟨v, rfl, hO, b2⟩
  obtain ⟨AL, cL, rfl, hcL, hSL⟩ := hO.opened
  have SL := Lib.hid (fun W (b : Below w2.heap.size w2 W) => hSL.up b)
  have P2 := Lib.hid (fun W (b : Below w2.heap.size w2 W) => (HP.out.up b2).up b)
  have B2 := Lib.hid (up_trans B1.out b2)
  have Q2 := Lib.hid (fun W (b : Below w2.heap.size w2 W) => HQ.out W (up_trans B2.out b))
  have T2 := Lib.hid (fun W (b : Below w2.heap.size w2 W) => HT.out W (up_trans B2.out b))
  have A2 := Lib.hid (fun W (b : Below w2.heap.size w2 W) => HA.out W (up_trans B2.out b))
  rw [← HN.out] at hcL ⊢
  obtain ⟨gl, ol, rfl, _⟩ := hSL.out (by rw [← HN.out]; omega)
  have X2 : Hid (∀ W, Below w2.heap.size w2 W → W.cell? ⟨gl, ol + NL, none⟩ = some (.string ⟨s.toArray⟩)) := Lib.hid fun W b => by
    obtain ⟨g, o, e, h⟩ := (SL.out W b).out (by rw [← HN.out]; omega)
    cases e
    exact h _ _ HL.out
  have D1 := Lib.hid (fun W (b : Below w2.heap.size w2 W) => C1.out _ cL hcL W (T2.out W b) (SL.out W b))
  have D2 := Lib.hid (fun W (b : Below w2.heap.size w2 W) => C2.out _ cL (show kk ≤ cL by omega) W (T2.out W b) (SL.out W b).take)
  have kc : kk ≤ cL := by omega
  have kc2 : ¬ cL = kk := by omega
  have kc3 : kk ≤ N := by omega
  have D3 := Lib.hid (fun W (b : Below w2.heap.size w2 W) => C3.out _ (cL - kk) (show N - kk ≤ cL - kk by omega) W (T2.out W b) ((SL.out W b).drop (k := kk)))
  have b22 := Lib.hid (Below.refl w2.heap.size w2)
  clear hO hSL b2 HZ HP HQ RN RW B1 HT C1 C2
  go_wp2_with fail
  apply cut_rest
  case h1 =>
    intro REST
    refine wp_region_held_drew (S := fun W => W.rangeAt w.heap.size 0 (bys a) ∧ W.cell? ⟨ge, oe, none⟩ = some (.int .u64 (f : Nat))) (by kernel_rfl) (⟨(P2.out _ b22.out.drew).whole, Q2.out _ b22.out.drew⟩) (fun hHeld => ?_)
    refine wpAnyH_take (i := 0) rfl (by kernel_rfl) (by kernel_rfl) (by kernel_rfl) (fun _ _ _ h => h) (yieldsIf_load_mid (by rfl) _ _ rfl w.heap.size 0 rfl (bys a) _ (fun W h => h.1) hdu rfl (by rw [hdi, hal])) (by assumption) ?_
    try simp only [Act.put, List.getElem_toArray, List.getElem_cons_zero, List.setIfInBounds_toArray, List.set_cons_zero, List.set_cons_succ]
    refine wpAnyH_take (i := 1) (v := ?_) rfl (by kernel_rfl) (by kernel_rfl) (by kernel_rfl) (fun _ _ _ h => h) (Or.inl ⟨by rfl, ?_⟩) (by assumption) ?_
    rotate_left
    · intro w hSw; (try dsimp only at hSw); go_simp; try with_reducible rfl
    try simp only [Act.put, List.getElem_toArray, List.getElem_cons_zero, List.getElem_cons_succ, List.setIfInBounds_toArray, List.set_cons_zero, List.set_cons_succ]
    refine wpAnyH_take (i := 2) (v := ?_) rfl (by kernel_rfl) (by kernel_rfl) (by kernel_rfl) (fun _ _ _ h => h) (Or.inl ⟨by rfl, ?_⟩) (by assumption) ?_
    rotate_left
    · intro w hSw; (try dsimp only at hSw); go_simp; try with_reducible rfl
    try simp only [Act.put, List.getElem_toArray, List.getElem_cons_zero, List.getElem_cons_succ, List.setIfInBounds_toArray, List.set_cons_zero, List.set_cons_succ]
    refine wpAnyH_take (i := 3) (v := ?_) rfl (by kernel_rfl) (by kernel_rfl) (by kernel_rfl) (fun _ _ _ h => h) (Or.inl ⟨by rfl, ?_⟩) (by assumption) ?_
    rotate_left
    · intro w hSw; (try dsimp only at hSw); go_simp; try with_reducible rfl
    try simp only [Act.put, List.getElem_toArray, List.getElem_cons_zero, List.getElem_cons_succ, List.setIfInBounds_toArray, List.set_cons_zero, List.set_cons_succ]
    refine wpAnyH_take (i := 4) (v := ?_) rfl (by kernel_rfl) (by kernel_rfl) (by kernel_rfl) (fun _ _ _ h => h) (Or.inl ⟨by rfl, ?_⟩) (by assumption) ?_
    rotate_left
    · intro w hSw; (try dsimp only at hSw); go_simp; try with_reducible rfl
    try simp only [Act.put, List.getElem_toArray, List.getElem_cons_zero, List.getElem_cons_succ, List.setIfInBounds_toArray, List.set_cons_zero, List.set_cons_succ]
    refine wpAnyH_take (i := 5) (v := ?_) rfl (by kernel_rfl) (by kernel_rfl) (by kernel_rfl) (fun _ _ _ h => h) (Or.inl ⟨by rfl, ?_⟩) (by assumption) ?_
    rotate_left
    · intro w hSw; (try dsimp only at hSw); go_simp; try with_reducible rfl
    try simp only [Act.put, List.getElem_toArray, List.getElem_cons_zero, List.getElem_cons_succ, List.setIfInBounds_toArray, List.set_cons_zero, List.set_cons_succ]
    refine wpAnyH_ready (rs := [6, 11]) (by kernel_rfl) (by simp) (AllReadyH.cons rfl (fun K hK => ?_) (AllReadyH.cons rfl (fun K hK => ?_) AllReadyH.nil))
    · skip
      go_simp
      refine (D1.out _ (up_trans b22.out (Below.refl _ _).drew)).mono ?_; rintro e wn ⟨Aa, ca, rfl, hc', hO', hbn'⟩
      have hbn : Below w2.heap.size w2 wn := up_trans (Below.refl _ _).drew hbn'
      have HO : Hid (OwnE w2.heap.size (.slice Aa nE ca) E wn) := Lib.hid (hO'.mono_base (Below.size (B := w2.heap.size) (Below.refl _ _).drew))
      have HC := Lib.hid hc'
      try replace HG := Lib.hid (HG.out.up hbn')
      clear hO' hbn' hc'
      go_wp2_with fail
      refine hK.out _ _ (⟨(P2.out _ (up_trans b22.out hbn)).whole, Q2.out _ (up_trans b22.out hbn)⟩) (fun hHeld => ?_)
      clear hK K
      try simp only [Act.put, List.getElem_toArray, List.getElem_cons_zero, List.getElem_cons_succ, List.setIfInBounds_toArray, List.set_cons_zero, List.set_cons_succ]
      refine wpAnyH_take (i := 7) (v := ?_) rfl (by kernel_rfl) (by kernel_rfl) (by kernel_rfl) (fun _ _ _ h => h) (Or.inl ⟨by rfl, ?_⟩) (by assumption) ?_
      rotate_left
      · intro w hSw; (try dsimp only at hSw); go_simp; try with_reducible rfl
      try simp only [Act.put, List.getElem_toArray, List.getElem_cons_zero, List.getElem_cons_succ, List.setIfInBounds_toArray, List.set_cons_zero, List.set_cons_succ]
      refine wpAnyH_take (i := 8) (v := ?_) rfl (by kernel_rfl) (by kernel_rfl) (by kernel_rfl) (fun _ _ _ h => h) (Or.inl ⟨by rfl, ?_⟩) (by assumption) ?_
      rotate_left
      · intro w hSw; (try dsimp only at hSw); go_simp; try with_reducible rfl
      try simp only [Act.put, List.getElem_toArray, List.getElem_cons_zero, List.getElem_cons_succ, List.setIfInBounds_toArray, List.set_cons_zero, List.set_cons_succ]
      refine wpAnyH_take (i := 9) (v := ?_) rfl (by kernel_rfl) (by kernel_rfl) (by kernel_rfl) (fun _ _ _ h => h) (Or.inl ⟨by rfl, ?_⟩) (by assumption) ?_
      rotate_left
      · intro w hSw; (try dsimp only at hSw); go_simp; try with_reducible rfl
      try simp only [Act.put, List.getElem_toArray, List.getElem_cons_zero, List.getElem_cons_succ, List.setIfInBounds_toArray, List.set_cons_zero, List.set_cons_succ]
      refine wpAnyH_take (i := 10) (v := ?_) rfl (by kernel_rfl) (by kernel_rfl) (by kernel_rfl) (fun _ _ _ h => h) (Or.inl ⟨by rfl, ?_⟩) (by assumption) ?_
      rotate_left
      · intro w hSw; (try dsimp only at hSw); go_simp; try with_reducible rfl
      try simp only [Act.put, List.getElem_toArray, List.getElem_cons_zero, List.getElem_cons_succ, List.setIfInBounds_toArray, List.set_cons_zero, List.set_cons_succ]
      refine wpAnyH_ready (rs := [11]) (by kernel_rfl) (by simp) (AllReadyH.cons rfl (fun K hK => ?_) AllReadyH.nil)
      go_simp
      refine hK.out _ _ (⟨(P2.out _ (up_trans b22.out (up_alloc hbn _))).whole, Q2.out _ (up_trans b22.out (up_alloc hbn _))⟩) (fun hHeld => ?_)
      clear hK K
      try simp only [Act.put, List.getElem_toArray, List.getElem_cons_zero, List.getElem_cons_succ, List.setIfInBounds_toArray, List.set_cons_zero, List.set_cons_succ]
      obtain ⟨GG, hGG⟩ : ∃ GG, GG = wn.heap.size := ⟨_, rfl⟩
      have HG : Hid (Has (wn.alloc (.cells (bys z32).toArray 23)) GG 23 (bys z32)) := Lib.hid (by rw [hGG]; exact Has.make wn 23 (bys z32))
      have hge : w2.heap.size ≤ GG := by rw [hGG]; exact hbn.size
      rw [← hGG]
      clear hGG
      replace hbn : Below w2.heap.size w2 (wn.alloc (.cells (bys z32).toArray 23)) := up_alloc hbn _
      replace HO := Lib.hid (HO.out.alloc (.cells (bys z32).toArray 23))
      refine wpAnyH_take (i := 12) (v := ?_) rfl (by kernel_rfl) (by kernel_rfl) (by kernel_rfl) (fun _ _ _ h => h) (Or.inl ⟨by rfl, ?_⟩) (by assumption) ?_
      rotate_left
      · intro w hSw; (try dsimp only at hSw); go_simp; try with_reducible rfl
      try simp only [Act.put, List.getElem_toArray, List.getElem_cons_zero, List.getElem_cons_succ, List.setIfInBounds_toArray, List.set_cons_zero, List.set_cons_succ]
      refine wpAnyH_ready (rs := [13]) (by kernel_rfl) (by simp) (AllReadyH.cons rfl (fun K hK => ?_) AllReadyH.nil)
      refine wp_store_save 23 _ _ rfl GG 23 (bys z32) (bys sum) (by rfl) (by rfl) HG.out (by rw [hsuml, z3]) (by rw [hdi, hsuml]) hsumo ?_; intro wa hF4 s4; have FA : Hid (Fx w2 wa GG sum (.slice Aa nE ca) E ∧ nE ≤ ca) := Lib.hid ⟨⟨hF4, HO.out.save s4 (fun k hk e => Typ.ne HG.out (by decide) (e ▸ hk)), hbn.trans (s4.below (fun k e => by omega) hbn.size), hge⟩, HC.out⟩; clear hF4 s4
      refine hK.out _ _ (⟨(P2.out _ (up_trans b22.out FA.out.1.below)).whole, Q2.out _ (up_trans b22.out FA.out.1.below)⟩) (fun hHeld => ?_)
      clear hK K
      try simp only [Act.put, List.getElem_toArray, List.getElem_cons_zero, List.getElem_cons_succ]
      refine wpAnyH_take (i := 14) (v := ?_) rfl (by kernel_rfl) (by kernel_rfl) (by kernel_rfl) (fun _ _ _ h => h) (Or.inl ⟨by rfl, ?_⟩) (by assumption) ?_
      rotate_left
      · intro w hSw; (try dsimp only at hSw); go_simp; try with_reducible rfl
      try simp only [Act.put, List.getElem_toArray, List.getElem_cons_zero, List.getElem_cons_succ, List.setIfInBounds_toArray, List.set_cons_zero, List.set_cons_succ]
      refine wpAnyH_done (by kernel_rfl) ?_ _
      clear hHeld hbn HG HO HC hge
      revert FA
      revert ca
      revert Aa
      revert wa
      revert GG
      exact REST
    · skip
      go_simp
      refine hK.out _ _ (⟨(P2.out _ (up_trans b22.out (up_alloc (Below.refl _ _).drew _))).whole, Q2.out _ (up_trans b22.out (up_alloc (Below.refl _ _).drew _))⟩) (fun hHeld => ?_)
      clear hK K
      try simp only [Act.put, List.getElem_toArray, List.getElem_cons_zero, List.getElem_cons_succ, List.setIfInBounds_toArray, List.set_cons_zero, List.set_cons_succ]
      obtain ⟨GG, hGG⟩ : ∃ GG, GG = w2.heap.size := ⟨_, rfl⟩
      have HG : Hid (Has (w2.drew.alloc (.cells (bys z32).toArray 23)) GG 23 (bys z32)) := Lib.hid (by rw [hGG]; exact Has.make w2.drew 23 (bys z32))
      have hge : w2.heap.size ≤ GG := by rw [hGG]; exact Nat.le_refl _
      rw [← hGG]
      clear hGG
      refine wpAnyH_ready (rs := [6]) (by kernel_rfl) (by simp) (AllReadyH.cons rfl (fun K hK => ?_) AllReadyH.nil)
      go_simp
      refine (D1.out _ (up_trans b22.out (up_alloc (Below.refl _ _).drew _))).mono ?_; rintro e wn ⟨Aa, ca, rfl, hc', hO', hbn'⟩
      have hbn : Below w2.heap.size w2 wn := up_trans (up_alloc (Below.refl _ _).drew _) hbn'
      have HO : Hid (OwnE w2.heap.size (.slice Aa nE ca) E wn) := Lib.hid (hO'.mono_base (Below.size (B := w2.heap.size) (up_alloc (Below.refl _ _).drew _)))
      have HC := Lib.hid hc'
      try replace HG := Lib.hid (HG.out.up hbn')
      clear hO' hbn' hc'
      go_wp2_with fail
      refine hK.out _ _ (⟨(P2.out _ (up_trans b22.out hbn)).whole, Q2.out _ (up_trans b22.out hbn)⟩) (fun hHeld => ?_)
      clear hK K
      try simp only [Act.put, List.getElem_toArray, List.getElem_cons_zero, List.getElem_cons_succ, List.setIfInBounds_toArray, List.set_cons_zero, List.set_cons_succ]
      refine wpAnyH_take (i := 7) (v := ?_) rfl (by kernel_rfl) (by kernel_rfl) (by kernel_rfl) (fun _ _ _ h => h) (Or.inl ⟨by rfl, ?_⟩) (by assumption) ?_
      rotate_left
      · intro w hSw; (try dsimp only at hSw); go_simp; try with_reducible rfl
      try simp only [Act.put, List.getElem_toArray, List.getElem_cons_zero, List.getElem_cons_succ, List.setIfInBounds_toArray, List.set_cons_zero, List.set_cons_succ]
      refine wpAnyH_take (i := 8) (v := ?_) rfl (by kernel_rfl) (by kernel_rfl) (by kernel_rfl) (fun _ _ _ h => h) (Or.inl ⟨by rfl, ?_⟩) (by assumption) ?_
      rotate_left
      · intro w hSw; (try dsimp only at hSw); go_simp; try with_reducible rfl
      try simp only [Act.put, List.getElem_toArray, List.getElem_cons_zero, List.getElem_cons_succ, List.setIfInBounds_toArray, List.set_cons_zero, List.set_cons_succ]
      refine wpAnyH_take (i := 9) (v := ?_) rfl (by kernel_rfl) (by kernel_rfl) (by kernel_rfl) (fun _ _ _ h => h) (Or.inl ⟨by rfl, ?_⟩) (by assumption) ?_
      rotate_left
      · intro w hSw; (try dsimp only at hSw); go_simp; try with_reducible rfl
      try simp only [Act.put, List.getElem_toArray, List.getElem_cons_zero, List.getElem_cons_succ, List.setIfInBounds_toArray, List.set_cons_zero, List.set_cons_succ]
      refine wpAnyH_take (i := 10) (v := ?_) rfl (by kernel_rfl) (by kernel_rfl) (by kernel_rfl) (fun _ _ _ h => h) (Or.inl ⟨by rfl, ?_⟩) (by assumption) ?_
      rotate_left
      · intro w hSw; (try dsimp only at hSw); go_simp; try with_reducible rfl
      try simp only [Act.put, List.getElem_toArray, List.getElem_cons_zero, List.getElem_cons_succ, List.setIfInBounds_toArray, List.set_cons_zero, List.set_cons_succ]
      refine wpAnyH_take (i := 12) (v := ?_) rfl (by kernel_rfl) (by kernel_rfl) (by kernel_rfl) (fun _ _ _ h => h) (Or.inl ⟨by rfl, ?_⟩) (by assumption) ?_
      rotate_left
      · intro w hSw; (try dsimp only at hSw); go_simp; try with_reducible rfl
      try simp only [Act.put, List.getElem_toArray, List.getElem_cons_zero, List.getElem_cons_succ, List.setIfInBounds_toArray, List.set_cons_zero, List.set_cons_succ]
      refine wpAnyH_ready (rs := [13]) (by kernel_rfl) (by simp) (AllReadyH.cons rfl (fun K hK => ?_) AllReadyH.nil)
      refine wp_store_save 23 _ _ rfl GG 23 (bys z32) (bys sum) (by rfl) (by rfl) HG.out (by rw [hsuml, z3]) (by rw [hdi, hsuml]) hsumo ?_; intro wa hF4 s4; have FA : Hid (Fx w2 wa GG sum (.slice Aa nE ca) E ∧ nE ≤ ca) := Lib.hid ⟨⟨hF4, HO.out.save s4 (fun k hk e => Typ.ne HG.out (by decide) (e ▸ hk)), hbn.trans (s4.below (fun k e => by omega) hbn.size), hge⟩, HC.out⟩; clear hF4 s4
      refine hK.out _ _ (⟨(P2.out _ (up_trans b22.out FA.out.1.below)).whole, Q2.out _ (up_trans b22.out FA.out.1.below)⟩) (fun hHeld => ?_)
      clear hK K
      try simp only [Act.put, List.getElem_toArray, List.getElem_cons_zero, List.getElem_cons_succ]
      refine wpAnyH_take (i := 14) (v := ?_) rfl (by kernel_rfl) (by kernel_rfl) (by kernel_rfl) (fun _ _ _ h => h) (Or.inl ⟨by rfl, ?_⟩) (by assumption) ?_
      rotate_left
      · intro w hSw; (try dsimp only at hSw); go_simp; try with_reducible rfl
      try simp only [Act.put, List.getElem_toArray, List.getElem_cons_zero, List.getElem_cons_succ, List.setIfInBounds_toArray, List.set_cons_zero, List.set_cons_succ]
      refine wpAnyH_done (by kernel_rfl) ?_ _
      clear hHeld hbn HG HO HC hge
      revert FA
      revert ca
      revert Aa
      revert wa
      revert GG
      exact REST
  case h2 =>
    intro G1 wa Aa ca FA
    have ba := FA.out.1.below
    have Ba := Lib.hid ba
    clear ba
    go_wp2_with fail
    apply cut_rest
    case h1 =>
      intro REST
      refine wp_region_held_drew (S := fun W => W.rangeAt w.heap.size 0 (bys a) ∧ W.cell? ⟨ge, oe, none⟩ = some (.int .u64 (f : Nat))) (by kernel_rfl) (⟨(P2.out _ Ba.out.drew).whole, Q2.out _ Ba.out.drew⟩) (fun hHeld => ?_)
      refine wpAnyH_take (i := 0) rfl (by kernel_rfl) (by kernel_rfl) (by kernel_rfl) (fun _ _ _ h => h) (yieldsIf_load_mid (by rfl) _ _ rfl w.heap.size 0 rfl (bys a) _ (fun W h => h.1) hdu rfl (by rw [hdi, hal])) (by assumption) ?_
      try simp only [Act.put, List.getElem_toArray, List.getElem_cons_zero, List.setIfInBounds_toArray, List.set_cons_zero, List.set_cons_succ]
      refine wpAnyH_take (i := 1) (v := ?_) rfl (by kernel_rfl) (by kernel_rfl) (by kernel_rfl) (fun _ _ _ h => h) (Or.inl ⟨by rfl, ?_⟩) (by assumption) ?_
      rotate_left
      · intro w hSw; (try dsimp only at hSw); go_simp; try with_reducible rfl
      try simp only [Act.put, List.getElem_toArray, List.getElem_cons_zero, List.getElem_cons_succ, List.setIfInBounds_toArray, List.set_cons_zero, List.set_cons_succ]
      refine wpAnyH_take (i := 2) (v := ?_) rfl (by kernel_rfl) (by kernel_rfl) (by kernel_rfl) (fun _ _ _ h => h) (Or.inl ⟨by rfl, ?_⟩) (by assumption) ?_
      rotate_left
      · intro w hSw; (try dsimp only at hSw); go_simp; try with_reducible rfl
      try simp only [Act.put, List.getElem_toArray, List.getElem_cons_zero, List.getElem_cons_succ, List.setIfInBounds_toArray, List.set_cons_zero, List.set_cons_succ]
      refine wpAnyH_take (i := 3) (v := ?_) rfl (by kernel_rfl) (by kernel_rfl) (by kernel_rfl) (fun _ _ _ h => h) (Or.inl ⟨by rfl, ?_⟩) (by assumption) ?_
      rotate_left
      · intro w hSw; (try dsimp only at hSw); go_simp; try with_reducible rfl
      try simp only [Act.put, List.getElem_toArray, List.getElem_cons_zero, List.getElem_cons_succ, List.setIfInBounds_toArray, List.set_cons_zero, List.set_cons_succ]
      refine wpAnyH_take (i := 4) (v := ?_) rfl (by kernel_rfl) (by kernel_rfl) (by kernel_rfl) (fun _ _ _ h => h) (Or.inl ⟨by rfl, ?_⟩) (by assumption) ?_
      rotate_left
      · intro w hSw; (try dsimp only at hSw); go_simp; try with_reducible rfl
      try simp only [Act.put, List.getElem_toArray, List.getElem_cons_zero, List.getElem_cons_succ, List.setIfInBounds_toArray, List.set_cons_zero, List.set_cons_succ]
      refine wpAnyH_take (i := 5) (v := ?_) rfl (by kernel_rfl) (by kernel_rfl) (by kernel_rfl) (fun _ _ _ h => h) (Or.inl ⟨by rfl, ?_⟩) (by assumption) ?_
      rotate_left
      · intro w hSw; (try dsimp only at hSw); go_simp; try with_reducible rfl
      try simp only [Act.put, List.getElem_toArray, List.getElem_cons_zero, List.getElem_cons_succ, List.setIfInBounds_toArray, List.set_cons_zero, List.set_cons_succ]
      refine wpAnyH_take (i := 6) (v := ?_) rfl (by kernel_rfl) (by kernel_rfl) (by kernel_rfl) (fun _ _ _ h => h) (Or.inl ⟨by rfl, ?_⟩) (by assumption) ?_
      rotate_left
      · intro w hSw; (try dsimp only at hSw); go_simp; try with_reducible rfl
      try simp only [Act.put, List.getElem_toArray, List.getElem_cons_zero, List.getElem_cons_succ, List.setIfInBounds_toArray, List.set_cons_zero, List.set_cons_succ]
      refine wpAnyH_take (i := 7) (v := ?_) rfl (by kernel_rfl) (by kernel_rfl) (by kernel_rfl) (fun _ _ _ h => h) (Or.inl ⟨by rfl, ?_⟩) (by assumption) ?_
      rotate_left
      · intro w hSw; (try dsimp only at hSw); go_simp; try with_reducible rfl
      try simp only [Act.put, List.getElem_toArray, List.getElem_cons_zero, List.getElem_cons_succ, List.setIfInBounds_toArray, List.set_cons_zero, List.set_cons_succ]
      refine wpAnyH_ready (rs := [8, 13]) (by kernel_rfl) (by simp) (AllReadyH.cons rfl (fun K hK => ?_) (AllReadyH.cons rfl (fun K hK => ?_) AllReadyH.nil))
      · skip
        go_simp
        refine (D2.out _ (up_trans Ba.out (Below.refl _ _).drew)).mono ?_; rintro e wn ⟨Ab, cb, rfl, hc', hO', hbn'⟩
        have hbn : Below wa.heap.size wa wn := up_trans (Below.refl _ _).drew hbn'
        have HO : Hid (OwnE wa.heap.size (.slice Ab nB cb) E1 wn) := Lib.hid (hO'.mono_base (Below.size (B := wa.heap.size) (Below.refl _ _).drew))
        have HC := Lib.hid hc'
        try replace HG := Lib.hid (HG.out.up hbn')
        clear hO' hbn' hc'
        go_wp2_with fail
        refine hK.out _ _ (⟨(P2.out _ (up_trans Ba.out hbn)).whole, Q2.out _ (up_trans Ba.out hbn)⟩) (fun hHeld => ?_)
        clear hK K
        try simp only [Act.put, List.getElem_toArray, List.getElem_cons_zero, List.getElem_cons_succ, List.setIfInBounds_toArray, List.set_cons_zero, List.set_cons_succ]
        refine wpAnyH_take (i := 9) (v := ?_) rfl (by kernel_rfl) (by kernel_rfl) (by kernel_rfl) (fun _ _ _ h => h) (Or.inl ⟨by rfl, ?_⟩) (by assumption) ?_
        rotate_left
        · intro w hSw; (try dsimp only at hSw); go_simp; try with_reducible rfl
        try simp only [Act.put, List.getElem_toArray, List.getElem_cons_zero, List.getElem_cons_succ, List.setIfInBounds_toArray, List.set_cons_zero, List.set_cons_succ]
        refine wpAnyH_take (i := 10) (v := ?_) rfl (by kernel_rfl) (by kernel_rfl) (by kernel_rfl) (fun _ _ _ h => h) (Or.inl ⟨by rfl, ?_⟩) (by assumption) ?_
        rotate_left
        · intro w hSw; (try dsimp only at hSw); go_simp; try with_reducible rfl
        try simp only [Act.put, List.getElem_toArray, List.getElem_cons_zero, List.getElem_cons_succ, List.setIfInBounds_toArray, List.set_cons_zero, List.set_cons_succ]
        refine wpAnyH_take (i := 11) (v := ?_) rfl (by kernel_rfl) (by kernel_rfl) (by kernel_rfl) (fun _ _ _ h => h) (Or.inl ⟨by rfl, ?_⟩) (by assumption) ?_
        rotate_left
        · intro w hSw; (try dsimp only at hSw); go_simp; try with_reducible rfl
        try simp only [Act.put, List.getElem_toArray, List.getElem_cons_zero, List.getElem_cons_succ, List.setIfInBounds_toArray, List.set_cons_zero, List.set_cons_succ]
        refine wpAnyH_take (i := 12) (v := ?_) rfl (by kernel_rfl) (by kernel_rfl) (by kernel_rfl) (fun _ _ _ h => h) (Or.inl ⟨by rfl, ?_⟩) (by assumption) ?_
        rotate_left
        · intro w hSw; (try dsimp only at hSw); go_simp; try with_reducible rfl
        try simp only [Act.put, List.getElem_toArray, List.getElem_cons_zero, List.getElem_cons_succ, List.setIfInBounds_toArray, List.set_cons_zero, List.set_cons_succ]
        refine wpAnyH_ready (rs := [13]) (by kernel_rfl) (by simp) (AllReadyH.cons rfl (fun K hK => ?_) AllReadyH.nil)
        go_simp
        refine hK.out _ _ (⟨(P2.out _ (up_trans Ba.out (up_alloc hbn _))).whole, Q2.out _ (up_trans Ba.out (up_alloc hbn _))⟩) (fun hHeld => ?_)
        clear hK K
        try simp only [Act.put, List.getElem_toArray, List.getElem_cons_zero, List.getElem_cons_succ, List.setIfInBounds_toArray, List.set_cons_zero, List.set_cons_succ]
        obtain ⟨GG, hGG⟩ : ∃ GG, GG = wn.heap.size := ⟨_, rfl⟩
        have HG : Hid (Has (wn.alloc (.cells (bys z32).toArray 23)) GG 23 (bys z32)) := Lib.hid (by rw [hGG]; exact Has.make wn 23 (bys z32))
        have hge : wa.heap.size ≤ GG := by rw [hGG]; exact hbn.size
        rw [← hGG]
        clear hGG
        replace hbn : Below wa.heap.size wa (wn.alloc (.cells (bys z32).toArray 23)) := up_alloc hbn _
        replace HO := Lib.hid (HO.out.alloc (.cells (bys z32).toArray 23))
        refine wpAnyH_take (i := 14) (v := ?_) rfl (by kernel_rfl) (by kernel_rfl) (by kernel_rfl) (fun _ _ _ h => h) (Or.inl ⟨by rfl, ?_⟩) (by assumption) ?_
        rotate_left
        · intro w hSw; (try dsimp only at hSw); go_simp; try with_reducible rfl
        try simp only [Act.put, List.getElem_toArray, List.getElem_cons_zero, List.getElem_cons_succ, List.setIfInBounds_toArray, List.set_cons_zero, List.set_cons_succ]
        refine wpAnyH_ready (rs := [15]) (by kernel_rfl) (by simp) (AllReadyH.cons rfl (fun K hK => ?_) AllReadyH.nil)
        refine wp_store_save 23 _ _ rfl GG 23 (bys z32) (bys mid) (by rfl) (by rfl) HG.out (by rw [hmidl, z3]) (by rw [hdi, hmidl]) hmido ?_; intro wb hF4 s4; have FB : Hid (Fx wa wb GG mid (.slice Ab nB cb) E1 ∧ nB ≤ cb) := Lib.hid ⟨⟨hF4, HO.out.save s4 (fun k hk e => Typ.ne HG.out (by decide) (e ▸ hk)), hbn.trans (s4.below (fun k e => by omega) hbn.size), hge⟩, HC.out⟩; clear hF4 s4
        refine hK.out _ _ (⟨(P2.out _ (up_trans Ba.out FB.out.1.below)).whole, Q2.out _ (up_trans Ba.out FB.out.1.below)⟩) (fun hHeld => ?_)
        clear hK K
        try simp only [Act.put, List.getElem_toArray, List.getElem_cons_zero, List.getElem_cons_succ]
        refine wpAnyH_take (i := 16) (v := ?_) rfl (by kernel_rfl) (by kernel_rfl) (by kernel_rfl) (fun _ _ _ h => h) (Or.inl ⟨by rfl, ?_⟩) (by assumption) ?_
        rotate_left
        · intro w hSw; (try dsimp only at hSw); go_simp; try with_reducible rfl
        try simp only [Act.put, List.getElem_toArray, List.getElem_cons_zero, List.getElem_cons_succ, List.setIfInBounds_toArray, List.set_cons_zero, List.set_cons_succ]
        refine wpAnyH_done (by kernel_rfl) ?_ _
        clear hHeld hbn HG HO HC hge
        revert FB
        revert cb
        revert Ab
        revert wb
        revert GG
        exact REST
      · skip
        go_simp
        refine hK.out _ _ (⟨(P2.out _ (up_trans Ba.out (up_alloc (Below.refl _ _).drew _))).whole, Q2.out _ (up_trans Ba.out (up_alloc (Below.refl _ _).drew _))⟩) (fun hHeld => ?_)
        clear hK K
        try simp only [Act.put, List.getElem_toArray, List.getElem_cons_zero, List.getElem_cons_succ, List.setIfInBounds_toArray, List.set_cons_zero, List.set_cons_succ]
        obtain ⟨GG, hGG⟩ : ∃ GG, GG = wa.heap.size := ⟨_, rfl⟩
        have HG : Hid (Has (wa.drew.alloc (.cells (bys z32).toArray 23)) GG 23 (bys z32)) := Lib.hid (by rw [hGG]; exact Has.make wa.drew 23 (bys z32))
        have hge : wa.heap.size ≤ GG := by rw [hGG]; exact Nat.le_refl _
        rw [← hGG]
        clear hGG
        refine wpAnyH_ready (rs := [8]) (by kernel_rfl) (by simp) (AllReadyH.cons rfl (fun K hK => ?_) AllReadyH.nil)
        go_simp
        refine (D2.out _ (up_trans Ba.out (up_alloc (Below.refl _ _).drew _))).mono ?_; rintro e wn ⟨Ab, cb, rfl, hc', hO', hbn'⟩
        have hbn : Below wa.heap.size wa wn := up_trans (up_alloc (Below.refl _ _).drew _) hbn'
        have HO : Hid (OwnE wa.heap.size (.slice Ab nB cb) E1 wn) := Lib.hid (hO'.mono_base (Below.size (B := wa.heap.size) (up_alloc (Below.refl _ _).drew _)))
        have HC := Lib.hid hc'
        try replace HG := Lib.hid (HG.out.up hbn')
        clear hO' hbn' hc'
        go_wp2_with fail
        refine hK.out _ _ (⟨(P2.out _ (up_trans Ba.out hbn)).whole, Q2.out _ (up_trans Ba.out hbn)⟩) (fun hHeld => ?_)
        clear hK K
        try simp only [Act.put, List.getElem_toArray, List.getElem_cons_zero, List.getElem_cons_succ, List.setIfInBounds_toArray, List.set_cons_zero, List.set_cons_succ]
        refine wpAnyH_take (i := 9) (v := ?_) rfl (by kernel_rfl) (by kernel_rfl) (by kernel_rfl) (fun _ _ _ h => h) (Or.inl ⟨by rfl, ?_⟩) (by assumption) ?_
        rotate_left
        · intro w hSw; (try dsimp only at hSw); go_simp; try with_reducible rfl
        try simp only [Act.put, List.getElem_toArray, List.getElem_cons_zero, List.getElem_cons_succ, List.setIfInBounds_toArray, List.set_cons_zero, List.set_cons_succ]
        refine wpAnyH_take (i := 10) (v := ?_) rfl (by kernel_rfl) (by kernel_rfl) (by kernel_rfl) (fun _ _ _ h => h) (Or.inl ⟨by rfl, ?_⟩) (by assumption) ?_
        rotate_left
        · intro w hSw; (try dsimp only at hSw); go_simp; try with_reducible rfl
        try simp only [Act.put, List.getElem_toArray, List.getElem_cons_zero, List.getElem_cons_succ, List.setIfInBounds_toArray, List.set_cons_zero, List.set_cons_succ]
        refine wpAnyH_take (i := 11) (v := ?_) rfl (by kernel_rfl) (by kernel_rfl) (by kernel_rfl) (fun _ _ _ h => h) (Or.inl ⟨by rfl, ?_⟩) (by assumption) ?_
        rotate_left
        · intro w hSw; (try dsimp only at hSw); go_simp; try with_reducible rfl
        try simp only [Act.put, List.getElem_toArray, List.getElem_cons_zero, List.getElem_cons_succ, List.setIfInBounds_toArray, List.set_cons_zero, List.set_cons_succ]
        refine wpAnyH_take (i := 12) (v := ?_) rfl (by kernel_rfl) (by kernel_rfl) (by kernel_rfl) (fun _ _ _ h => h) (Or.inl ⟨by rfl, ?_⟩) (by assumption) ?_
        rotate_left
        · intro w hSw; (try dsimp only at hSw); go_simp; try with_reducible rfl
        try simp only [Act.put, List.getElem_toArray, List.getElem_cons_zero, List.getElem_cons_succ, List.setIfInBounds_toArray, List.set_cons_zero, List.set_cons_succ]
        refine wpAnyH_take (i := 14) (v := ?_) rfl (by kernel_rfl) (by kernel_rfl) (by kernel_rfl) (fun _ _ _ h => h) (Or.inl ⟨by rfl, ?_⟩) (by assumption) ?_
        rotate_left
        · intro w hSw; (try dsimp only at hSw); go_simp; try with_reducible rfl
        try simp only [Act.put, List.getElem_toArray, List.getElem_cons_zero, List.getElem_cons_succ, List.setIfInBounds_toArray, List.set_cons_zero, List.set_cons_succ]
        refine wpAnyH_ready (rs := [15]) (by kernel_rfl) (by simp) (AllReadyH.cons rfl (fun K hK => ?_) AllReadyH.nil)
        refine wp_store_save 23 _ _ rfl GG 23 (bys z32) (bys mid) (by rfl) (by rfl) HG.out (by rw [hmidl, z3]) (by rw [hdi, hmidl]) hmido ?_; intro wb hF4 s4; have FB : Hid (Fx wa wb GG mid (.slice Ab nB cb) E1 ∧ nB ≤ cb) := Lib.hid ⟨⟨hF4, HO.out.save s4 (fun k hk e => Typ.ne HG.out (by decide) (e ▸ hk)), hbn.trans (s4.below (fun k e => by omega) hbn.size), hge⟩, HC.out⟩; clear hF4 s4
        refine hK.out _ _ (⟨(P2.out _ (up_trans Ba.out FB.out.1.below)).whole, Q2.out _ (up_trans Ba.out FB.out.1.below)⟩) (fun hHeld => ?_)
        clear hK K
        try simp only [Act.put, List.getElem_toArray, List.getElem_cons_zero, List.getElem_cons_succ]
        refine wpAnyH_take (i := 16) (v := ?_) rfl (by kernel_rfl) (by kernel_rfl) (by kernel_rfl) (fun _ _ _ h => h) (Or.inl ⟨by rfl, ?_⟩) (by assumption) ?_
        rotate_left
        · intro w hSw; (try dsimp only at hSw); go_simp; try with_reducible rfl
        try simp only [Act.put, List.getElem_toArray, List.getElem_cons_zero, List.getElem_cons_succ, List.setIfInBounds_toArray, List.set_cons_zero, List.set_cons_succ]
        refine wpAnyH_done (by kernel_rfl) ?_ _
        clear hHeld hbn HG HO HC hge
        revert FB
        revert cb
        revert Ab
        revert wb
        revert GG
        exact REST
    case h2 =>
      intro G2 wb Ab cb FB
      have Bb := Lib.hid (up_trans Ba.out FB.out.1.below)
      have S1 : Hid (∀ W, Below wb.heap.size wb W → Has W G1 23 (bys sum)) := Lib.hid fun W b => (FA.out.1.has.up FB.out.1.below).up b
      have OA : Hid (∀ W, Below wb.heap.size wb W → EvSl W Aa E) := Lib.hid fun W b => ((FA.out.1.own.up FB.out.1.below).up b).slice.2.2
      have OB : Hid (∀ W, Below wb.heap.size wb W → EvSl W Ab E1) := Lib.hid fun W b => (FB.out.1.own.up b).slice.2.2
      have hEa := FA.out.2
      have hEb := FB.out.2
      have i1 : (nE : Int) ≤ (c : Int) := by have := HCN.out; omega
      have i2 : (nB : Int) ≤ (c : Int) := by have := HCN.out; omega
      replace Q2 := Lib.hid (fun W (b : Below wb.heap.size wb W) => Q2.out W (up_trans Bb.out b))
      replace T2 := Lib.hid (fun W (b : Below wb.heap.size wb W) => T2.out W (up_trans Bb.out b))
      replace X2 := Lib.hid (fun W (b : Below wb.heap.size wb W) => X2.out W (up_trans Bb.out b))
      replace A2 := Lib.hid (fun W (b : Below wb.heap.size wb W) => A2.out W (up_trans Bb.out b))
      replace D3 := Lib.hid (fun W (b : Below wb.heap.size wb W) => D3.out W (up_trans Bb.out b))
      replace B2 := Lib.hid (up_trans B2.out Bb.out)
      have M2 : Hid (∀ W, Below wb.heap.size wb W → Has W G2 23 (bys mid)) := Lib.hid fun W b => FB.out.1.has.up b
      have bbb := Lib.hid (Below.refl wb.heap.size wb)
      clear P2 SL D1 D2 Ba Bb FA FB
      go_wp2_with fail
      apply cut_rest
      case h1 =>
        intro REST
        refine wp_region_held_drew (S := fun W => W.rangeAt G2 0 (bys mid) ∧ W.cell? ⟨ge, oe, none⟩ = some (.int .u64 (f : Nat))) (by kernel_rfl) (⟨(M2.out _ bbb.out.drew).whole, Q2.out _ bbb.out.drew⟩) (fun hHeld => ?_)
        refine wpAnyH_take (i := 0) rfl (by kernel_rfl) (by kernel_rfl) (by kernel_rfl) (fun _ _ _ h => h) (yieldsIf_load_mid (by rfl) _ _ rfl G2 0 rfl (bys mid) _ (fun W h => h.1) hdu rfl (by rw [hdi, hmidl])) (by assumption) ?_
        try simp only [Act.put, List.getElem_toArray, List.getElem_cons_zero, List.setIfInBounds_toArray, List.set_cons_zero, List.set_cons_succ]
        refine wpAnyH_take (i := 1) (v := ?_) rfl (by kernel_rfl) (by kernel_rfl) (by kernel_rfl) (fun _ _ _ h => h) (Or.inl ⟨by rfl, ?_⟩) (by assumption) ?_
        rotate_left
        · intro w hSw; (try dsimp only at hSw); go_simp; try with_reducible rfl
        try simp only [Act.put, List.getElem_toArray, List.getElem_cons_zero, List.getElem_cons_succ, List.setIfInBounds_toArray, List.set_cons_zero, List.set_cons_succ]
        refine wpAnyH_take (i := 2) (v := ?_) rfl (by kernel_rfl) (by kernel_rfl) (by kernel_rfl) (fun _ _ _ h => h) (Or.inl ⟨by rfl, ?_⟩) (by assumption) ?_
        rotate_left
        · intro w hSw; (try dsimp only at hSw); go_simp; try with_reducible rfl
        try simp only [Act.put, List.getElem_toArray, List.getElem_cons_zero, List.getElem_cons_succ, List.setIfInBounds_toArray, List.set_cons_zero, List.set_cons_succ]
        refine wpAnyH_take (i := 3) (v := ?_) rfl (by kernel_rfl) (by kernel_rfl) (by kernel_rfl) (fun _ _ _ h => h) (Or.inl ⟨by rfl, ?_⟩) (by assumption) ?_
        rotate_left
        · intro w hSw; (try dsimp only at hSw); go_simp; try with_reducible rfl
        try simp only [Act.put, List.getElem_toArray, List.getElem_cons_zero, List.getElem_cons_succ, List.setIfInBounds_toArray, List.set_cons_zero, List.set_cons_succ]
        refine wpAnyH_take (i := 4) (v := ?_) rfl (by kernel_rfl) (by kernel_rfl) (by kernel_rfl) (fun _ _ _ h => h) (Or.inl ⟨by rfl, ?_⟩) (by assumption) ?_
        rotate_left
        · intro w hSw; (try dsimp only at hSw); go_simp; try with_reducible rfl
        try simp only [Act.put, List.getElem_toArray, List.getElem_cons_zero, List.getElem_cons_succ, List.setIfInBounds_toArray, List.set_cons_zero, List.set_cons_succ]
        refine wpAnyH_take (i := 5) (v := ?_) rfl (by kernel_rfl) (by kernel_rfl) (by kernel_rfl) (fun _ _ _ h => h) (Or.inl ⟨by rfl, ?_⟩) (by assumption) ?_
        rotate_left
        · intro w hSw; (try dsimp only at hSw); go_simp; try with_reducible rfl
        try simp only [Act.put, List.getElem_toArray, List.getElem_cons_zero, List.getElem_cons_succ, List.setIfInBounds_toArray, List.set_cons_zero, List.set_cons_succ]
        refine wpAnyH_take (i := 6) (v := ?_) rfl (by kernel_rfl) (by kernel_rfl) (by kernel_rfl) (fun _ _ _ h => h) (Or.inl ⟨by rfl, ?_⟩) (by assumption) ?_
        rotate_left
        · intro w hSw; (try dsimp only at hSw); go_simp; try with_reducible rfl
        try simp only [Act.put, List.getElem_toArray, List.getElem_cons_zero, List.getElem_cons_succ, List.setIfInBounds_toArray, List.set_cons_zero, List.set_cons_succ]
        refine wpAnyH_take (i := 7) (v := ?_) rfl (by kernel_rfl) (by kernel_rfl) (by kernel_rfl) (fun _ _ _ h => h) (Or.inl ⟨by rfl, ?_⟩) (by assumption) ?_
        rotate_left
        · intro w hSw; (try dsimp only at hSw); go_simp; try with_reducible rfl
        try simp only [Act.put, List.getElem_toArray, List.getElem_cons_zero, List.getElem_cons_succ, List.setIfInBounds_toArray, List.set_cons_zero, List.set_cons_succ]
        refine wpAnyH_take (i := 8) (v := ?_) rfl (by kernel_rfl) (by kernel_rfl) (by kernel_rfl) (fun _ _ _ h => h) (Or.inl ⟨by rfl, ?_⟩) (by assumption) ?_
        rotate_left
        · intro w hSw; (try dsimp only at hSw); go_simp; try with_reducible rfl
        try simp only [Act.put, List.getElem_toArray, List.getElem_cons_zero, List.getElem_cons_succ, List.setIfInBounds_toArray, List.set_cons_zero, List.set_cons_succ]
        refine wpAnyH_take (i := 9) (v := ?_) rfl (by kernel_rfl) (by kernel_rfl) (by kernel_rfl) (fun _ _ _ h => h) (Or.inl ⟨by rfl, ?_⟩) (by assumption) ?_
        rotate_left
        · intro w hSw; (try dsimp only at hSw); go_simp; try with_reducible rfl
        try simp only [Act.put, List.getElem_toArray, List.getElem_cons_zero, List.getElem_cons_succ, List.setIfInBounds_toArray, List.set_cons_zero, List.set_cons_succ]
        refine wpAnyH_take (i := 10) (v := ?_) rfl (by kernel_rfl) (by kernel_rfl) (by kernel_rfl) (fun _ _ _ h => h) (Or.inl ⟨by rfl, ?_⟩) (by assumption) ?_
        rotate_left
        · intro w hSw; (try dsimp only at hSw); go_simp; try with_reducible rfl
        try simp only [Act.put, List.getElem_toArray, List.getElem_cons_zero, List.getElem_cons_succ, List.setIfInBounds_toArray, List.set_cons_zero, List.set_cons_succ]
        refine wpAnyH_take (i := 11) (v := ?_) rfl (by kernel_rfl) (by kernel_rfl) (by kernel_rfl) (fun _ _ _ h => h) (Or.inl ⟨by rfl, ?_⟩) (by assumption) ?_
        rotate_left
        · intro w hSw; (try dsimp only at hSw); go_simp; try with_reducible rfl
        try simp only [Act.put, List.getElem_toArray, List.getElem_cons_zero, List.getElem_cons_succ, List.setIfInBounds_toArray, List.set_cons_zero, List.set_cons_succ]
        refine wpAnyH_ready (rs := [12, 17]) (by kernel_rfl) (by simp) (AllReadyH.cons rfl (fun K hK => ?_) (AllReadyH.cons rfl (fun K hK => ?_) AllReadyH.nil))
        · skip
          go_simp
          refine (D3.out _ (up_trans bbb.out (Below.refl _ _).drew)).mono ?_; rintro e wn ⟨Ac, cc, rfl, hc', hO', hbn'⟩
          have hbn : Below wb.heap.size wb wn := up_trans (Below.refl _ _).drew hbn'
          have HO : Hid (OwnE wb.heap.size (.slice Ac nC cc) E2 wn) := Lib.hid (hO'.mono_base (Below.size (B := wb.heap.size) (Below.refl _ _).drew))
          have HC := Lib.hid hc'
          try replace HG := Lib.hid (HG.out.up hbn')
          clear hO' hbn' hc'
          go_wp2_with fail
          refine hK.out _ _ (⟨(M2.out _ (up_trans bbb.out hbn)).whole, Q2.out _ (up_trans bbb.out hbn)⟩) (fun hHeld => ?_)
          clear hK K
          try simp only [Act.put, List.getElem_toArray, List.getElem_cons_zero, List.getElem_cons_succ, List.setIfInBounds_toArray, List.set_cons_zero, List.set_cons_succ]
          refine wpAnyH_take (i := 13) (v := ?_) rfl (by kernel_rfl) (by kernel_rfl) (by kernel_rfl) (fun _ _ _ h => h) (Or.inl ⟨by rfl, ?_⟩) (by assumption) ?_
          rotate_left
          · intro w hSw; (try dsimp only at hSw); go_simp; try with_reducible rfl
          try simp only [Act.put, List.getElem_toArray, List.getElem_cons_zero, List.getElem_cons_succ, List.setIfInBounds_toArray, List.set_cons_zero, List.set_cons_succ]
          refine wpAnyH_take (i := 14) (v := ?_) rfl (by kernel_rfl) (by kernel_rfl) (by kernel_rfl) (fun _ _ _ h => h) (Or.inl ⟨by rfl, ?_⟩) (by assumption) ?_
          rotate_left
          · intro w hSw; (try dsimp only at hSw); go_simp; try with_reducible rfl
          try simp only [Act.put, List.getElem_toArray, List.getElem_cons_zero, List.getElem_cons_succ, List.setIfInBounds_toArray, List.set_cons_zero, List.set_cons_succ]
          refine wpAnyH_take (i := 15) (v := ?_) rfl (by kernel_rfl) (by kernel_rfl) (by kernel_rfl) (fun _ _ _ h => h) (Or.inl ⟨by rfl, ?_⟩) (by assumption) ?_
          rotate_left
          · intro w hSw; (try dsimp only at hSw); go_simp; try with_reducible rfl
          try simp only [Act.put, List.getElem_toArray, List.getElem_cons_zero, List.getElem_cons_succ, List.setIfInBounds_toArray, List.set_cons_zero, List.set_cons_succ]
          refine wpAnyH_take (i := 16) (v := ?_) rfl (by kernel_rfl) (by kernel_rfl) (by kernel_rfl) (fun _ _ _ h => h) (Or.inl ⟨by rfl, ?_⟩) (by assumption) ?_
          rotate_left
          · intro w hSw; (try dsimp only at hSw); go_simp; try with_reducible rfl
          try simp only [Act.put, List.getElem_toArray, List.getElem_cons_zero, List.getElem_cons_succ, List.setIfInBounds_toArray, List.set_cons_zero, List.set_cons_succ]
          refine wpAnyH_ready (rs := [17]) (by kernel_rfl) (by simp) (AllReadyH.cons rfl (fun K hK => ?_) AllReadyH.nil)
          go_simp
          refine hK.out _ _ (⟨(M2.out _ (up_trans bbb.out (up_alloc hbn _))).whole, Q2.out _ (up_trans bbb.out (up_alloc hbn _))⟩) (fun hHeld => ?_)
          clear hK K
          try simp only [Act.put, List.getElem_toArray, List.getElem_cons_zero, List.getElem_cons_succ, List.setIfInBounds_toArray, List.set_cons_zero, List.set_cons_succ]
          obtain ⟨GG, hGG⟩ : ∃ GG, GG = wn.heap.size := ⟨_, rfl⟩
          have HG : Hid (Has (wn.alloc (.cells (bys z32).toArray 23)) GG 23 (bys z32)) := Lib.hid (by rw [hGG]; exact Has.make wn 23 (bys z32))
          have hge : wb.heap.size ≤ GG := by rw [hGG]; exact hbn.size
          rw [← hGG]
          clear hGG
          replace hbn : Below wb.heap.size wb (wn.alloc (.cells (bys z32).toArray 23)) := up_alloc hbn _
          replace HO := Lib.hid (HO.out.alloc (.cells (bys z32).toArray 23))
          refine wpAnyH_take (i := 18) (v := ?_) rfl (by kernel_rfl) (by kernel_rfl) (by kernel_rfl) (fun _ _ _ h => h) (Or.inl ⟨by rfl, ?_⟩) (by assumption) ?_
          rotate_left
          · intro w hSw; (try dsimp only at hSw); go_simp; try with_reducible rfl
          try simp only [Act.put, List.getElem_toArray, List.getElem_cons_zero, List.getElem_cons_succ, List.setIfInBounds_toArray, List.set_cons_zero, List.set_cons_succ]
          refine wpAnyH_ready (rs := [19]) (by kernel_rfl) (by simp) (AllReadyH.cons rfl (fun K hK => ?_) AllReadyH.nil)
          refine wp_store_save 23 _ _ rfl GG 23 (bys z32) (bys sum) (by rfl) (by rfl) HG.out (by rw [hsuml, z3]) (by rw [hdi, hsuml]) hsumo ?_; intro wc hF4 s4; have FC : Hid (Fx wb wc GG sum (.slice Ac nC cc) E2 ∧ nC ≤ cc) := Lib.hid ⟨⟨hF4, HO.out.save s4 (fun k hk e => Typ.ne HG.out (by decide) (e ▸ hk)), hbn.trans (s4.below (fun k e => by omega) hbn.size), hge⟩, HC.out⟩; clear hF4 s4
          refine hK.out _ _ (⟨(M2.out _ (up_trans bbb.out FC.out.1.below)).whole, Q2.out _ (up_trans bbb.out FC.out.1.below)⟩) (fun hHeld => ?_)
          clear hK K
          try simp only [Act.put, List.getElem_toArray, List.getElem_cons_zero, List.getElem_cons_succ]
          refine wpAnyH_take (i := 20) (v := ?_) rfl (by kernel_rfl) (by kernel_rfl) (by kernel_rfl) (fun _ _ _ h => h) (Or.inl ⟨by rfl, ?_⟩) (by assumption) ?_
          rotate_left
          · intro w hSw; (try dsimp only at hSw); go_simp; try with_reducible rfl
          try simp only [Act.put, List.getElem_toArray, List.getElem_cons_zero, List.getElem_cons_succ, List.setIfInBounds_toArray, List.set_cons_zero, List.set_cons_succ]
          refine wpAnyH_done (by kernel_rfl) ?_ _
          clear hHeld hbn HG HO HC hge
          revert FC
          revert cc
          revert Ac
          revert wc
          revert GG
          exact REST
        · skip
          go_simp
          refine hK.out _ _ (⟨(M2.out _ (up_trans bbb.out (up_alloc (Below.refl _ _).drew _))).whole, Q2.out _ (up_trans bbb.out (up_alloc (Below.refl _ _).drew _))⟩) (fun hHeld => ?_)
          clear hK K
          try simp only [Act.put, List.getElem_toArray, List.getElem_cons_zero, List.getElem_cons_succ, List.setIfInBounds_toArray, List.set_cons_zero, List.set_cons_succ]
          obtain ⟨GG, hGG⟩ : ∃ GG, GG = wb.heap.size := ⟨_, rfl⟩
          have HG : Hid (Has (wb.drew.alloc (.cells (bys z32).toArray 23)) GG 23 (bys z32)) := Lib.hid (by rw [hGG]; exact Has.make wb.drew 23 (bys z32))
          have hge : wb.heap.size ≤ GG := by rw [hGG]; exact Nat.le_refl _
          rw [← hGG]
          clear hGG
          refine wpAnyH_ready (rs := [12]) (by kernel_rfl) (by simp) (AllReadyH.cons rfl (fun K hK => ?_) AllReadyH.nil)
          go_simp
          refine (D3.out _ (up_trans bbb.out (up_alloc (Below.refl _ _).drew _))).mono ?_; rintro e wn ⟨Ac, cc, rfl, hc', hO', hbn'⟩
          have hbn : Below wb.heap.size wb wn := up_trans (up_alloc (Below.refl _ _).drew _) hbn'
          have HO : Hid (OwnE wb.heap.size (.slice Ac nC cc) E2 wn) := Lib.hid (hO'.mono_base (Below.size (B := wb.heap.size) (up_alloc (Below.refl _ _).drew _)))
          have HC := Lib.hid hc'
          try replace HG := Lib.hid (HG.out.up hbn')
          clear hO' hbn' hc'
          go_wp2_with fail
          refine hK.out _ _ (⟨(M2.out _ (up_trans bbb.out hbn)).whole, Q2.out _ (up_trans bbb.out hbn)⟩) (fun hHeld => ?_)
          clear hK K
          try simp only [Act.put, List.getElem_toArray, List.getElem_cons_zero, List.getElem_cons_succ, List.setIfInBounds_toArray, List.set_cons_zero, List.set_cons_succ]
          refine wpAnyH_take (i := 13) (v := ?_) rfl (by kernel_rfl) (by kernel_rfl) (by kernel_rfl) (fun _ _ _ h => h) (Or.inl ⟨by rfl, ?_⟩) (by assumption) ?_
          rotate_left
          · intro w hSw; (try dsimp only at hSw); go_simp; try with_reducible rfl
          try simp only [Act.put, List.getElem_toArray, List.getElem_cons_zero, List.getElem_cons_succ, List.setIfInBounds_toArray, List.set_cons_zero, List.set_cons_succ]
          refine wpAnyH_take (i := 14) (v := ?_) rfl (by kernel_rfl) (by kernel_rfl) (by kernel_rfl) (fun _ _ _ h => h) (Or.inl ⟨by rfl, ?_⟩) (by assumption) ?_
          rotate_left
          · intro w hSw; (try dsimp only at hSw); go_simp; try with_reducible rfl
          try simp only [Act.put, List.getElem_toArray, List.getElem_cons_zero, List.getElem_cons_succ, List.setIfInBounds_toArray, List.set_cons_zero, List.set_cons_succ]
          refine wpAnyH_take (i := 15) (v := ?_) rfl (by kernel_rfl) (by kernel_rfl) (by kernel_rfl) (fun _ _ _ h => h) (Or.inl ⟨by rfl, ?_⟩) (by assumption) ?_
          rotate_left
          · intro w hSw; (try dsimp only at hSw); go_simp; try with_reducible rfl
          try simp only [Act.put, List.getElem_toArray, List.getElem_cons_zero, List.getElem_cons_succ, List.setIfInBounds_toArray, List.set_cons_zero, List.set_cons_succ]
          refine wpAnyH_take (i := 16) (v := ?_) rfl (by kernel_rfl) (by kernel_rfl) (by kernel_rfl) (fun _ _ _ h => h) (Or.inl ⟨by rfl, ?_⟩) (by assumption) ?_
          rotate_left
          · intro w hSw; (try dsimp only at hSw); go_simp; try with_reducible rfl
          try simp only [Act.put, List.getElem_toArray, List.getElem_cons_zero, List.getElem_cons_succ, List.setIfInBounds_toArray, List.set_cons_zero, List.set_cons_succ]
          refine wpAnyH_take (i := 18) (v := ?_) rfl (by kernel_rfl) (by kernel_rfl) (by kernel_rfl) (fun _ _ _ h => h) (Or.inl ⟨by rfl, ?_⟩) (by assumption) ?_
          rotate_left
          · intro w hSw; (try dsimp only at hSw); go_simp; try with_reducible rfl
          try simp only [Act.put, List.getElem_toArray, List.getElem_cons_zero, List.getElem_cons_succ, List.setIfInBounds_toArray, List.set_cons_zero, List.set_cons_succ]
          refine wpAnyH_ready (rs := [19]) (by kernel_rfl) (by simp) (AllReadyH.cons rfl (fun K hK => ?_) AllReadyH.nil)
          refine wp_store_save 23 _ _ rfl GG 23 (bys z32) (bys sum) (by rfl) (by rfl) HG.out (by rw [hsuml, z3]) (by rw [hdi, hsuml]) hsumo ?_; intro wc hF4 s4; have FC : Hid (Fx wb wc GG sum (.slice Ac nC cc) E2 ∧ nC ≤ cc) := Lib.hid ⟨⟨hF4, HO.out.save s4 (fun k hk e => Typ.ne HG.out (by decide) (e ▸ hk)), hbn.trans (s4.below (fun k e => by omega) hbn.size), hge⟩, HC.out⟩; clear hF4 s4
          refine hK.out _ _ (⟨(M2.out _ (up_trans bbb.out FC.out.1.below)).whole, Q2.out _ (up_trans bbb.out FC.out.1.below)⟩) (fun hHeld => ?_)
          clear hK K
          try simp only [Act.put, List.getElem_toArray, List.getElem_cons_zero, List.getElem_cons_succ]
          refine wpAnyH_take (i := 20) (v := ?_) rfl (by kernel_rfl) (by kernel_rfl) (by kernel_rfl) (fun _ _ _ h => h) (Or.inl ⟨by rfl, ?_⟩) (by assumption) ?_
          rotate_left
          · intro w hSw; (try dsimp only at hSw); go_simp; try with_reducible rfl
          try simp only [Act.put, List.getElem_toArray, List.getElem_cons_zero, List.getElem_cons_succ, List.setIfInBounds_toArray, List.set_cons_zero, List.set_cons_succ]
          refine wpAnyH_done (by kernel_rfl) ?_ _
          clear hHeld hbn HG HO HC hge
          revert FC
          revert cc
          revert Ac
          revert wc
          revert GG
          exact REST
      case h2 =>
        intro G3 wc Ac cc FC
        have Bc := Lib.hid FC.out.1.below
        replace T2 := Lib.hid (fun W (b : Below wc.heap.size wc W) => T2.out W (up_trans Bc.out b))
        replace X2 := Lib.hid (fun W (b : Below wc.heap.size wc W) => X2.out W (up_trans Bc.out b))
        replace A2 := Lib.hid (fun W (b : Below wc.heap.size wc W) => A2.out W (up_trans Bc.out b))
        replace S1 := Lib.hid (fun W (b : Below wc.heap.size wc W) => S1.out W (up_trans Bc.out b))
        replace OA := Lib.hid (fun W (b : Below wc.heap.size wc W) => OA.out W (up_trans Bc.out b))
        replace OB := Lib.hid (fun W (b : Below wc.heap.size wc W) => OB.out W (up_trans Bc.out b))
        replace B2 := Lib.hid (up_trans B2.out Bc.out)
        have hEc := FC.out.2
        obtain ⟨gA, oA, rfl, _⟩ := OA.out wc (Below.refl _ _) (by rw [← HNE.out]; have := HEC.out; omega)
        have OC : Hid (∀ W, Below wc.heap.size wc W → EvSl W Ac E2) := Lib.hid fun W b => (FC.out.1.own.up b).slice.2.2
        have OD : Hid (∀ W, Below wc.heap.size wc W → EvSl W (some ⟨gA, oA + nB * 6, none⟩) E2) := Lib.hid fun W b => by
          rw [HNB.out]
          exact (OA.out W b).back HKE.out
        have SC := Lib.hid (fun W (b : Below wc.heap.size wc W) => esame_any Ac (some ⟨gA, oA + nB * 6, none⟩) E2 nC cc (ca - nB) HNC.out hEc (by have := HEC.out; omega) (by rw [← HNC.out]; have := H200.out; have := HEC.out; omega) W (OC.out W b) (OD.out W b))
        have i3 : (nB : Int) ≤ (nE : Int) := by omega
        have i4 : ¬ ca = nB := by omega
        have i5 : nB ≤ nE := by omega
        have i6 : nE ≤ ca := by omega
        have FCH := Lib.hid FC.out.1.has
        clear FC Bc OC OD D3 Q2 M2 bbb
        go_wp2_with (first | (refine wpList_load_wanted (by rfl) 23 _ rfl G3 (by rfl) _ _ _ _ FCH.out hdu rfl (by rw [hdi, List.size_toArray, hsuml]) ?_) | (refine wpList_load_wanted (by rfl) 23 _ rfl G1 (by rfl) _ _ _ _ (S1.out _ (Below.refl _ _)) hdu rfl (by rw [hdi, List.size_toArray, hsuml]) ?_))
        refine (SC.out _ (Below.refl _ _)).mono ?_; rintro e wd ⟨rfl, bd⟩
        have Bd := Lib.hid bd
        clear bd SC
        replace T2 := Lib.hid (fun W (b : Below wd.heap.size wd W) => T2.out W (up_trans Bd.out b))
        replace X2 := Lib.hid (fun W (b : Below wd.heap.size wd W) => X2.out W (up_trans Bd.out b))
        replace A2 := Lib.hid (fun W (b : Below wd.heap.size wd W) => A2.out W (up_trans Bd.out b))
        replace S1 := Lib.hid (fun W (b : Below wd.heap.size wd W) => S1.out W (up_trans Bd.out b))
        replace OA := Lib.hid (fun W (b : Below wd.heap.size wd W) => OA.out W (up_trans Bd.out b))
        replace OB := Lib.hid (fun W (b : Below wd.heap.size wd W) => OB.out W (up_trans Bd.out b))
        replace B2 := Lib.hid (up_trans B2.out Bd.out)
        have SA := Lib.hid (fun W (b : Below wd.heap.size wd W) => esame_any (some ⟨gA, oA, none⟩) (some ⟨ge, oe, none⟩) E nE ca c HNE.out hEa (by have := HCN.out; omega) (by rw [← HNE.out]; have := H200.out; omega) W (OA.out W b) ((A2.out W b).front HK0.out))
        have SB := Lib.hid (fun W (b : Below wd.heap.size wd W) => esame_any Ab (some ⟨ge, oe, none⟩) E1 nB cb c HNB.out hEb (by have := HCN.out; omega) (by rw [← HNB.out]; have := H200.out; omega) W (OB.out W b) ((A2.out W b).front HK1.out))
        have bdd := Lib.hid (Below.refl wd.heap.size wd)
        go_wp2_with fail
        refine wp_region_held_drew (S := fun W => W.rangeAt G1 0 (bys sum) ∧ W.cell? ⟨gl, ol + NL, none⟩ = some (.string ⟨s.toArray⟩)) (by kernel_rfl) (⟨(S1.out _ bdd.out.drew).whole, X2.out _ bdd.out.drew⟩) (fun hHeld => ?_)
        refine wpAnyH_ready (rs := [0]) (by kernel_rfl) (by simp) (AllReadyH.cons rfl (fun K hK => ?_) AllReadyH.nil)
        go_simp
        refine (L9.out _ (T2.out _ (up_trans bdd.out (Below.refl _ _).drew))).mono ?_; rintro e wn ⟨rfl, hbn'⟩
        have hbn : Below wd.heap.size wd wn := up_trans (Below.refl _ _).drew hbn'
        clear hbn'
        go_wp2_with fail
        refine hK.out _ _ (⟨(S1.out _ (up_trans bdd.out hbn)).whole, X2.out _ (up_trans bdd.out hbn)⟩) (fun hHeld => ?_)
        clear hK K
        try simp only [Act.put, List.getElem_toArray, List.getElem_cons_zero, List.getElem_cons_succ, List.setIfInBounds_toArray, List.set_cons_zero, List.set_cons_succ]
        refine wpAnyH_take (i := 1) (v := ?_) rfl (by kernel_rfl) (by kernel_rfl) (by kernel_rfl) (fun _ _ _ h => h) (Or.inl ⟨by rfl, ?_⟩) (by assumption) ?_
        rotate_left
        · intro w hSw; (try dsimp only at hSw); go_simp; try with_reducible rfl
        try simp only [Act.put, List.getElem_toArray, List.getElem_cons_zero, List.getElem_cons_succ, List.setIfInBounds_toArray, List.set_cons_zero, List.set_cons_succ]
        refine wpAnyH_take (i := 2) (v := ?_) rfl (by kernel_rfl) (by kernel_rfl) (by kernel_rfl) (fun _ _ _ h => h) (Or.inl ⟨by rfl, ?_⟩) (by assumption) ?_
        rotate_left
        · intro w hSw; (try dsimp only at hSw); go_simp; try with_reducible rfl
        try simp only [Act.put, List.getElem_toArray, List.getElem_cons_zero, List.getElem_cons_succ, List.setIfInBounds_toArray, List.set_cons_zero, List.set_cons_succ]
        refine wpAnyH_take (i := 3) (v := ?_) rfl (by kernel_rfl) (by kernel_rfl) (by kernel_rfl) (fun _ _ _ h => h) (Or.inl ⟨by rfl, ?_⟩) (by assumption) ?_
        rotate_left
        · intro w hSw; (try dsimp only at hSw); go_simp; try with_reducible rfl
        try simp only [Act.put, List.getElem_toArray, List.getElem_cons_zero, List.getElem_cons_succ, List.setIfInBounds_toArray, List.set_cons_zero, List.set_cons_succ]
        refine wpAnyH_take (i := 4) (v := ?_) rfl (by kernel_rfl) (by kernel_rfl) (by kernel_rfl) (fun _ _ _ h => h) (Or.inl ⟨by rfl, ?_⟩) (by assumption) ?_
        rotate_left
        · intro w hSw; (try dsimp only at hSw); go_simp; try with_reducible rfl
        try simp only [Act.put, List.getElem_toArray, List.getElem_cons_zero, List.getElem_cons_succ, List.setIfInBounds_toArray, List.set_cons_zero, List.set_cons_succ]
        refine wpAnyH_take (i := 5) (v := ?_) rfl (by kernel_rfl) (by kernel_rfl) (by kernel_rfl) (fun _ _ _ h => h) (Or.inl ⟨by rfl, ?_⟩) (by assumption) ?_
        rotate_left
        · intro w hSw; (try dsimp only at hSw); go_simp; try with_reducible rfl
        try simp only [Act.put, List.getElem_toArray, List.getElem_cons_zero, List.getElem_cons_succ, List.setIfInBounds_toArray, List.set_cons_zero, List.set_cons_succ]
        refine wpAnyH_take (i := 6) (v := ?_) rfl (by kernel_rfl) (by kernel_rfl) (by kernel_rfl) (fun _ _ _ h => h) (Or.inl ⟨by rfl, ?_⟩) (by assumption) ?_
        rotate_left
        · intro w hSw; (try dsimp only at hSw); go_simp; try with_reducible rfl
        try simp only [Act.put, List.getElem_toArray, List.getElem_cons_zero, List.getElem_cons_succ, List.setIfInBounds_toArray, List.set_cons_zero, List.set_cons_succ]
        refine wpAnyH_ready (rs := [7]) (by kernel_rfl) (by simp) (AllReadyH.cons rfl (fun K hK => ?_) AllReadyH.nil)
        go_simp
        refine (SA.out _ (up_trans bdd.out hbn)).mono ?_; rintro e wn ⟨rfl, hbn'⟩
        replace hbn : Below wd.heap.size wd wn := up_trans hbn hbn'
        clear hbn'
        go_wp2_with fail
        refine hK.out _ _ (⟨(S1.out _ (up_trans bdd.out hbn)).whole, X2.out _ (up_trans bdd.out hbn)⟩) (fun hHeld => ?_)
        clear hK K
        try simp only [Act.put, List.getElem_toArray, List.getElem_cons_zero, List.getElem_cons_succ, List.setIfInBounds_toArray, List.set_cons_zero, List.set_cons_succ]
        refine wpAnyH_take (i := 8) (v := ?_) rfl (by kernel_rfl) (by kernel_rfl) (by kernel_rfl) (fun _ _ _ h => h) (Or.inl ⟨by rfl, ?_⟩) (by assumption) ?_
        rotate_left
        · intro w hSw; (try dsimp only at hSw); go_simp; try with_reducible rfl
        try simp only [Act.put, List.getElem_toArray, List.getElem_cons_zero, List.getElem_cons_succ, List.setIfInBounds_toArray, List.set_cons_zero, List.set_cons_succ]
        refine wpAnyH_take (i := 9) (v := ?_) rfl (by kernel_rfl) (by kernel_rfl) (by kernel_rfl) (fun _ _ _ h => h) (Or.inl ⟨by rfl, ?_⟩) (by assumption) ?_
        rotate_left
        · intro w hSw; (try dsimp only at hSw); go_simp; try with_reducible rfl
        try simp only [Act.put, List.getElem_toArray, List.getElem_cons_zero, List.getElem_cons_succ, List.setIfInBounds_toArray, List.set_cons_zero, List.set_cons_succ]
        refine wpAnyH_take (i := 10) (v := ?_) rfl (by kernel_rfl) (by kernel_rfl) (by kernel_rfl) (fun _ _ _ h => h) (Or.inl ⟨by rfl, ?_⟩) (by assumption) ?_
        rotate_left
        · intro w hSw; (try dsimp only at hSw); go_simp; try with_reducible rfl
        try simp only [Act.put, List.getElem_toArray, List.getElem_cons_zero, List.getElem_cons_succ, List.setIfInBounds_toArray, List.set_cons_zero, List.set_cons_succ]
        refine wpAnyH_take (i := 11) (v := ?_) rfl (by kernel_rfl) (by kernel_rfl) (by kernel_rfl) (fun _ _ _ h => h) (Or.inl ⟨by rfl, ?_⟩) (by assumption) ?_
        rotate_left
        · intro w hSw; (try dsimp only at hSw); go_simp; try with_reducible rfl
        try simp only [Act.put, List.getElem_toArray, List.getElem_cons_zero, List.getElem_cons_succ, List.setIfInBounds_toArray, List.set_cons_zero, List.set_cons_succ]
        refine wpAnyH_take (i := 12) (v := ?_) rfl (by kernel_rfl) (by kernel_rfl) (by kernel_rfl) (fun _ _ _ h => h) (Or.inl ⟨by rfl, ?_⟩) (by assumption) ?_
        rotate_left
        · intro w hSw; (try dsimp only at hSw); go_simp; try with_reducible rfl
        try simp only [Act.put, List.getElem_toArray, List.getElem_cons_zero, List.getElem_cons_succ, List.setIfInBounds_toArray, List.set_cons_zero, List.set_cons_succ]
        refine wpAnyH_take (i := 13) (v := ?_) rfl (by kernel_rfl) (by kernel_rfl) (by kernel_rfl) (fun _ _ _ h => h) (Or.inl ⟨by rfl, ?_⟩) (by assumption) ?_
        rotate_left
        · intro w hSw; (try dsimp only at hSw); go_simp; try with_reducible rfl
        try simp only [Act.put, List.getElem_toArray, List.getElem_cons_zero, List.getElem_cons_succ, List.setIfInBounds_toArray, List.set_cons_zero, List.set_cons_succ]
        refine wpAnyH_take (i := 14) (v := ?_) rfl (by kernel_rfl) (by kernel_rfl) (by kernel_rfl) (fun _ _ _ h => h) (Or.inl ⟨by rfl, ?_⟩) (by assumption) ?_
        rotate_left
        · intro w hSw; (try dsimp only at hSw); go_simp; try with_reducible rfl
        try simp only [Act.put, List.getElem_toArray, List.getElem_cons_zero, List.getElem_cons_succ, List.setIfInBounds_toArray, List.set_cons_zero, List.set_cons_succ]
        refine wpAnyH_ready (rs := [15]) (by kernel_rfl) (by simp) (AllReadyH.cons rfl (fun K hK => ?_) AllReadyH.nil)
        go_simp
        refine (SB.out _ (up_trans bdd.out hbn)).mono ?_; rintro e wn ⟨rfl, hbn'⟩
        replace hbn : Below wd.heap.size wd wn := up_trans hbn hbn'
        clear hbn'
        go_wp2_with fail
        refine hK.out _ _ (⟨(S1.out _ (up_trans bdd.out hbn)).whole, X2.out _ (up_trans bdd.out hbn)⟩) (fun hHeld => ?_)
        clear hK K
        try simp only [Act.put, List.getElem_toArray, List.getElem_cons_zero, List.getElem_cons_succ, List.setIfInBounds_toArray, List.set_cons_zero, List.set_cons_succ]
        refine wpAnyH_take (i := 16) (v := ?_) rfl (by kernel_rfl) (by kernel_rfl) (by kernel_rfl) (fun _ _ _ h => h) (Or.inl ⟨by rfl, ?_⟩) (by assumption) ?_
        rotate_left
        · intro w hSw; (try dsimp only at hSw); go_simp; try with_reducible rfl
        try simp only [Act.put, List.getElem_toArray, List.getElem_cons_zero, List.getElem_cons_succ, List.setIfInBounds_toArray, List.set_cons_zero, List.set_cons_succ]
        refine wpAnyH_take (i := 17) (v := ?_) rfl (by kernel_rfl) (by kernel_rfl) (by kernel_rfl) (fun _ _ _ h => h) (Or.inl ⟨by rfl, ?_⟩) (by assumption) ?_
        rotate_left
        · intro w hSw; (try dsimp only at hSw); go_simp; try with_reducible rfl
        try simp only [Act.put, List.getElem_toArray, List.getElem_cons_zero, List.getElem_cons_succ, List.setIfInBounds_toArray, List.set_cons_zero, List.set_cons_succ]
        refine wpAnyH_take (i := 18) rfl (by kernel_rfl) (by kernel_rfl) (by kernel_rfl) (fun _ _ _ h => h) (yieldsIf_load_mid (by rfl) _ _ rfl G1 0 rfl (bys sum) _ (fun W h => h.1) hdu rfl (by rw [hdi, hsuml])) (by assumption) ?_
        try simp only [Act.put, List.getElem_toArray, List.getElem_cons_zero, List.getElem_cons_succ, List.setIfInBounds_toArray, List.set_cons_zero, List.set_cons_succ]
        refine wpAnyH_take (i := 19) (v := ?_) rfl (by kernel_rfl) (by kernel_rfl) (by kernel_rfl) (fun _ _ _ h => h) (Or.inl ⟨by rfl, ?_⟩) (by assumption) ?_
        rotate_left
        · intro w hSw; (try dsimp only at hSw); go_simp; try with_reducible rfl
        try simp only [Act.put, List.getElem_toArray, List.getElem_cons_zero, List.getElem_cons_succ, List.setIfInBounds_toArray, List.set_cons_zero, List.set_cons_succ]
        refine wpAnyH_take (i := 20) (v := ?_) rfl (by kernel_rfl) (by kernel_rfl) (by kernel_rfl) (fun _ _ _ h => h) (Or.inl ⟨by rfl, ?_⟩) (by assumption) ?_
        rotate_left
        · intro w hSw; (try dsimp only at hSw); go_simp; try with_reducible rfl
        try simp only [Act.put, List.getElem_toArray, List.getElem_cons_zero, List.getElem_cons_succ, List.setIfInBounds_toArray, List.set_cons_zero, List.set_cons_succ]
        refine wpAnyH_take (i := 21) (v := ?_) rfl (by kernel_rfl) (by kernel_rfl) (by kernel_rfl) (fun _ _ _ h => h) (Or.inl ⟨by rfl, ?_⟩) (by assumption) ?_
        rotate_left
        · intro w hSw; (try dsimp only at hSw); go_simp; try with_reducible rfl
        try simp only [Act.put, List.getElem_toArray, List.getElem_cons_zero, List.getElem_cons_succ, List.setIfInBounds_toArray, List.set_cons_zero, List.set_cons_succ]
        refine wpAnyH_take (i := 22) (v := ?_) rfl (by kernel_rfl) (by kernel_rfl) (by kernel_rfl) (fun _ _ _ h => h) (Or.inl ⟨by rfl, ?_⟩) (by assumption) ?_
        rotate_left
        · intro w hSw; (try dsimp only at hSw); go_simp; try with_reducible rfl
        try simp only [Act.put, List.getElem_toArray, List.getElem_cons_zero, List.getElem_cons_succ, List.setIfInBounds_toArray, List.set_cons_zero, List.set_cons_succ]
        refine wpAnyH_take (i := 23) (v := ?_) rfl (by kernel_rfl) (by kernel_rfl) (by kernel_rfl) (fun _ _ _ h => h) (Or.inl ⟨by rfl, ?_⟩) (by assumption) ?_
        rotate_left
        · intro w hSw; (try dsimp only at hSw); go_simp; try with_reducible rfl
        try simp only [Act.put, List.getElem_toArray, List.getElem_cons_zero, List.getElem_cons_succ, List.setIfInBounds_toArray, List.set_cons_zero, List.set_cons_succ]
        refine wpAnyH_take (i := 24) (v := ?_) rfl (by kernel_rfl) (by kernel_rfl) (by kernel_rfl) (fun _ _ _ h => h) (Or.inl ⟨by rfl, ?_⟩) (by assumption) ?_
        rotate_left
        · intro w hSw; (try dsimp only at hSw); go_simp; try with_reducible rfl
        try simp only [Act.put, List.getElem_toArray, List.getElem_cons_zero, List.getElem_cons_succ, List.setIfInBounds_toArray, List.set_cons_zero, List.set_cons_succ]
        refine wpAnyH_ready (rs := [25]) (by kernel_rfl) (by simp) (AllReadyH.cons rfl (fun K hK => ?_) AllReadyH.nil)
        go_simp
        refine (OF.out _ (T2.out _ (up_trans bdd.out hbn))).mono ?_; rintro e wn ⟨rfl, hbn'⟩
        replace hbn : Below wd.heap.size wd wn := up_trans hbn hbn'
        clear hbn'
        go_wp2_with fail
        refine hK.out _ _ (⟨(S1.out _ (up_trans bdd.out hbn)).whole, X2.out _ (up_trans bdd.out hbn)⟩) (fun hHeld => ?_)
        clear hK K
        try simp only [Act.put, List.getElem_toArray, List.getElem_cons_zero, List.getElem_cons_succ, List.setIfInBounds_toArray, List.set_cons_zero, List.set_cons_succ]
        refine wpAnyH_take (i := 26) (v := ?_) rfl (by kernel_rfl) (by kernel_rfl) (by kernel_rfl) (fun _ _ _ h => h) (Or.inl ⟨by rfl, ?_⟩) (by assumption) ?_
        rotate_left
        · intro w hSw; (try dsimp only at hSw); go_simp; try with_reducible rfl
        try simp only [Act.put, List.getElem_toArray, List.getElem_cons_zero, List.getElem_cons_succ, List.setIfInBounds_toArray, List.set_cons_zero, List.set_cons_succ]
        refine wpAnyH_take (i := 27) (v := ?_) rfl (by kernel_rfl) (by kernel_rfl) (by kernel_rfl) (fun _ _ _ h => h) (Or.inl ⟨by rfl, ?_⟩) (by assumption) ?_
        rotate_left
        · intro w hSw; (try dsimp only at hSw); go_simp; try with_reducible rfl
        try simp only [Act.put, List.getElem_toArray, List.getElem_cons_zero, List.getElem_cons_succ, List.setIfInBounds_toArray, List.set_cons_zero, List.set_cons_succ]
        refine wpAnyH_take (i := 28) (v := ?_) rfl (by kernel_rfl) (by kernel_rfl) (by kernel_rfl) (fun _ _ _ h => h) (Or.inl ⟨by rfl, ?_⟩) (by assumption) ?_
        rotate_left
        · intro w hSw; (try dsimp only at hSw); go_simp; try with_reducible rfl
        try simp only [Act.put, List.getElem_toArray, List.getElem_cons_zero, List.getElem_cons_succ, List.setIfInBounds_toArray, List.set_cons_zero, List.set_cons_succ]
        refine wpAnyH_done (by kernel_rfl) ?_ _
        skip
        go_wp2_with fail
        go_ret
        exact ⟨rfl, up_trans B2.out (up_trans bdd.out hbn)⟩

theorem ChainGoes_core (LK : LinkC) (CK : CheckC) (CL : ClashC) (a : List UInt8) (ha : a.length = 32) (evs : List Ev) (hs : ∀ x ∈ evs, x.seq < 18446744073709551616) (A : Option Addr) (n c : Nat) (hn : n = evs.length) (hc : n ≤ c) (zs : List Int) (Z : Option Addr) (m d : Nat) (hm : m = zs.length) (k : Int) (w : World) (hTab : Tab w) (hA : EvSl w A evs) (hZ : ZSl w Z zs) :
    Calls Tryd.prog 6 #[.agg (bys a).toArray, .slice A n c, .slice Z m d, .int .i64 k] w fun e w' => e = .returned (.bool true) ∧ Below w.heap.size w w' := by
  by_cases h1 : n ≤ 200
  · by_cases h2 : m ≤ 30
    · by_cases h3 : n = 0
      · exact goes_early2 LK CK CL a ha evs hs A n c hn hc zs Z m d hm k h1 h2 h3 w hTab hA hZ
      · cases h4 : runL evs with
        | false => exact goes_early3 LK CK CL a ha evs hs A n c hn hc zs Z m d hm k h1 h2 h3 h4 w hTab hA hZ
        | true =>
          by_cases h5 : rws hsh a evs zs = []
          · exact goes_early4 LK CK CL a ha evs hs A n c hn hc zs Z m d hm k h1 h2 h3 h4 h5 w hTab hA hZ
          · obtain ⟨kk, hkk⟩ : ∃ kk : Nat, min (max k 0) ((rws hsh a evs zs).length : Int) = (kk : Int) := ⟨(min (max k 0) ((rws hsh a evs zs).length : Int)).toNat, by omega⟩
            rcases Nat.lt_or_ge kk (rws hsh a evs zs).length with hlt | hge
            · exact goes_part LK CK CL a ha evs hs A n c hn hc zs Z m d hm k h1 h2 h3 h4 h5 kk hkk hlt w hTab hA hZ
            · exact goes_all LK CK CL a ha evs hs A n c hn hc zs Z m d hm k h1 h2 h3 h4 h5 kk hkk (by omega) w hTab hA hZ
    · exact goes_early1 LK CK CL a ha evs hs A n c hn hc zs Z m d hm k h1 (by omega) w hTab hA hZ
  · exact goes_early0 LK CK CL a ha evs hs A n c hn hc zs Z m d hm k (by omega) w hTab hA hZ

end Go.Proofs.YthhcopeejhhpgaaDoor
