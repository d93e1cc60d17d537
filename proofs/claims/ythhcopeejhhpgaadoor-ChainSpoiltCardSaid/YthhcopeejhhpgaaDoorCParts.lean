/- chain.Clash. -/
import Derived.Test.YthhcopeejhhpgaaDoorChClash
import Derived.WalkMore
import Derived.Deep.LoopGhost
import Derived.Test.YthhcopeejhhpgaaDoorChCheck
import Derived.Test.YthhcopeejhhpgaaDoorChLink
import Derived.Laws.Tables
import Derived.Test.YthhcopeejhhpgaaDoorChainLinksWalk
namespace Go.Proofs.YthhcopeejhhpgaaDoor
open Go.RowKit Chn

set_option maxHeartbeats 1000000 in
set_option maxRecDepth 100000 in
theorem samesum_any (s t : List UInt8) (hs : s.length ≤ 100000) (ht : t.length ≤ 100000) (w : World) (hT : Tab w) :
    Calls Tryd.prog 30 #[.string ⟨s.toArray⟩, .string ⟨t.toArray⟩] w fun e w' => e = .returned (.bool (decide (hsh s = hsh t))) ∧ Below w.heap.size w w' := by
  have EQ := eql_dig (hsh s) (hsh t) (hsh_len _) (hsh_len _)
  have X := Lib.hid (fun W h => hof_any s hs W h)
  have Y := Lib.hid (fun W h => hof_any t ht W h)
  have HT := Lib.hid hT
  clear hs ht hT
  generalize hsh s = x at *
  generalize hsh t = y at *
  go_enter Tryd.func30, Tryd.ntmps30
  go_wp2_with fail
  refine (X.out _ HT.out).mono ?_; rintro e w1 ⟨rfl, b1⟩
  go_wp2_with fail
  refine (Y.out _ (tab_up HT.out b1)).mono ?_; rintro e w2 ⟨rfl, b2⟩
  go_wp2_with fail
  go_ret
  exact ⟨rfl, up_trans b1 b2⟩

set_option maxHeartbeats 1000000 in
set_option maxRecDepth 100000 in
theorem pclash_any (A A' : Option Addr) (l m : List (List UInt8)) (n n' c c' : Nat) (w : World) (hT : Tab w) (hn : n = l.length) (hn' : n' = m.length) (hl : l.length ≤ 1000000) (hm : m.length ≤ 1000000) (hls : ∀ s ∈ l, s.length ≤ 100000) (hms : ∀ s ∈ m, s.length ≤ 100000) (hA : StSl w A l) (hA' : StSl w A' m) :
    Calls Tryd.prog 17 #[.slice A n c, .slice A' n' c'] w fun e w' => e = .returned (.tuple #[.string ⟨(clash hsh l m).1.toArray⟩, .string ⟨(clash hsh l m).2.1.toArray⟩, .bool (clash hsh l m).2.2]) ∧ Below w.heap.size w w' := by
  have HA := Lib.hid hA
  have HA' := Lib.hid hA'
  have HN := Lib.hid hn
  have HN' := Lib.hid hn'
  have HLS := Lib.hid hls
  have HMS := Lib.hid hms
  have HT := Lib.hid hT
  have nb : n ≤ 1000000 := by omega
  have nb' : n' ≤ 1000000 := by omega
  clear hA hA' hn hn' hls hms hl hm hT
  go_enter Tryd.func17, Tryd.ntmps17
  go_wp2_with fail
  go_step3
  go_wp2_with fail
  go_step3
  go_wp2_with fail
  go_loopw [7] (fun i wr => ∃ k : Nat, 1 ≤ k ∧ k ≤ n + 1 ∧ k ≤ n' + 1 ∧ i = .int .i64 (k : Nat) ∧ Hid (l.reverse.take (k - 1) = m.reverse.take (k - 1)) ∧ Hid (Below w.heap.size w wr)) (fun i _ => n + 1 - (intOf i).toNat)
  case atStart => exact ⟨1, Nat.le_refl _, by omega, by omega, rfl, Lib.hid (by simp), Lib.hid (Below.refl _ _)⟩
  case round =>
    obtain ⟨k, hk1, hk, hk', rfl, HE, HB⟩ := hrel
    by_cases h1 : k ≤ n
    · have d1 : decide ((k : Int) > (n : Int)) = false := by simp; omega
      have d1' : decide ((n : Int) < (k : Int)) = false := by simp; omega
      by_cases h2 : k ≤ n'
      · have d2 : decide ((k : Int) > (n' : Int)) = false := by simp; omega
        have d2' : decide ((n' : Int) < (k : Int)) = false := by simp; omega
        obtain ⟨p, hp⟩ : ∃ p, p + k = n := ⟨n - k, by omega⟩
        obtain ⟨p', hp'⟩ : ∃ p', p' + k = n' := ⟨n' - k, by omega⟩
        obtain ⟨g, o, hAe, hc⟩ := (HA.out.up HB.out.drew).out (by rw [← HN.out]; omega)
        obtain ⟨g', o', hAe', hc'⟩ := (HA'.out.up HB.out.drew).out (by rw [← HN'.out]; omega)
        subst hAe hAe'
        have hpl : p < l.length := by rw [← HN.out]; omega
        have hpm : p' < m.length := by rw [← HN'.out]; omega
        have R1 := rev_at (l := l) hk1 (by rw [← HN.out]; exact hp)
        have R2 := rev_at (l := m) hk1 (by rw [← HN'.out]; exact hp')
        rw [List.getElem?_eq_getElem hpl] at R1
        rw [List.getElem?_eq_getElem hpm] at R2
        have cc := hc p l[p] (List.getElem?_eq_getElem hpl)
        have cc' := hc' p' m[p'] (List.getElem?_eq_getElem hpm)
        have S1 := Lib.hid (HLS.out _ (List.getElem_mem hpl))
        have S2 := Lib.hid (HMS.out _ (List.getElem_mem hpm))
        have q1 : (n : Int) - (k : Int) = (p : Int) := by omega
        have q2 : (n' : Int) - (k : Int) = (p' : Int) := by omega
        have w1 : IntKind.i64.wrap (p : Int) = (p : Int) := by simp [IntKind.wrap, IntKind.bits, IntKind.signed]; omega
        have w2 : IntKind.i64.wrap (p' : Int) = (p' : Int) := by simp [IntKind.wrap, IntKind.bits, IntKind.signed]; omega
        have q3 : (p : Int) < (n : Int) := by omega
        have q4 : (p' : Int) < (n' : Int) := by omega
        clear hc hc'
        generalize l[p] = s at *
        generalize m[p'] = s' at *
        have HR1 := Lib.hid R1
        have HR2 := Lib.hid R2
        clear R1 R2 hpl hpm
        by_cases hs : s = s'
        · subst hs
          have HTK := Lib.hid (take_rev HE.out HR1.out HR2.out)
          go_wp2_with fail
          go_still_tail 15, (by kernel_rfl)
          change wpList _ _ _ _ _ wr.drew
          go_wp2_with fail
          go_roundw
          case rel => exact ⟨k + 1, by omega, by omega, by omega, by go_num, Lib.hid (by rw [show k + 1 - 1 = k - 1 + 1 by omega]; exact HTK.out), Lib.hid HB.out.drew⟩
          case measure => simp [intOf]; omega
        · have hsn : (s == s') = false := beq_eq_false_iff_ne.2 hs
          have HC := Lib.hid (clash_some (H := hsh) HE.out HR1.out HR2.out hs)
          have X := Lib.hid (fun W h => samesum_any s s' S1.out S2.out W h)
          clear hs
          go_wp2_with fail
          go_still_tail 15, (by kernel_rfl)
          change wpList _ _ _ _ _ wr.drew
          have HBd := Lib.hid HB.out.drew
          generalize hwd : wr.drew = wd at *
          clear hwd
          go_wp2_with fail
          go_still_tail 15, (by kernel_rfl)
          change wpList _ _ _ _ _ wd.drew
          go_wp2_with fail
          refine (X.out _ (tab_up HT.out HBd.out.drew)).mono ?_; rintro e w5 ⟨rfl, b5⟩
          go_wp2_with fail
          rw [Exit.noGoto_ret]
          go_ret3
          exact ⟨by rw [HC.out]; rfl, up_trans HBd.out.drew b5⟩
      · have d2 : decide ((k : Int) > (n' : Int)) = true := by simp; omega
        have d2' : decide ((n' : Int) < (k : Int)) = true := by simp; omega
        have HC := Lib.hid (clash_none (H := hsh) HE.out (by rw [← HN.out]; omega) (by rw [← HN'.out]; omega) (Or.inr (by rw [← HN'.out]; omega)))
        go_wp2_with fail
        rw [Exit.noGoto_ret]
        go_ret3
        exact ⟨by rw [HC.out]; rfl, HB.out⟩
    · have d1 : decide ((k : Int) > (n : Int)) = true := by simp; omega
      have d1' : decide ((n : Int) < (k : Int)) = true := by simp; omega
      have HC := Lib.hid (clash_none (H := hsh) HE.out (by rw [← HN.out]; omega) (by rw [← HN'.out]; omega) (Or.inl (by rw [← HN.out]; omega)))
      go_wp2_with fail
      rw [Exit.noGoto_ret]
      go_ret3
      exact ⟨by rw [HC.out]; rfl, HB.out⟩

end Go.Proofs.YthhcopeejhhpgaaDoor

/- chain.follower: one text of a row. -/
namespace Go.Proofs.YthhcopeejhhpgaaDoor
open Go.RowKit Evt Bat Chn

/-- What a follower is: the batch, or why not. -/
def FolPost (w : World) (a : List UInt8) (f : Nat) (s : List UInt8) (e : Ending) (w' : World) : Prop :=
  ∃ A n c, e = .returned (.tuple #[.agg (if er ⟨[], a, f⟩ s = 0 then btc (gotB s).bt.first (.slice A n c) (gotB s).bt.prev else zbt).toArray, .int .i64 (er ⟨[], a, f⟩ s : Nat)]) ∧ (er ⟨[], a, f⟩ s = 0 → OwnE w.heap.size (.slice A n c) (gotB s).bt.evs w') ∧ Below w.heap.size w w'

theorem fol_no {w w' : World} {a s : List UInt8} {f k : Nat} (h : er ⟨[], a, f⟩ s = k) (hk : k ≠ 0) (b : Below w.heap.size w w') : FolPost w a f s (.returned (.tuple #[.agg zbt.toArray, .int .i64 (k : Nat)])) w' := by
  subst h
  exact ⟨none, 0, 0, by rw [if_neg hk], fun h => absurd h hk, b⟩
theorem fol_yes {w w' : World} {a s : List UInt8} {f u r n c : Nat} {b : Bt} {A : Option Addr} (h : er ⟨[], a, f⟩ s = 0) (hg : gotB s = ⟨b, u, r⟩) (ho : OwnE w.heap.size (.slice A n c) b.evs w') (hb : Below w.heap.size w w') : FolPost w a f s (.returned (.tuple #[.agg (btc b.first (.slice A n c) b.prev).toArray, .int .i64 0])) w' := by
  unfold FolPost
  rw [h, hg]
  exact ⟨A, n, c, by rw [if_pos rfl]; rfl, fun _ => ho, hb⟩

/-- Where it stands. -/
structure Fol (w wr : World) (a : List UInt8) : Prop where
  anc : Has wr w.heap.size 23 (bys a)
  res : Has wr (w.heap.size + 1) 27 zbt
  below : Below w.heap.size w wr
theorem Fol.up {w wr w' : World} {a : List UInt8} (h : Fol w wr a) (b : Below wr.heap.size wr w') : Fol w w' a := ⟨h.anc.up b, h.res.up b, up_trans h.below b⟩
theorem Fol.made {w wr w' : World} {a : List UInt8} {g : Nat} {o : Obj} (h : Fol w wr a) (hg : g = wr.heap.size) (s : Save (fun k => k = g) (wr.alloc o) w') : Fol w w' a := by
  subst hg
  refine h.up ⟨s.os, s.tape, s.output, Nat.le_trans (by simp) s.size, fun k hk => ?_⟩
  rw [s.block k (by simp; omega) (by omega)]
  exact (up_alloc (Below.refl _ wr) o).block k hk

theorem made_up2 {w w' : World} {g : Nat} {o : Obj} (hg : g = w.heap.size) (s : Save (fun k => k = g) (w.alloc o) w') : Below w.heap.size w w' := by
  subst hg
  refine ⟨s.os, s.tape, s.output, Nat.le_trans (by simp) s.size, fun k hk => ?_⟩
  rw [s.block k (by simp; omega) (by omega)]
  exact (up_alloc (Below.refl _ w) o).block k hk

set_option maxHeartbeats 4000000 in
set_option maxRecDepth 100000 in
theorem follower_any (a : List UInt8) (ha : a.length = 32) (f : Nat) (s : List UInt8) (hs : s.length ≤ 100000) (w : World) :
    Calls Tryd.prog 26 #[.agg (bys a).toArray, .int .u64 (f : Nat), .string ⟨s.toArray⟩] w (FolPost w a f s) := by
  have hi := info_batch
  have hu := Tryd.underlying27
  have hdi := info_digest
  have hdu := Tryd.underlying23
  have hz : zbt.length = 34 := btc_length _ _ (by simp)
  have hzo : ∀ v ∈ zbt, v.oneCell' = true := btc_one 0 none 0 0 _
  have hal : (bys a).length = 32 := by rw [bys_length, ha]
  have FL : Hid (Fol w ((w.alloc (.cells (bys a).toArray 23)).alloc (.cells zbt.toArray 27)) a) := Lib.hid ⟨(Has.make w _ _).alloc _, Has.make2 w _ _ _, up_alloc (up_alloc (Below.refl w.heap.size w) _) _⟩
  have hts : (⟨s.toArray⟩ : ByteArray).size = s.length := text_list _
  have g1 := fun W => bget_any ⟨s.toArray⟩ (by rw [text_list]; exact hs) W
  rw [show (⟨s.toArray⟩ : ByteArray).data.toList = s from rfl] at g1
  unfold BgetPost at g1
  have ER : er ⟨[], a, f⟩ s = if (gotB s).err ≠ 0 then (gotB s).err else if (gotB s).used ≠ s.length then 3 else if (gotB s).bt.prev ≠ a ∨ (gotB s).bt.first ≠ f then 11 else 0 := rfl
  have hfit := gotB_fits s
  have HN := Lib.hid (fun k w' => @fol_no w w' a s f k)
  have HAL := Lib.hid ha
  generalize hgb : gotB s = gb at *
  have HGB := Lib.hid hgb
  obtain ⟨⟨first, evs, prev⟩, used, err⟩ := gb
  have HY := Lib.hid (fun A n c w' h => @fol_yes w w' a s f used err n c ⟨first, evs, prev⟩ A h hgb)
  clear hgb hs ha
  simp only at g1 ER
  have hprev := hfit.prev
  simp only at hprev
  have G := Lib.hid g1
  have HER := Lib.hid ER
  have HPV := Lib.hid hprev
  clear g1 ER hprev hfit
  go_enter Tryd.func26, Tryd.ntmps26
  go_wp2_with fail
  refine (G.out _).mono ?_; rintro e w2 ⟨v, rfl, hO, b2⟩
  obtain ⟨A2, n2, cap2, rfl, _, _, _, _⟩ := hO.opened2
  have FL2 := Lib.hid (FL.out.up b2)
  have HO2 := Lib.hid (show OwnE w.heap.size (.slice A2 n2 cap2) evs w2 from hO.mono_base (by simp; omega))
  clear hO b2 FL G
  have hL := btc_length first (.slice A2 n2 cap2) HPV.out
  have hoL := btc_one first A2 n2 cap2 prev
  have hz2 := FL2.out.res.lt
  have hL0 : (btc first (.slice A2 n2 cap2) prev)[0]? = some (.int .u64 (first : Nat)) := rfl
  have HRG := Lib.hid (fun (W : World) (h : Has W w2.heap.size 27 (btc first (.slice A2 n2 cap2) prev)) => btc_range h)
  have HL0 := Lib.hid hL0
  have HYL := Lib.hid (HY.out A2 n2 cap2)
  clear hL0 HY
  generalize btc first (.slice A2 n2 cap2) prev = L at *
  by_cases e1 : err = 0
  · subst e1
    by_cases e2 : used = s.length
    · subst e2
      have hpl : (bys prev).length = 32 := by rw [bys_length, HPV.out]
      by_cases e3 : prev = a
      · subst e3
        have NQ := neq_dig prev prev HAL.out HAL.out
        rw [show (!decide (prev = prev)) = false by simp] at NQ
        by_cases e4 : first = f
        · subst e4
          have HE0 : Hid (er ⟨[], prev, first⟩ s = 0) := Lib.hid (by rw [HER.out]; simp)
          go_wp2_with (first | (refine wpList_store_save rfl 27 _ _ rfl w2.heap.size 27 zbt L (by rfl) (by rfl) (Has.make w2 _ zbt) (by rw [hL, hz]) (by rw [hi, hL]) hoL ?_; intro w3 hF3 s3; have HX3 := Lib.hid hF3; have FL3 := Lib.hid (FL2.out.made rfl s3); have HO3 := Lib.hid (HO2.out.up (made_up2 rfl s3)); have x0 := HX3.out.at HL0.out; clear hF3 s3) | (refine wpList_load_mid rfl 23 _ rfl w2.heap.size 2 (by rfl) (bys prev) _ (HRG.out _ HX3.out) hdu rfl (by rw [hdi, hpl]) ?_) | (refine wpList_load_row rfl 23 _ rfl w.heap.size (by rfl) _ _ _ _ FL3.out.anc hdu rfl (by rw [hdi, List.size_toArray, hal]) ?_) | (refine wpList_load_row rfl 27 _ rfl w2.heap.size (by rfl) _ _ _ _ HX3.out hu rfl (by rw [hi, List.size_toArray, hL]) ?_) | (refine wpList_store_save rfl 27 _ _ rfl (w.heap.size + 1) 27 zbt L (by rfl) (by rfl) FL3.out.res (by rw [hL, hz]) (by rw [hi, hL]) hoL ?_; intro w4 hF4 s4; have HF4 := Lib.hid hF4; have HS4 := Lib.hid s4; clear hF4 s4))
          refine bodyPost_ret_by (results_one Tryd.results26 _ _ (w.heap.size + 1) L (.int .i64 0) (by rfl) HF4.out hL (by rfl)) rfl ?_
          exact HYL.out _ HE0.out (HO3.out.save HS4.out (fun k hk e => Typ.ne FL3.out.res (by decide) (e ▸ hk))) (FL3.out.below.trans (HS4.out.below (fun k e => by omega) FL3.out.below.size))
        · have HC := Lib.hid (fun w' b => HN.out 11 w' (by rw [HER.out, if_neg (by simp), if_neg (by simp), if_pos (Or.inr e4)]) (by decide) b)
          have e5 : ((first : Int) == (f : Int)) = false := by simp; omega
          have e6 : ((first : Int) != (f : Int)) = true := by simp; omega
          clear e4
          go_wp2_with (first | (refine wpList_store_save rfl 27 _ _ rfl w2.heap.size 27 zbt L (by rfl) (by rfl) (Has.make w2 _ zbt) (by rw [hL, hz]) (by rw [hi, hL]) hoL ?_; intro w3 hF3 s3; have HX3 := Lib.hid hF3; have FL3 := Lib.hid (FL2.out.made rfl s3); have x0 := HX3.out.at HL0.out; clear hF3 s3) | (refine wpList_load_mid rfl 23 _ rfl w2.heap.size 2 (by rfl) (bys prev) _ (HRG.out _ HX3.out) hdu rfl (by rw [hdi, hpl]) ?_) | (refine wpList_load_row rfl 23 _ rfl w.heap.size (by rfl) _ _ _ _ FL3.out.anc hdu rfl (by rw [hdi, List.size_toArray, hal]) ?_) | (refine wpList_build rfl 27 _ rfl _ built_none ?_) | (refine wpList_store_save rfl 27 _ _ rfl (w.heap.size + 1) 27 zbt zbt (by rfl) (by rfl) FL3.out.res rfl (by rw [hi, hz]) hzo ?_; intro w4 hF4 s4; have HF4 := Lib.hid hF4; have HS4 := Lib.hid s4; clear hF4 s4))
          refine bodyPost_ret_by (results_one Tryd.results26 _ _ (w.heap.size + 1) zbt (.int .i64 11) (by rfl) HF4.out hz (by rfl)) rfl ?_
          exact HC.out _ (FL3.out.below.trans (HS4.out.below (fun k e => by omega) FL3.out.below.size))
      · have HC := Lib.hid (fun w' b => HN.out 11 w' (by rw [HER.out, if_neg (by simp), if_neg (by simp), if_pos (Or.inl e3)]) (by decide) b)
        have NQ := neq_dig prev a HPV.out HAL.out
        rw [show (!decide (prev = a)) = true by simp [e3]] at NQ
        go_wp2_with (first | (refine wpList_store_save rfl 27 _ _ rfl w2.heap.size 27 zbt L (by rfl) (by rfl) (Has.make w2 _ zbt) (by rw [hL, hz]) (by rw [hi, hL]) hoL ?_; intro w3 hF3 s3; have HX3 := Lib.hid hF3; have FL3 := Lib.hid (FL2.out.made rfl s3); have x0 := HX3.out.at HL0.out; clear hF3 s3) | (refine wpList_load_mid rfl 23 _ rfl w2.heap.size 2 (by rfl) (bys prev) _ (HRG.out _ HX3.out) hdu rfl (by rw [hdi, hpl]) ?_) | (refine wpList_load_row rfl 23 _ rfl w.heap.size (by rfl) _ _ _ _ FL3.out.anc hdu rfl (by rw [hdi, List.size_toArray, hal]) ?_) | (refine wpList_build rfl 27 _ rfl _ built_none ?_) | (refine wpList_store_save rfl 27 _ _ rfl (w.heap.size + 1) 27 zbt zbt (by rfl) (by rfl) FL3.out.res rfl (by rw [hi, hz]) hzo ?_; intro w4 hF4 s4; have HF4 := Lib.hid hF4; have HS4 := Lib.hid s4; clear hF4 s4))
        refine bodyPost_ret_by (results_one Tryd.results26 _ _ (w.heap.size + 1) zbt (.int .i64 11) (by rfl) HF4.out hz (by rfl)) rfl ?_
        exact HC.out _ (FL3.out.below.trans (HS4.out.below (fun k e => by omega) FL3.out.below.size))
    · have HC := Lib.hid (fun w' b => HN.out 3 w' (by rw [HER.out, if_neg (by simp), if_pos e2]) (by decide) b)
      have e5 : ((used : Int) == (s.length : Int)) = false := by simp; omega
      have e6 : ((used : Int) != (s.length : Int)) = true := by simp; omega
      clear e2
      go_wp2_with (first | (refine wpList_store_save rfl 27 _ _ rfl w2.heap.size 27 zbt L (by rfl) (by rfl) (Has.make w2 _ zbt) (by rw [hL, hz]) (by rw [hi, hL]) hoL ?_; intro w3 hF3 s3; have FL3 := Lib.hid (FL2.out.made rfl s3); clear hF3 s3) | (refine wpList_build rfl 27 _ rfl _ built_none ?_) | (refine wpList_store_save rfl 27 _ _ rfl (w.heap.size + 1) 27 zbt zbt (by rfl) (by rfl) FL3.out.res rfl (by rw [hi, hz]) hzo ?_; intro w4 hF4 s4; have HF4 := Lib.hid hF4; have HS4 := Lib.hid s4; clear hF4 s4))
      refine bodyPost_ret_by (results_one Tryd.results26 _ _ (w.heap.size + 1) zbt (.int .i64 3) (by rfl) HF4.out hz (by rfl)) rfl ?_
      exact HC.out _ (FL3.out.below.trans (HS4.out.below (fun k e => by omega) FL3.out.below.size))
  · have HC := Lib.hid (fun w' b => HN.out err w' (by rw [HER.out, if_pos e1]) e1 b)
    have e5 : ((err : Int) == 0) = false := by simp; omega
    have e6 : ((err : Int) != 0) = true := by simp; omega
    clear e1
    go_wp2_with (first | (refine wpList_store_save rfl 27 _ _ rfl w2.heap.size 27 zbt L (by rfl) (by rfl) (Has.make w2 _ zbt) (by rw [hL, hz]) (by rw [hi, hL]) hoL ?_; intro w3 hF3 s3; have FL3 := Lib.hid (FL2.out.made rfl s3); clear hF3 s3) | (refine wpList_build rfl 27 _ rfl _ built_none ?_) | (refine wpList_store_save rfl 27 _ _ rfl (w.heap.size + 1) 27 zbt zbt (by rfl) (by rfl) FL3.out.res rfl (by rw [hi, hz]) hzo ?_; intro w4 hF4 s4; have HF4 := Lib.hid hF4; have HS4 := Lib.hid s4; clear hF4 s4))
    refine bodyPost_ret_by (results_one Tryd.results26 _ _ (w.heap.size + 1) zbt (.int .i64 (err : Nat)) (by rfl) HF4.out hz (by rfl)) rfl ?_
    exact HC.out _ (FL3.out.below.trans (HS4.out.below (fun k e => by omega) FL3.out.below.size))

end Go.Proofs.YthhcopeejhhpgaaDoor

/- chain.Check. -/
namespace Go.Proofs.YthhcopeejhhpgaaDoor
open Go.RowKit Evt Bat Chn

/-- Where a check stands. -/
structure Ckp (w wr : World) (c : Cs) (v : Value) : Prop where
  own : OwnE w.heap.size v c.acc wr
  sum : Has wr (w.heap.size + 1 + 1) 23 (bys c.a)
  res : Has wr (w.heap.size + 1) 23 (bys z32)
  below : Below w.heap.size w wr
theorem Ckp.up {w wr w' : World} {c : Cs} {v : Value} (h : Ckp w wr c v) (b : Below wr.heap.size wr w') : Ckp w w' c v :=
  ⟨h.own.up b, h.sum.up b, h.res.up b, up_trans h.below b⟩
/-- .. behind an append. -/
theorem Ckp.push {w wr w' : World} {c : Cs} {v v' : Value} {evs : List Ev} (h : Ckp w wr c v) (ho : OwnE w.heap.size v' (c.acc ++ evs) w') (s : Save (Typ w.heap.size 47 wr) wr w') : Ckp w w' ⟨c.acc ++ evs, c.a, c.f⟩ v' :=
  ⟨ho, s.has h.sum (Typ.ne h.sum (by decide)), s.has h.res (Typ.ne h.res (by decide)), h.below.trans (s.below (fun _ hk => hk.1) h.below.size)⟩
/-- .. behind the store of a sum. -/
theorem Ckp.summed {w wr w' : World} {c : Cs} {v : Value} {x : List UInt8} (h : Ckp w wr c v) (hx : Has w' (w.heap.size + 1 + 1) 23 (bys x)) (s : Save (fun k => k = w.heap.size + 1 + 1) wr w') : Ckp w w' ⟨c.acc, x, c.f⟩ v :=
  ⟨h.own.save s (fun k hk e => Typ.ne h.sum (by decide) (e ▸ hk)), hx, s.has h.res (fun e => by omega), h.below.trans (s.below (fun k e => by omega) h.below.size)⟩
theorem Ckp.num {w wr : World} {c : List Ev} {x : List UInt8} {f f' : Nat} {v : Value} (h : Ckp w wr ⟨c, x, f⟩ v) : Ckp w wr ⟨c, x, f'⟩ v := ⟨h.own, h.sum, h.res, h.below⟩

theorem last_next (first n : Nat) : IntKind.u64.wrap (((lastB first n : Nat) : Int) + 1) = (((first + n) % 18446744073709551616 : Nat) : Int) := by
  simp only [IntKind.wrap_u64]; unfold lastB; omega

theorem er_bare (st : Cs) (s : List UInt8) : er ⟨[], st.a, st.f⟩ s = er st s := rfl

set_option maxHeartbeats 4000000 in
set_option maxRecDepth 100000 in
theorem check_any (a : List UInt8) (ha : a.length = 32) (f : Nat) (hf : f < 18446744073709551616) (A : Option Addr) (l : List (List UInt8)) (n c : Nat) (hn : n = l.length) (hl : l.length ≤ 1000) (hls : ∀ s ∈ l, s.length ≤ 100000) (w : World) (hTab : Tab w) (hA : StSl w A l) :
    Calls Tryd.prog 14 #[.agg (bys a).toArray, .int .u64 (f : Nat), .slice A n c] w (ChkPost w (chk hsh a f l)) := by
  have hi := info_batch
  have hu := Tryd.underlying27
  have hdi := info_digest
  have hdu := Tryd.underlying23
  have hz : zbt.length = 34 := btc_length _ _ (by simp)
  have hzo : ∀ v ∈ zbt, v.oneCell' = true := btc_one 0 none 0 0 _
  have hzl : (bys z32).length = 32 := by rw [bys_length]; rfl
  have hal : (bys a).length = 32 := by rw [bys_length, ha]
  have hao := bys_one a
  have HX0 := Lib.hid ((Has.make w 23 (bys a)).alloc (.cells (bys z32).toArray 23))
  have HR0 := Lib.hid ((Has.make2 w (.cells (bys a).toArray 23) 23 (bys z32)).alloc (.cells (bys z32).toArray 23))
  have HS0 := Lib.hid (Has.make3 w (.cells (bys a).toArray 23) (.cells (bys z32).toArray 23) 23 (bys z32))
  have B0 := Lib.hid (up_alloc (up_alloc (up_alloc (Below.refl w.heap.size w) (.cells (bys a).toArray 23)) (.cells (bys z32).toArray 23)) (.cells (bys z32).toArray 23))
  have HA := Lib.hid hA
  have HN := Lib.hid hn
  have HLS := Lib.hid hls
  have HF := Lib.hid hf
  have HAL := Lib.hid ha
  have HT := Lib.hid (fun W (hb : Below w.heap.size w W) => tab_up hTab hb)
  have nb : n ≤ 1000 := by omega
  clear hA hn hls hf ha hl hTab
  go_enter Tryd.func14, Tryd.ntmps14
  go_wp2_with (first | (refine wpList_load_row rfl 23 _ rfl w.heap.size (by rfl) _ _ _ _ HX0.out hdu rfl (by rw [hdi, List.size_toArray, hal]) ?_) | (refine wpList_store_save rfl 23 _ _ rfl (w.heap.size + 1 + 1) 23 (bys z32) (bys a) (by rfl) (by rfl) HS0.out (by rw [hal, hzl]) (by rw [hdi, hal]) hao ?_; intro w1 hF1 s1; have CK0 : Hid (Ckp w w1 ⟨[], a, f⟩ (.slice none 0 0)) := Lib.hid ⟨OwnE.nil _ _, hF1, s1.has HR0.out (fun e => by omega), B0.out.trans (s1.below (fun k e => by omega) B0.out.size)⟩; clear hF1 s1))
  clear HX0 HR0 HS0 B0 hao hal
  go_loopw [9, 11, 20] (fun v9 v11 i wr => ∃ (k : Nat) (st : Cs), k ≤ n ∧ v11 = .int .u64 (st.f : Nat) ∧ i = .int .i64 (k : Nat) ∧ Hid (run hsh (l.take k) ⟨[], a, f⟩ = (st, 0)) ∧ Hid (Ckp w wr st v9)) (fun _ _ i _ => n - (intOf i).toNat)
  case atStart => exact ⟨0, ⟨[], a, f⟩, Nat.zero_le _, rfl, rfl, Lib.hid (by rw [List.take_zero]; rfl), CK0⟩
  case round =>
    obtain ⟨k, st, hk, rfl, rfl, HR, CK⟩ := hrel
    clear CK0
    have HSL : Hid (st.a.length = 32) := Lib.hid (by
      have := run_len32 (H := hsh) hsh_len (l.take k) (c := ⟨[], a, f⟩) HAL.out
      rwa [HR.out] at this)
    have hal : (bys st.a).length = 32 := by rw [bys_length, HSL.out]
    have hso := bys_one st.a
    by_cases hlt : k < n
    · have hkl : k < l.length := by rw [← HN.out]; exact hlt
      obtain ⟨g, o, hAe, hc⟩ := (HA.out.up CK.out.below).out (by omega)
      subst hAe
      have cc := hc k l[k] (List.getElem?_eq_getElem hkl)
      have S1 := HLS.out _ (List.getElem_mem hkl)
      have HH := Lib.hid (fun x hx he => chk_halt (H := hsh) hkl HR.out (x := x) hx he)
      have HO1 := Lib.hid (fun he => run_on (H := hsh) hkl HR.out he)
      have klt : (k : Int) < (n : Int) := by omega
      have fo := fun W => follower_any st.a HSL.out st.f l[k] S1 W
      unfold FolPost at fo
      simp only [er_bare] at fo
      have hfit := gotB_fits l[k]
      clear hc
      generalize hgb : gotB l[k] = gb at *
      have HGB := Lib.hid hgb
      clear hgb
      generalize l[k] = s at *
      have HX := Lib.hid (fun W h => hof_any s S1 W h)
      obtain ⟨⟨first, evs, prev⟩, used, err⟩ := gb
      have hprev := hfit.prev
      simp only at hprev fo
      have HPV := Lib.hid hprev
      clear hprev hfit S1
      by_cases e1 : er st s = 0
      · simp only [e1, if_true, forall_const] at fo
        have FO := Lib.hid fo
        have HO1' := Lib.hid (HO1.out e1)
        clear fo e1 HH
        go_wp2_with (refine wpList_load_row rfl 23 _ rfl (w.heap.size + 1 + 1) (by rfl) _ _ _ _ CK.out.sum hdu rfl (by rw [hdi, List.size_toArray, hal]) ?_)
        refine (FO.out _).mono ?_; rintro e w2 ⟨A2, n2, cap2, rfl, hO, b2⟩
        obtain ⟨A3, n3, cap3, hv, hn2, _, _, hca⟩ := hO.opened2
        injection hv with v1 v2 v3
        subst v1 v2 v3
        have HCA := Lib.hid hca
        have HO2 := Lib.hid hO
        have HN2 := Lib.hid hn2
        have CK2 := Lib.hid (CK.out.up b2)
        clear hO b2 hn2 hca FO
        have hL := btc_length first (.slice A2 n2 cap2) HPV.out
        have hoL := btc_one first A2 n2 cap2 prev
        have hz2 := CK2.out.sum.lt
        have HL1 := Lib.hid (show (btc first (.slice A2 n2 cap2) prev)[1]? = some (.slice A2 n2 cap2) from rfl)
        have hnx : Hid (nx hsh st s = ⟨st.acc ++ evs, hsh s, (first + n2) % 18446744073709551616⟩) := Lib.hid (by unfold nx; rw [HGB.out]; simp only [HN2.out])
        have HBD := Lib.hid (show st.acc.length + n2 ≤ 1000000 by
          obtain ⟨j1, _, j2, _, j3⟩ := run_num (H := hsh) (l := l.take k) (c := ⟨[], a, f⟩) HF.out (by rw [HR.out])
          obtain ⟨j4, _, j5, _, j6⟩ := run_num (H := hsh) (l := l.take (k + 1)) (c := ⟨[], a, f⟩) HF.out (by rw [HO1'.out])
          rw [HO1'.out, hnx.out] at j5
          simp only [List.length_append, List.length_nil, Nat.zero_add] at j5
          rw [List.length_take] at j6
          have := HN2.out
          omega)
        have LST := Lib.hid (fun W => blast_any first n2 (by have := HBD.out; omega) A2 cap2 prev W)
        have hln := last_next first n2
        generalize btc first (.slice A2 n2 cap2) prev = L at *
        go_wp2_with (first | (refine wpList_store_save rfl 27 _ _ rfl w2.heap.size 27 zbt L (by rfl) (by rfl) (Has.make w2 _ zbt) (by rw [hL, hz]) (by rw [hi, hL]) hoL ?_; intro w3 hF3 s3; have HX3 := Lib.hid hF3; have CK3 := Lib.hid (CK2.out.up (made_up2 rfl s3)); have HO3 := Lib.hid (HO2.out.up (made_up2 rfl s3)); have x1 := HX3.out.at HL1.out; clear hF3 s3) | (refine wpList_pushEs rfl (.tmp 35) (.tmp 37) rfl w.heap.size _ st.acc rfl CK3.out.own A2 n2 cap2 evs rfl HN2.out.symm HO3.out.slice.2.2 HCA.out HBD.out CK3.out.below.size ?_; intro v' w4 ho4 s4; have HX4 := Lib.hid (s4.has HX3.out (Typ.ne HX3.out (by decide))); have CK4 := Lib.hid (CK3.out.push ho4 s4); clear ho4 s4))
        have hhl : (bys (hsh s)).length = 32 := by rw [bys_length, hsh_len]
        have hho := bys_one (hsh s)
        have hX4 := HX4.out.lt
        refine wp_region_held_drew (S := fun W => W.rangeAt w2.heap.size 0 L) (by kernel_rfl) (HX4.out.drew.whole) (fun hHeld => ?_)
        refine wpAnyH_take (i := 0) (v := ?_) rfl (by kernel_rfl) (by kernel_rfl) (by kernel_rfl) (fun _ _ _ h => h) (Or.inl ⟨by rfl, ?_⟩) (by assumption) ?_
        rotate_left
        · intro w hSw; (try dsimp only at hSw); go_simp; try with_reducible rfl
        try simp only [Act.put, List.getElem_toArray, List.getElem_cons_zero, List.setIfInBounds_toArray, List.set_cons_zero, List.set_cons_succ]
        refine wpAnyH_take (i := 2) rfl (by kernel_rfl) (by kernel_rfl) (by kernel_rfl) (fun _ _ _ h => h) (yieldsIf_load_mid (by rfl) _ _ rfl w2.heap.size 0 rfl L _ (fun W h => h) hu rfl (by rw [hi, hL])) (by assumption) ?_
        try simp only [Act.put, List.getElem_toArray, List.getElem_cons_zero, List.getElem_cons_succ, List.setIfInBounds_toArray, List.set_cons_zero, List.set_cons_succ]
        refine wpAnyH_ready (rs := [1]) (by kernel_rfl) (by simp) (AllReadyH.cons rfl (fun K hK => ?_) AllReadyH.nil)
        go_simp
        refine (HX.out _ (HT.out _ (up_trans CK4.out.below (Below.refl _ _).drew))).mono ?_; rintro e wn ⟨rfl, hbn'⟩
        have hbn : Below w4.heap.size w4 wn := up_trans (Below.refl _ _).drew hbn'
        clear hbn'
        go_wp2_with fail
        refine hK.out _ _ ((HX4.out.up hbn).whole) (fun hHeld => ?_)
        clear hK K
        try simp only [Act.put, List.getElem_toArray, List.getElem_cons_zero, List.getElem_cons_succ, List.setIfInBounds_toArray, List.set_cons_zero, List.set_cons_succ]
        refine wpAnyH_ready (rs := [3]) (by kernel_rfl) (by simp) (AllReadyH.cons rfl (fun K hK => ?_) AllReadyH.nil)
        go_simp
        refine (LST.out _).mono ?_; rintro e wn ⟨rfl, hbn'⟩
        replace hbn : Below w4.heap.size w4 wn := up_trans hbn hbn'
        clear hbn'
        go_wp2_with fail
        refine hK.out _ _ ((HX4.out.up hbn).whole) (fun hHeld => ?_)
        clear hK K
        try simp only [Act.put, List.getElem_toArray, List.getElem_cons_zero, List.getElem_cons_succ, List.setIfInBounds_toArray, List.set_cons_zero, List.set_cons_succ]
        refine wpAnyH_take (i := 4) (v := ?_) rfl (by kernel_rfl) (by kernel_rfl) (by kernel_rfl) (fun _ _ _ h => h) (Or.inl ⟨by rfl, ?_⟩) (by assumption) ?_
        rotate_left
        · intro w hSw; (try dsimp only at hSw); go_simp; try with_reducible rfl
        try simp only [Act.put, List.getElem_toArray, List.getElem_cons_zero, List.getElem_cons_succ, List.setIfInBounds_toArray, List.set_cons_zero, List.set_cons_succ]
        refine wpAnyH_ready (rs := [5]) (by kernel_rfl) (by simp) (AllReadyH.cons rfl (fun K hK => ?_) AllReadyH.nil)
        refine wp_store_save 23 _ _ rfl (w.heap.size + 1 + 1) 23 (bys st.a) (bys (hsh s)) (by rfl) (by rfl) (CK4.out.up hbn).sum (by rw [hhl, hal]) (by rw [hdi, hhl]) hho ?_; intro w6 hF6 s6; have CK6 := Lib.hid ((CK4.out.up hbn).summed hF6 s6); have HS6 := Lib.hid s6; clear hF6 s6
        refine hK.out _ _ ((HS6.out.has (HX4.out.up hbn) (fun e => by omega)).whole) (fun hHeld => ?_)
        clear hK K
        try simp only [Act.put, List.getElem_toArray, List.getElem_cons_zero, List.getElem_cons_succ]
        refine wpAnyH_take (i := 6) (v := ?_) rfl (by kernel_rfl) (by kernel_rfl) (by kernel_rfl) (fun _ _ _ h => h) (Or.inl ⟨by rfl, ?_⟩) (by assumption) ?_
        rotate_left
        · intro w hSw; (try dsimp only at hSw); go_simp; try with_reducible rfl
        try simp only [Act.put, List.getElem_toArray, List.getElem_cons_zero, List.getElem_cons_succ, List.setIfInBounds_toArray, List.set_cons_zero, List.set_cons_succ]
        refine wpAnyH_done (by kernel_rfl) ?_ _
        skip
        go_wp2_with fail
        go_roundw
        case rel => exact ⟨k + 1, nx hsh st s, by omega, by rw [hnx.out]; simp, by go_num, HO1', Lib.hid (by rw [hnx.out]; exact CK6.out.num)⟩
        case measure => simp [intOf]; omega
      · have HC := Lib.hid (HH.out (er st s) rfl e1)
        simp only [e1, if_false, false_implies, true_and] at fo
        generalize er st s = x at *
        have FO := Lib.hid fo
        have e5 : ((x : Int) == 0) = false := by simp; omega
        have e6 : ((x : Int) != 0) = true := by simp; omega
        clear fo e1 HH HO1
        go_wp2_with (refine wpList_load_row rfl 23 _ rfl (w.heap.size + 1 + 1) (by rfl) _ _ _ _ CK.out.sum hdu rfl (by rw [hdi, List.size_toArray, hal]) ?_)
        refine (FO.out _).mono ?_; rintro e w2 ⟨A2, n2, cap2, rfl, b2⟩
        have CK2 := Lib.hid (CK.out.up b2)
        clear b2
        go_wp2_with (first | (refine wpList_store_save rfl 27 _ _ rfl w2.heap.size 27 zbt zbt (by rfl) (by rfl) (Has.make w2 _ zbt) rfl (by rw [hi, hz]) hzo ?_; intro w3 hF3 s3; have CK3 := Lib.hid (CK2.out.up (made_up2 rfl s3)); clear hF3 s3) | (refine wpList_store_save rfl 23 _ _ rfl (w.heap.size + 1) 23 (bys z32) (bys z32) (by rfl) (by rfl) CK3.out.res rfl (by rw [hdi, hzl]) (bys_one _) ?_; intro w4 hF4 s4; have HF4 := Lib.hid hF4; have HS4 := Lib.hid s4; clear hF4 s4))
        refine bodyPost_ret_by (results_chk Tryd.results14 _ _ (w.heap.size + 1) z32 (.slice none 0 0) (.int .i64 (x : Nat)) (by rfl) HF4.out (by rfl) (by rfl) (by rfl)) rfl ?_
        rw [HC.out]
        exact ⟨_, rfl, OwnE.nil _ _, CK3.out.below.trans (HS4.out.below (fun k e => by omega) CK3.out.below.size)⟩
    · obtain rfl : k = n := by omega
      have HC := Lib.hid (chk_end (H := hsh) HN.out HR.out)
      obtain ⟨A2, _, cap2, rfl, rfl, _, _⟩ := CK.out.own.opened
      go_wp2_with fail
      refine wp_region_held_drew (S := fun W => W.rangeAt (w.heap.size + 1 + 1) 0 (bys st.a)) (by kernel_rfl) (CK.out.sum.drew.whole) (fun hHeld => ?_)
      refine wpAnyH_take (i := 0) (v := ?_) rfl (by kernel_rfl) (by kernel_rfl) (by kernel_rfl) (fun _ _ _ h => h) (Or.inl ⟨by rfl, ?_⟩) (by assumption) ?_
      rotate_left
      · intro w hSw; (try dsimp only at hSw); go_simp; try with_reducible rfl
      try simp only [Act.put, List.getElem_toArray, List.getElem_cons_zero, List.setIfInBounds_toArray, List.set_cons_zero, List.set_cons_succ]
      refine wpAnyH_take (i := 1) rfl (by kernel_rfl) (by kernel_rfl) (by kernel_rfl) (fun _ _ _ h => h) (yieldsIf_load_mid (by rfl) _ _ rfl (w.heap.size + 1 + 1) 0 rfl (bys st.a) _ (fun W h => h) hdu rfl (by rw [hdi, hal])) (by assumption) ?_
      try simp only [Act.put, List.getElem_toArray, List.getElem_cons_zero, List.getElem_cons_succ, List.setIfInBounds_toArray, List.set_cons_zero, List.set_cons_succ]
      refine wpAnyH_take (i := 2) (v := ?_) rfl (by kernel_rfl) (by kernel_rfl) (by kernel_rfl) (fun _ _ _ h => h) (Or.inl ⟨by rfl, ?_⟩) (by assumption) ?_
      rotate_left
      · intro w hSw; (try dsimp only at hSw); go_simp; try with_reducible rfl
      try simp only [Act.put, List.getElem_toArray, List.getElem_cons_zero, List.getElem_cons_succ, List.setIfInBounds_toArray, List.set_cons_zero, List.set_cons_succ]
      refine wpAnyH_ready (rs := [3]) (by kernel_rfl) (by simp) (AllReadyH.cons rfl (fun K hK => ?_) AllReadyH.nil)
      refine wp_store_save 23 _ _ rfl (w.heap.size + 1) 23 (bys z32) (bys st.a) (by rfl) (by rfl) CK.out.res.drew (by rw [hal, hzl]) (by rw [hdi, hal]) hso ?_; intro w4 hF4 s4; have HF4 := Lib.hid hF4; have HS4 := Lib.hid s4; clear hF4 s4
      refine hK.out _ _ ((HS4.out.has CK.out.sum.drew (fun e => by omega)).whole) (fun hHeld => ?_)
      clear hK K
      try simp only [Act.put, List.getElem_toArray, List.getElem_cons_zero, List.getElem_cons_succ]
      refine wpAnyH_take (i := 4) (v := ?_) rfl (by kernel_rfl) (by kernel_rfl) (by kernel_rfl) (fun _ _ _ h => h) (Or.inl ⟨by rfl, ?_⟩) (by assumption) ?_
      rotate_left
      · intro w hSw; (try dsimp only at hSw); go_simp; try with_reducible rfl
      try simp only [Act.put, List.getElem_toArray, List.getElem_cons_zero, List.getElem_cons_succ, List.setIfInBounds_toArray, List.set_cons_zero, List.set_cons_succ]
      refine wpAnyH_done (by kernel_rfl) ?_ _
      skip
      go_wp2_with fail
      refine bodyPost_ret_by (results_chk Tryd.results14 _ _ (w.heap.size + 1) st.a (.slice A2 st.acc.length cap2) (.int .i64 0) (by rfl) HF4.out HSL.out (by rfl) (by rfl)) rfl ?_
      rw [HC.out]
      exact ⟨_, rfl, (CK.out.own.up (Below.refl _ _).drew).save HS4.out (fun k hk e => Typ.ne (CK.out.res.drew) (by decide) (e ▸ hk)), CK.out.below.trans (HS4.out.drewed.below (fun k e => by omega) CK.out.below.size)⟩

end Go.Proofs.YthhcopeejhhpgaaDoor

/- chain.Link, first part: a copy of a slice of events; a batch put together of it. -/
namespace Go.Proofs.YthhcopeejhhpgaaDoor
open Go.RowKit Wire Evt Bat Crc Chn

/-- A copy of the events of any slice, nil too. -/
theorem clone_any (A : Option Addr) (l : List Ev) (n c : Nat) (hn : n = l.length) (hm : l.length ≤ 1000) (w : World) (hA : EvSl w A l) :
    Calls Tryd.prog 23 #[.slice A n c] w fun e w' => ∃ A' n' c', e = .returned (.slice A' n' c') ∧ OwnE w.heap.size (.slice A' n' c') l w' ∧ Below w.heap.size w w' := by
  have q : ∀ (w : World) (a : Option Addr) (n c n' c' : Nat), (binOp .eql 24 (.slice a n c) (.slice none n' c')).run Tryd.prog w = .ok (.bool a.isNone) w := fun w a n c n' c' => Lib.run_eql_slice_nil w _ _ a n c n' c' Tryd.underlying24
  cases A with
  | none =>
    have hl : l = [] := by
      cases l with
      | nil => rfl
      | cons x m =>
        obtain ⟨g, o, h, _⟩ := hA (by simp)
        cases h
    subst hl
    clear hA hm
    go_enter Tryd.func23, Tryd.ntmps23
    go_wp2_with fail
    go_ret
    exact ⟨none, 0, 0, rfl, OwnE.nil _ _, Below.refl _ _⟩
  | some ad =>
    have HA := Lib.hid hA
    have HN := Lib.hid hn
    have HM := Lib.hid hm
    clear hA hn hm
    go_enter Tryd.func23, Tryd.ntmps23
    go_wp2_with (refine wpList_pushEs rfl (.tmp 5) (.tmp 6) rfl w.heap.size _ [] rfl ⟨World.ownsRow_made w #[] 0 (Nat.le_refl _) (Nat.zero_le _) (by simp)⟩ (some ad) n c l rfl HN.out.symm (HA.out.up (up_alloc (Below.refl _ _) _)) (fun h => by cases h) (by have := HM.out; have := HN.out; simp; omega) (by simp) ?_; intro v' w1 ho s1; have HO := Lib.hid ho; have HB := Lib.hid ((up_alloc (Below.refl w.heap.size w) (.cells #[] 47)).trans (s1.below (fun k hk => hk.1) (by simp))); clear ho s1)
    obtain ⟨A', n', c', rfl, _, _, _, _⟩ := HO.out.opened2
    go_ret
    exact ⟨A', n', c', rfl, HO.out, HB.out⟩

theorem yieldsIf_bat {ops : Array Oper} {S : World → Prop} {op : Oper} {a : Act} (hw : Region.wanted op (yielded ops a.tmps) = true) (t : TypeId) (parts : Array (Nat × Operand)) (ho : op.op = .build t parts)
    (cells : Array Value) (hc : Tryd.prog.built t (parts.toList.map fun p => (p.1, a.eval p.2)) = some cells) : YieldsIf Tryd.prog ops S op (.agg cells) a :=
  .inl ⟨hw, fun w _ => by
    unfold execOp
    have hc' : Tryd.prog.built t (parts.map fun (i, x) => (i, a.eval x)).toList = some cells := by rw [Array.toList_map]; exact hc
    simp only [ho, Sem.run_bind, run_build w t _ cells hc', Result.andThen_ok]
    rfl⟩

/-- A batch, put together of its events and the sum ahead, in this order. -/
theorem built_ev (v : Value) (hv : v.cells = #[v]) (p : List UInt8) (hp : p.length = 32) : Tryd.prog.built 27 [(1, v), (2, .agg (bys p).toArray)] = some (btc 0 v p).toArray := by
  obtain ⟨it, hit, hz⟩ := Option.map_eq_some_iff.1 zero_batch
  obtain ⟨fs, hu, hf⟩ : ∃ fs : Array Field, Tryd.prog.underlying 27 = some (.struct fs) ∧ fs.toList.mapM (fun f => (Tryd.prog.info? f.type).map fun i => (f.offset, i.size)) = some [(0, 1), (1, 1), (2, 32)] := ⟨_, Tryd.underlying27, by kernel_rfl⟩
  unfold Program.built
  simp only [hit, hu, hz, hf]
  have hbl : (bys p).toArray.size = 32 := by rw [List.size_toArray, bys_length, hp]
  have hbl2 : (bys p).length = 32 := by rw [bys_length, hp]
  have hzl : zbt.length = 34 := btc_length _ _ (by simp)
  have hzl2 : (btc 0 v (List.replicate 32 0)).length = 34 := btc_length _ _ (by simp)
  show Instr.fill ([(0, 1), (1, 1), (2, 32)].toArray[·]?) zbt.toArray [(1, v), (2, .agg (bys p).toArray)] = _
  unfold Instr.fill
  have hpl1 : ([(0, 1), (1, 1), (2, 32)] : List (Nat × Nat)).toArray[1]? = some (1, 1) := rfl
  simp only [hpl1, hv]
  rw [if_neg (by simp [hzl])]
  have e1 : (#[v] : Array Value).zipIdx.foldl (fun (c : Array Value) (p : Value × Nat) => c.setIfInBounds (1 + p.2) p.1) zbt.toArray = (btc 0 v (List.replicate 32 0)).toArray := by
    simp [zbt, btc]
  rw [e1]
  unfold Instr.fill
  have hpl : ([(0, 1), (1, 1), (2, 32)] : List (Nat × Nat)).toArray[2]? = some (2, 32) := rfl
  simp only [hpl]
  have hcs : (Value.agg (bys p).toArray).cells = (bys p).toArray := rfl
  rw [hcs, hbl, if_neg (by rw [List.size_toArray, hzl2]; decide)]
  have hf1 := fold_puts (bys p) 0 2 (btc 0 v (List.replicate 32 0)) (by rw [hbl2, hzl2]; decide)
  have hf2 : (bys p).toArray.zipIdx.foldl (fun (c : Array Value) (p : Value × Nat) => c.setIfInBounds (2 + p.2) p.1) (btc 0 v (List.replicate 32 0)).toArray = (btc 0 v p).toArray := by
    rw [← Array.foldl_toList, Array.toList_zipIdx, hf1, hbl2]
    have : (btc 0 v (List.replicate 32 0)).drop 34 = [] := by rw [List.drop_eq_nil_iff]; omega
    show ([_, _] ++ bys p ++ (btc 0 v (List.replicate 32 0)).drop 34).toArray = _
    rw [this, List.append_nil]
    rfl
  rw [hf2]
  rfl

end Go.Proofs.YthhcopeejhhpgaaDoor

/- chain.Link. -/
namespace Go.Proofs.YthhcopeejhhpgaaDoor
open Go.RowKit Wire Evt Bat Crc Chn

/-- Where a link stands: its result, its batch at any block, the copy of the events. -/
structure Lnq (w wr : World) (g : Nat) (L : List Value) (v : Value) (l : List Ev) : Prop where
  res : Has wr (w.heap.size + 1) 27 zbt
  bat : Has wr g 27 L
  own : OwnE w.heap.size v l wr
  below : Below w.heap.size w wr
  far : w.heap.size + 2 ≤ g
theorem Lnq.up {w wr w' : World} {g : Nat} {L : List Value} {v : Value} {l : List Ev} (h : Lnq w wr g L v l) (b : Below wr.heap.size wr w') : Lnq w w' g L v l := ⟨h.res.up b, h.bat.up b, h.own.up b, up_trans h.below b, h.far⟩
theorem Lnq.store {w wr w' : World} {g : Nat} {L L' : List Value} {v : Value} {l : List Ev} (h : Lnq w wr g L v l) (hF : Has w' g 27 L') (s : Save (fun k => k = g) wr w') : Lnq w w' g L' v l :=
  ⟨s.has h.res (fun e => by have := h.far; omega), hF, h.own.save s (fun k hk e => Typ.ne h.bat (by decide) (e ▸ hk)), h.below.trans (s.below (fun k e => by have := h.far; omega) h.below.size), h.far⟩
theorem Lnq.first {w wr : World} {g : Nat} {v : Value} {p : List UInt8} {l : List Ev} (h : Lnq w wr g (btc 0 v p) v l) (q : Nat) : Lnq w (wr.setCell ⟨g, 0, none⟩ (.int .u64 (q : Nat))) g (btc q v p) v l := by
  have s : Save (fun k => k = g) wr (wr.setCell ⟨g, 0, none⟩ (.int .u64 (q : Nat))) := Save.one wr g 0 (.int .u64 (q : Nat))
  exact h.store (h.bat.set 0 (.int .u64 (q : Nat))) s

set_option maxHeartbeats 4000000 in
set_option maxRecDepth 100000 in
theorem link_none_any (p : List UInt8) (hp : p.length = 32) (A : Option Addr) (n cap : Nat) (hn : n = 0) (w : World) (hA : EvSl w A []) :
    Calls Tryd.prog 9 #[.agg (bys p).toArray, .slice A n cap] w fun e w' => LinkedTo p [] e w' ∧ Below w.heap.size w w' := by
  have hz : zbt.length = 34 := btc_length _ _ (by simp)
  have hzo : ∀ v ∈ zbt, v.oneCell' = true := btc_one 0 none 0 0 _
  have hi := info_batch
  have hu := Tryd.underlying27
  have hdi := info_digest
  have hdu := Tryd.underlying23
  have hpl : (bys p).length = 32 := by rw [bys_length, hp]
  have HBE := Lib.hid (fun A n c => built_ev (.slice A n c) rfl p hp)
  have HN0 := Lib.hid built_none
  have HBL := Lib.hid (fun q A n c => btc_length q (.slice A n c) hp)
  have HBO := Lib.hid (fun q A n c => btc_one q A n c p)
  have HNN := Lib.hid hn
  have HLT := Lib.hid (fun w' => show LinkedTo p [] (.returned (.tuple #[.agg zbt.toArray, .string ⟨#[]⟩, .int .i64 1])) w' from by
    have hb : isB (headSeq []) [] = false := rfl
    unfold LinkedTo
    rw [putB_no (show isB (lnk p []).first (lnk p []).evs = false from rfl), hb]
    exact ⟨none, 0, 0, rfl, fun h => by cases h⟩)
  have CL := Lib.hid (fun W h => clone_any A [] n cap hn (Nat.zero_le _) W h)
  have cp := fun A n c hn hc w hA => bput_any (lnk p []) ⟨show (0 : Nat) < _ by decide, hp, fun _ h => by cases h⟩ (Nat.zero_le _) A n c hn hc w hA
  rw [putB_no (show isB (lnk p []).first (lnk p []).evs = false from rfl)] at cp
  have CP : Hid (∀ (A : Option Addr) (n c : Nat), n = 0 → 0 ≤ c → ∀ w, EvSl w A [] → Calls Tryd.prog 24 #[.agg (btc 0 (.slice A n c) p).toArray] w fun e w' => e = .returned (.tuple #[.string ⟨#[]⟩, .int .i64 1]) ∧ Below w.heap.size w w') := Lib.hid cp
  have HE := Lib.hid (fun W (b : Below w.heap.size w W) => hA.up b)
  have P1 := Lib.hid ((Has.make w 23 (bys p)).alloc (.cells zbt.toArray 27))
  have R1 := Lib.hid (Has.make2 w (.cells (bys p).toArray 23) 27 zbt)
  have B1 := Lib.hid (up_alloc (up_alloc (Below.refl w.heap.size w) (.cells (bys p).toArray 23)) (.cells zbt.toArray 27))
  have Z1 := Lib.hid (show ((w.alloc (.cells (bys p).toArray 23)).alloc (.cells zbt.toArray 27)).heap.size = w.heap.size + 2 by simp)
  clear cp hA
  clear hn
  go_enter Tryd.func9, Tryd.ntmps9
  go_wp2_with fail
  generalize hw1 : World.alloc (World.alloc w _) _ = w1
  rw [show ((w.alloc (.cells (bys p).toArray 23)).alloc (.cells zbt.toArray 27)) = w1 from hw1] at P1 R1 B1 Z1
  clear hw1
  refine wp_region_held_drew (S := fun W => W.rangeAt w.heap.size 0 (bys p)) (by kernel_rfl) (P1.out.drew.whole) (fun hHeld => ?_)
  refine wpAnyH_take (i := 0) (v := ?_) rfl (by kernel_rfl) (by kernel_rfl) (by kernel_rfl) (fun _ _ _ h => h) (Or.inl ⟨by rfl, ?_⟩) (by assumption) ?_
  rotate_left
  · intro w hSw; (try dsimp only at hSw); go_simp; try with_reducible rfl
  try simp only [Act.put, List.getElem_toArray, List.getElem_cons_zero, List.setIfInBounds_toArray, List.set_cons_zero, List.set_cons_succ]
  refine wpAnyH_take (i := 2) rfl (by kernel_rfl) (by kernel_rfl) (by kernel_rfl) (fun _ _ _ h => h) (yieldsIf_load_mid (by rfl) _ _ rfl w.heap.size 0 rfl (bys p) _ (fun W h => h) hdu rfl (by rw [hdi, hpl])) (by assumption) ?_
  try simp only [Act.put, List.getElem_toArray, List.getElem_cons_zero, List.getElem_cons_succ, List.setIfInBounds_toArray, List.set_cons_zero, List.set_cons_succ]
  refine wpAnyH_ready (rs := [1, 4]) (by kernel_rfl) (by simp) (AllReadyH.cons rfl (fun K hK => ?_) (AllReadyH.cons rfl (fun K hK => ?_) AllReadyH.nil))
  · skip
    go_simp
    refine (CL.out _ (HE.out _ (up_trans B1.out (Below.refl _ _).drew))).mono ?_; rintro e wn ⟨A1, n1', c1, rfl, hO, hbn'⟩
    have hbn : Below w1.heap.size w1 wn := up_trans (Below.refl _ _).drew hbn'
    have HO : Hid (OwnE w.heap.size (.slice A1 n1' c1) [] wn) := Lib.hid (hO.mono_base (up_trans B1.out (Below.refl _ _).drew).size)
    try replace HG := Lib.hid (HG.out.up hbn')
    clear hO hbn'
    go_wp2_with fail
    refine hK.out _ _ ((P1.out.up hbn).whole) (fun hHeld => ?_)
    clear hK K
    try simp only [Act.put, List.getElem_toArray, List.getElem_cons_zero, List.getElem_cons_succ, List.setIfInBounds_toArray, List.set_cons_zero, List.set_cons_succ]
    refine wpAnyH_take (i := 3) (v := .agg (btc 0 (.slice A1 n1' c1) p).toArray) rfl (by kernel_rfl) (by kernel_rfl) (by kernel_rfl) (fun _ _ _ h => h) (yieldsIf_bat (by rfl) _ _ (by rfl) _ (HBE.out A1 n1' c1)) (by assumption) ?_
    try simp only [Act.put, List.getElem_toArray, List.getElem_cons_zero, List.getElem_cons_succ, List.setIfInBounds_toArray, List.set_cons_zero, List.set_cons_succ]
    refine wpAnyH_ready (rs := [4]) (by kernel_rfl) (by simp) (AllReadyH.cons rfl (fun K hK => ?_) AllReadyH.nil)
    go_simp
    refine hK.out _ _ ((P1.out.up (up_alloc hbn _)).whole) (fun hHeld => ?_)
    clear hK K
    try simp only [Act.put, List.getElem_toArray, List.getElem_cons_zero, List.getElem_cons_succ, List.setIfInBounds_toArray, List.set_cons_zero, List.set_cons_succ]
    obtain ⟨GG, hGG⟩ : ∃ GG, GG = wn.heap.size := ⟨_, rfl⟩
    have HG : Hid (Has (wn.alloc (.cells zbt.toArray 27)) GG 27 zbt) := Lib.hid (by rw [hGG]; exact Has.make wn 27 zbt)
    have hge : w.heap.size + 2 ≤ GG := by rw [hGG, ← Z1.out]; exact hbn.size
    rw [← hGG]
    clear hGG
    replace hbn : Below w1.heap.size w1 (wn.alloc (.cells zbt.toArray 27)) := up_alloc hbn _
    replace HO := Lib.hid (HO.out.alloc (.cells zbt.toArray 27))
    refine wpAnyH_ready (rs := [5]) (by kernel_rfl) (by simp) (AllReadyH.cons rfl (fun K hK => ?_) AllReadyH.nil)
    refine wp_store_save 27 _ _ rfl GG 27 zbt (btc 0 (.slice A1 n1' c1) p) (by rfl) (by rfl) HG.out (by rw [HBL.out 0 A1 n1' c1, hz]) (by rw [hi, HBL.out 0 A1 n1' c1]) (HBO.out 0 A1 n1' c1) ?_; intro w3 hF3 s3; have LQ : Hid (Lnq w w3 GG (btc 0 (.slice A1 n1' c1) p) (.slice A1 n1' c1) []) := Lib.hid ((Lnq.mk (R1.out.up hbn) HG.out HO.out (up_trans B1.out hbn) hge).store hF3 s3); have HP3 := Lib.hid (s3.has (P1.out.up hbn) (fun e => by omega)); clear hF3 s3
    refine hK.out _ _ (HP3.out.whole) (fun hHeld => ?_)
    clear hK K
    try simp only [Act.put, List.getElem_toArray, List.getElem_cons_zero, List.getElem_cons_succ]
    refine wpAnyH_done (by kernel_rfl) ?_ _
    clear hHeld
    obtain ⟨hn2, hc2, hE2⟩ := LQ.out.own.slice
    have hz0 : n = 0 := HNN.out
    subst hz0
    have hz2 : n1' = 0 := hn2
    subst hz2
    have HB3 := HBL.out 0 A1 0 c1
    have HC2 := Lib.hid hc2
    have HE2 := Lib.hid hE2
    clear hn2 hc2 hE2
    go_wp2_with (refine wpList_load_row rfl 27 _ rfl GG (by rfl) _ _ _ _ LQ.out.bat hu rfl (by rw [hi, List.size_toArray, HB3]) ?_)
    refine (CP.out A1 0 c1 rfl HC2.out _ HE2.out).mono ?_; rintro e w5 ⟨rfl, b5⟩
    have LQ5 := Lib.hid (LQ.out.up b5)
    clear b5
    go_wp2_with (first | (refine wpList_build rfl 27 _ rfl _ HN0.out ?_) | (refine wpList_store_save rfl 27 _ _ rfl (w.heap.size + 1) 27 zbt zbt (by rfl) (by rfl) LQ5.out.res (by rw [hz]) (by rw [hi, hz]) hzo ?_; intro w6 hF6 s6; have HR6 := Lib.hid hF6; have B6 := Lib.hid (LQ5.out.below.trans (s6.below (fun k e => by omega) LQ5.out.below.size)); clear hF6 s6))
    refine bodyPost_ret_by (results_got Tryd.results9 _ _ (w.heap.size + 1) zbt (.string ⟨#[]⟩) (.int .i64 1) (by rfl) HR6.out hz (by rfl) (by rfl)) rfl ⟨HLT.out _, B6.out⟩
  · skip
    go_simp
    refine hK.out _ _ ((P1.out.up (up_alloc (Below.refl _ _).drew _)).whole) (fun hHeld => ?_)
    clear hK K
    try simp only [Act.put, List.getElem_toArray, List.getElem_cons_zero, List.getElem_cons_succ, List.setIfInBounds_toArray, List.set_cons_zero, List.set_cons_succ]
    obtain ⟨GG, hGG⟩ : ∃ GG, GG = w1.heap.size := ⟨_, rfl⟩
    have HG : Hid (Has (w1.drew.alloc (.cells zbt.toArray 27)) GG 27 zbt) := Lib.hid (by rw [hGG]; exact Has.make w1.drew 27 zbt)
    have hge : w.heap.size + 2 ≤ GG := by rw [hGG, ← Z1.out]; exact Nat.le_refl _
    rw [← hGG]
    clear hGG
    refine wpAnyH_ready (rs := [1]) (by kernel_rfl) (by simp) (AllReadyH.cons rfl (fun K hK => ?_) AllReadyH.nil)
    go_simp
    refine (CL.out _ (HE.out _ (up_trans B1.out (up_alloc (Below.refl _ _).drew _)))).mono ?_; rintro e wn ⟨A1, n1', c1, rfl, hO, hbn'⟩
    have hbn : Below w1.heap.size w1 wn := up_trans (up_alloc (Below.refl _ _).drew _) hbn'
    have HO : Hid (OwnE w.heap.size (.slice A1 n1' c1) [] wn) := Lib.hid (hO.mono_base (up_trans B1.out (up_alloc (Below.refl _ _).drew _)).size)
    try replace HG := Lib.hid (HG.out.up hbn')
    clear hO hbn'
    go_wp2_with fail
    refine hK.out _ _ ((P1.out.up hbn).whole) (fun hHeld => ?_)
    clear hK K
    try simp only [Act.put, List.getElem_toArray, List.getElem_cons_zero, List.getElem_cons_succ, List.setIfInBounds_toArray, List.set_cons_zero, List.set_cons_succ]
    refine wpAnyH_take (i := 3) (v := .agg (btc 0 (.slice A1 n1' c1) p).toArray) rfl (by kernel_rfl) (by kernel_rfl) (by kernel_rfl) (fun _ _ _ h => h) (yieldsIf_bat (by rfl) _ _ (by rfl) _ (HBE.out A1 n1' c1)) (by assumption) ?_
    try simp only [Act.put, List.getElem_toArray, List.getElem_cons_zero, List.getElem_cons_succ, List.setIfInBounds_toArray, List.set_cons_zero, List.set_cons_succ]
    refine wpAnyH_ready (rs := [5]) (by kernel_rfl) (by simp) (AllReadyH.cons rfl (fun K hK => ?_) AllReadyH.nil)
    refine wp_store_save 27 _ _ rfl GG 27 zbt (btc 0 (.slice A1 n1' c1) p) (by rfl) (by rfl) HG.out (by rw [HBL.out 0 A1 n1' c1, hz]) (by rw [hi, HBL.out 0 A1 n1' c1]) (HBO.out 0 A1 n1' c1) ?_; intro w3 hF3 s3; have LQ : Hid (Lnq w w3 GG (btc 0 (.slice A1 n1' c1) p) (.slice A1 n1' c1) []) := Lib.hid ((Lnq.mk (R1.out.up hbn) HG.out HO.out (up_trans B1.out hbn) hge).store hF3 s3); have HP3 := Lib.hid (s3.has (P1.out.up hbn) (fun e => by omega)); clear hF3 s3
    refine hK.out _ _ (HP3.out.whole) (fun hHeld => ?_)
    clear hK K
    try simp only [Act.put, List.getElem_toArray, List.getElem_cons_zero, List.getElem_cons_succ]
    refine wpAnyH_done (by kernel_rfl) ?_ _
    clear hHeld
    obtain ⟨hn2, hc2, hE2⟩ := LQ.out.own.slice
    have hz0 : n = 0 := HNN.out
    subst hz0
    have hz2 : n1' = 0 := hn2
    subst hz2
    have HB3 := HBL.out 0 A1 0 c1
    have HC2 := Lib.hid hc2
    have HE2 := Lib.hid hE2
    clear hn2 hc2 hE2
    go_wp2_with (refine wpList_load_row rfl 27 _ rfl GG (by rfl) _ _ _ _ LQ.out.bat hu rfl (by rw [hi, List.size_toArray, HB3]) ?_)
    refine (CP.out A1 0 c1 rfl HC2.out _ HE2.out).mono ?_; rintro e w5 ⟨rfl, b5⟩
    have LQ5 := Lib.hid (LQ.out.up b5)
    clear b5
    go_wp2_with (first | (refine wpList_build rfl 27 _ rfl _ HN0.out ?_) | (refine wpList_store_save rfl 27 _ _ rfl (w.heap.size + 1) 27 zbt zbt (by rfl) (by rfl) LQ5.out.res (by rw [hz]) (by rw [hi, hz]) hzo ?_; intro w6 hF6 s6; have HR6 := Lib.hid hF6; have B6 := Lib.hid (LQ5.out.below.trans (s6.below (fun k e => by omega) LQ5.out.below.size)); clear hF6 s6))
    refine bodyPost_ret_by (results_got Tryd.results9 _ _ (w.heap.size + 1) zbt (.string ⟨#[]⟩) (.int .i64 1) (by rfl) HR6.out hz (by rfl) (by rfl)) rfl ⟨HLT.out _, B6.out⟩

set_option maxHeartbeats 4000000 in
set_option maxRecDepth 100000 in
theorem link_yes_any (p : List UInt8) (hp : p.length = 32) (x : Ev) (m : List Ev) (hs : ∀ y ∈ x :: m, y.seq < 18446744073709551616) (h : isB x.seq (x :: m) = true) (g o n cap : Nat) (hn : n = (x :: m).length) (hm : (x :: m).length ≤ 1000) (w : World) (hA : EvSl w (some ⟨g, o, none⟩) (x :: m)) :
    Calls Tryd.prog 9 #[.agg (bys p).toArray, .slice (some ⟨g, o, none⟩) n cap] w fun e w' => LinkedTo p (x :: m) e w' ∧ Below w.heap.size w w' := by
  have hz : zbt.length = 34 := btc_length _ _ (by simp)
  have hzo : ∀ v ∈ zbt, v.oneCell' = true := btc_one 0 none 0 0 _
  have hi := info_batch
  have hu := Tryd.underlying27
  have hdi := info_digest
  have hdu := Tryd.underlying23
  have hpl : (bys p).length = 32 := by rw [bys_length, hp]
  have HBE := Lib.hid (fun A n c => built_ev (.slice A n c) rfl p hp)
  have HN0 := Lib.hid built_none
  have HBL := Lib.hid (fun q A n c => btc_length q (.slice A n c) hp)
  have HBO := Lib.hid (fun q A n c => btc_one q A n c p)
  have HNN := Lib.hid hn
  have HLT := Lib.hid (fun w' A n c (h1 : n = (x :: m).length) (h2 : n ≤ c) (h3 : EvSl w' A (x :: m)) => show LinkedTo p (x :: m) (.returned (.tuple #[.agg (btc x.seq (.slice A n c) p).toArray, .string ⟨(whole (lnk p (x :: m))).toArray⟩, .int .i64 0])) w' from by
    have hb : isB (headSeq (x :: m)) (x :: m) = true := h
    unfold LinkedTo
    rw [putB_yes (show isB (lnk p (x :: m)).first (lnk p (x :: m)).evs = true from h), hb]
    exact ⟨A, n, c, rfl, fun _ => ⟨h1, h2, h3⟩⟩)
  have CL := Lib.hid (fun W h => clone_any (some ⟨g, o, none⟩) (x :: m) n cap hn hm W h)
  have cp := fun A n c hn hc w hA => bput_any (lnk p (x :: m)) ⟨hs x (List.mem_cons_self ..), hp, hs⟩ (show (x :: m).length ≤ 140737488355327 by omega) A n c hn hc w hA
  rw [putB_yes (show isB (lnk p (x :: m)).first (lnk p (x :: m)).evs = true from h)] at cp
  have CP : Hid (∀ (A : Option Addr) (n c : Nat), n = (x :: m).length → (x :: m).length ≤ c → ∀ w, EvSl w A (x :: m) → Calls Tryd.prog 24 #[.agg (btc x.seq (.slice A n c) p).toArray] w fun e w' => e = .returned (.tuple #[.string ⟨(whole (lnk p (x :: m))).toArray⟩, .int .i64 0]) ∧ Below w.heap.size w w') := Lib.hid cp
  have n1 : 0 < n := by rw [hn]; simp
  have e0 : ∀ W, Below w.heap.size w W → W.cell? ⟨g, o, none⟩ = some (.int .u64 (x.seq : Nat)) := fun W hb => by
    obtain ⟨g', o', e1, hev⟩ := (hA.up hb) (by simp)
    cases e1
    simpa using hev 0 x rfl 0 (.int .u64 (x.seq : Nat)) rfl
  have E0 := Lib.hid e0
  generalize (⟨(whole (lnk p (x :: m))).toArray⟩ : ByteArray) = T at *
  have HE := Lib.hid (fun W (b : Below w.heap.size w W) => hA.up b)
  have P1 := Lib.hid ((Has.make w 23 (bys p)).alloc (.cells zbt.toArray 27))
  have R1 := Lib.hid (Has.make2 w (.cells (bys p).toArray 23) 27 zbt)
  have B1 := Lib.hid (up_alloc (up_alloc (Below.refl w.heap.size w) (.cells (bys p).toArray 23)) (.cells zbt.toArray 27))
  have Z1 := Lib.hid (show ((w.alloc (.cells (bys p).toArray 23)).alloc (.cells zbt.toArray 27)).heap.size = w.heap.size + 2 by simp)
  clear cp hA hn hm hs h e0
  generalize x.seq = q at *
  go_enter Tryd.func9, Tryd.ntmps9
  go_wp2_with fail
  generalize hw1 : World.alloc (World.alloc w _) _ = w1
  rw [show ((w.alloc (.cells (bys p).toArray 23)).alloc (.cells zbt.toArray 27)) = w1 from hw1] at P1 R1 B1 Z1
  clear hw1
  refine wp_region_held_drew (S := fun W => W.rangeAt w.heap.size 0 (bys p)) (by kernel_rfl) (P1.out.drew.whole) (fun hHeld => ?_)
  refine wpAnyH_take (i := 0) (v := ?_) rfl (by kernel_rfl) (by kernel_rfl) (by kernel_rfl) (fun _ _ _ h => h) (Or.inl ⟨by rfl, ?_⟩) (by assumption) ?_
  rotate_left
  · intro w hSw; (try dsimp only at hSw); go_simp; try with_reducible rfl
  try simp only [Act.put, List.getElem_toArray, List.getElem_cons_zero, List.setIfInBounds_toArray, List.set_cons_zero, List.set_cons_succ]
  refine wpAnyH_take (i := 2) rfl (by kernel_rfl) (by kernel_rfl) (by kernel_rfl) (fun _ _ _ h => h) (yieldsIf_load_mid (by rfl) _ _ rfl w.heap.size 0 rfl (bys p) _ (fun W h => h) hdu rfl (by rw [hdi, hpl])) (by assumption) ?_
  try simp only [Act.put, List.getElem_toArray, List.getElem_cons_zero, List.getElem_cons_succ, List.setIfInBounds_toArray, List.set_cons_zero, List.set_cons_succ]
  refine wpAnyH_ready (rs := [1, 4]) (by kernel_rfl) (by simp) (AllReadyH.cons rfl (fun K hK => ?_) (AllReadyH.cons rfl (fun K hK => ?_) AllReadyH.nil))
  · skip
    go_simp
    refine (CL.out _ (HE.out _ (up_trans B1.out (Below.refl _ _).drew))).mono ?_; rintro e wn ⟨A1, n1', c1, rfl, hO, hbn'⟩
    have hbn : Below w1.heap.size w1 wn := up_trans (Below.refl _ _).drew hbn'
    have HO : Hid (OwnE w.heap.size (.slice A1 n1' c1) (x :: m) wn) := Lib.hid (hO.mono_base (up_trans B1.out (Below.refl _ _).drew).size)
    try replace HG := Lib.hid (HG.out.up hbn')
    clear hO hbn'
    go_wp2_with fail
    refine hK.out _ _ ((P1.out.up hbn).whole) (fun hHeld => ?_)
    clear hK K
    try simp only [Act.put, List.getElem_toArray, List.getElem_cons_zero, List.getElem_cons_succ, List.setIfInBounds_toArray, List.set_cons_zero, List.set_cons_succ]
    refine wpAnyH_take (i := 3) (v := .agg (btc 0 (.slice A1 n1' c1) p).toArray) rfl (by kernel_rfl) (by kernel_rfl) (by kernel_rfl) (fun _ _ _ h => h) (yieldsIf_bat (by rfl) _ _ (by rfl) _ (HBE.out A1 n1' c1)) (by assumption) ?_
    try simp only [Act.put, List.getElem_toArray, List.getElem_cons_zero, List.getElem_cons_succ, List.setIfInBounds_toArray, List.set_cons_zero, List.set_cons_succ]
    refine wpAnyH_ready (rs := [4]) (by kernel_rfl) (by simp) (AllReadyH.cons rfl (fun K hK => ?_) AllReadyH.nil)
    go_simp
    refine hK.out _ _ ((P1.out.up (up_alloc hbn _)).whole) (fun hHeld => ?_)
    clear hK K
    try simp only [Act.put, List.getElem_toArray, List.getElem_cons_zero, List.getElem_cons_succ, List.setIfInBounds_toArray, List.set_cons_zero, List.set_cons_succ]
    obtain ⟨GG, hGG⟩ : ∃ GG, GG = wn.heap.size := ⟨_, rfl⟩
    have HG : Hid (Has (wn.alloc (.cells zbt.toArray 27)) GG 27 zbt) := Lib.hid (by rw [hGG]; exact Has.make wn 27 zbt)
    have hge : w.heap.size + 2 ≤ GG := by rw [hGG, ← Z1.out]; exact hbn.size
    rw [← hGG]
    clear hGG
    replace hbn : Below w1.heap.size w1 (wn.alloc (.cells zbt.toArray 27)) := up_alloc hbn _
    replace HO := Lib.hid (HO.out.alloc (.cells zbt.toArray 27))
    refine wpAnyH_ready (rs := [5]) (by kernel_rfl) (by simp) (AllReadyH.cons rfl (fun K hK => ?_) AllReadyH.nil)
    refine wp_store_save 27 _ _ rfl GG 27 zbt (btc 0 (.slice A1 n1' c1) p) (by rfl) (by rfl) HG.out (by rw [HBL.out 0 A1 n1' c1, hz]) (by rw [hi, HBL.out 0 A1 n1' c1]) (HBO.out 0 A1 n1' c1) ?_; intro w3 hF3 s3; have LQ : Hid (Lnq w w3 GG (btc 0 (.slice A1 n1' c1) p) (.slice A1 n1' c1) (x :: m)) := Lib.hid ((Lnq.mk (R1.out.up hbn) HG.out HO.out (up_trans B1.out hbn) hge).store hF3 s3); have HP3 := Lib.hid (s3.has (P1.out.up hbn) (fun e => by omega)); clear hF3 s3
    refine hK.out _ _ (HP3.out.whole) (fun hHeld => ?_)
    clear hK K
    try simp only [Act.put, List.getElem_toArray, List.getElem_cons_zero, List.getElem_cons_succ]
    refine wpAnyH_done (by kernel_rfl) ?_ _
    clear hHeld
    have ce := E0.out _ LQ.out.below
    have cb := LQ.out.bat.at (i := 0) rfl
    have cf := LQ.out.bat.free 0
    have LQ4 := Lib.hid (LQ.out.first q)
    obtain ⟨hn2, hc2, hE2⟩ := LQ4.out.own.slice
    have hnn : n1' = n := hn2.trans HNN.out.symm
    subst hnn
    have HC2 := Lib.hid hc2
    have HE2 := Lib.hid hE2
    clear hn2 hc2 hE2
    have HB4 := HBL.out q A1 n1' c1
    go_wp2_with (refine wpList_load_row rfl 27 _ rfl GG (by rfl) _ _ _ _ LQ4.out.bat hu rfl (by rw [hi, List.size_toArray, HB4]) ?_)
    refine (CP.out A1 n1' c1 HNN.out HC2.out _ HE2.out).mono ?_; rintro e w5 ⟨rfl, b5⟩
    have LQ5 := Lib.hid (LQ4.out.up b5)
    clear b5 ce cb cf
    go_wp2_with (first | (refine wpList_load_row rfl 27 _ rfl GG (by rfl) _ _ _ _ LQ5.out.bat hu rfl (by rw [hi, List.size_toArray, HB4]) ?_) | (refine wpList_store_save rfl 27 _ _ rfl (w.heap.size + 1) 27 zbt (btc q (.slice A1 n1' c1) p) (by rfl) (by rfl) LQ5.out.res (by rw [HB4, hz]) (by rw [hi, HB4]) (HBO.out q A1 n1' c1) ?_; intro w6 hF6 s6; have HR6 := Lib.hid hF6; have HO6 := Lib.hid (LQ5.out.own.save s6 (fun k hk e => Typ.ne LQ5.out.res (by decide) (e ▸ hk))); have B6 := Lib.hid (LQ5.out.below.trans (s6.below (fun k e => by omega) LQ5.out.below.size)); clear hF6 s6))
    obtain ⟨hn6, hc6, hE6⟩ := HO6.out.slice
    refine bodyPost_ret_by (results_got Tryd.results9 _ _ (w.heap.size + 1) _ (.string T) (.int .i64 0) (by rfl) HR6.out HB4 (by rfl) (by rfl)) rfl ⟨HLT.out _ A1 n1' c1 hn6 (by omega) hE6, B6.out⟩
  · skip
    go_simp
    refine hK.out _ _ ((P1.out.up (up_alloc (Below.refl _ _).drew _)).whole) (fun hHeld => ?_)
    clear hK K
    try simp only [Act.put, List.getElem_toArray, List.getElem_cons_zero, List.getElem_cons_succ, List.setIfInBounds_toArray, List.set_cons_zero, List.set_cons_succ]
    obtain ⟨GG, hGG⟩ : ∃ GG, GG = w1.heap.size := ⟨_, rfl⟩
    have HG : Hid (Has (w1.drew.alloc (.cells zbt.toArray 27)) GG 27 zbt) := Lib.hid (by rw [hGG]; exact Has.make w1.drew 27 zbt)
    have hge : w.heap.size + 2 ≤ GG := by rw [hGG, ← Z1.out]; exact Nat.le_refl _
    rw [← hGG]
    clear hGG
    refine wpAnyH_ready (rs := [1]) (by kernel_rfl) (by simp) (AllReadyH.cons rfl (fun K hK => ?_) AllReadyH.nil)
    go_simp
    refine (CL.out _ (HE.out _ (up_trans B1.out (up_alloc (Below.refl _ _).drew _)))).mono ?_; rintro e wn ⟨A1, n1', c1, rfl, hO, hbn'⟩
    have hbn : Below w1.heap.size w1 wn := up_trans (up_alloc (Below.refl _ _).drew _) hbn'
    have HO : Hid (OwnE w.heap.size (.slice A1 n1' c1) (x :: m) wn) := Lib.hid (hO.mono_base (up_trans B1.out (up_alloc (Below.refl _ _).drew _)).size)
    try replace HG := Lib.hid (HG.out.up hbn')
    clear hO hbn'
    go_wp2_with fail
    refine hK.out _ _ ((P1.out.up hbn).whole) (fun hHeld => ?_)
    clear hK K
    try simp only [Act.put, List.getElem_toArray, List.getElem_cons_zero, List.getElem_cons_succ, List.setIfInBounds_toArray, List.set_cons_zero, List.set_cons_succ]
    refine wpAnyH_take (i := 3) (v := .agg (btc 0 (.slice A1 n1' c1) p).toArray) rfl (by kernel_rfl) (by kernel_rfl) (by kernel_rfl) (fun _ _ _ h => h) (yieldsIf_bat (by rfl) _ _ (by rfl) _ (HBE.out A1 n1' c1)) (by assumption) ?_
    try simp only [Act.put, List.getElem_toArray, List.getElem_cons_zero, List.getElem_cons_succ, List.setIfInBounds_toArray, List.set_cons_zero, List.set_cons_succ]
    refine wpAnyH_ready (rs := [5]) (by kernel_rfl) (by simp) (AllReadyH.cons rfl (fun K hK => ?_) AllReadyH.nil)
    refine wp_store_save 27 _ _ rfl GG 27 zbt (btc 0 (.slice A1 n1' c1) p) (by rfl) (by rfl) HG.out (by rw [HBL.out 0 A1 n1' c1, hz]) (by rw [hi, HBL.out 0 A1 n1' c1]) (HBO.out 0 A1 n1' c1) ?_; intro w3 hF3 s3; have LQ : Hid (Lnq w w3 GG (btc 0 (.slice A1 n1' c1) p) (.slice A1 n1' c1) (x :: m)) := Lib.hid ((Lnq.mk (R1.out.up hbn) HG.out HO.out (up_trans B1.out hbn) hge).store hF3 s3); have HP3 := Lib.hid (s3.has (P1.out.up hbn) (fun e => by omega)); clear hF3 s3
    refine hK.out _ _ (HP3.out.whole) (fun hHeld => ?_)
    clear hK K
    try simp only [Act.put, List.getElem_toArray, List.getElem_cons_zero, List.getElem_cons_succ]
    refine wpAnyH_done (by kernel_rfl) ?_ _
    clear hHeld
    have ce := E0.out _ LQ.out.below
    have cb := LQ.out.bat.at (i := 0) rfl
    have cf := LQ.out.bat.free 0
    have LQ4 := Lib.hid (LQ.out.first q)
    obtain ⟨hn2, hc2, hE2⟩ := LQ4.out.own.slice
    have hnn : n1' = n := hn2.trans HNN.out.symm
    subst hnn
    have HC2 := Lib.hid hc2
    have HE2 := Lib.hid hE2
    clear hn2 hc2 hE2
    have HB4 := HBL.out q A1 n1' c1
    go_wp2_with (refine wpList_load_row rfl 27 _ rfl GG (by rfl) _ _ _ _ LQ4.out.bat hu rfl (by rw [hi, List.size_toArray, HB4]) ?_)
    refine (CP.out A1 n1' c1 HNN.out HC2.out _ HE2.out).mono ?_; rintro e w5 ⟨rfl, b5⟩
    have LQ5 := Lib.hid (LQ4.out.up b5)
    clear b5 ce cb cf
    go_wp2_with (first | (refine wpList_load_row rfl 27 _ rfl GG (by rfl) _ _ _ _ LQ5.out.bat hu rfl (by rw [hi, List.size_toArray, HB4]) ?_) | (refine wpList_store_save rfl 27 _ _ rfl (w.heap.size + 1) 27 zbt (btc q (.slice A1 n1' c1) p) (by rfl) (by rfl) LQ5.out.res (by rw [HB4, hz]) (by rw [hi, HB4]) (HBO.out q A1 n1' c1) ?_; intro w6 hF6 s6; have HR6 := Lib.hid hF6; have HO6 := Lib.hid (LQ5.out.own.save s6 (fun k hk e => Typ.ne LQ5.out.res (by decide) (e ▸ hk))); have B6 := Lib.hid (LQ5.out.below.trans (s6.below (fun k e => by omega) LQ5.out.below.size)); clear hF6 s6))
    obtain ⟨hn6, hc6, hE6⟩ := HO6.out.slice
    refine bodyPost_ret_by (results_got Tryd.results9 _ _ (w.heap.size + 1) _ (.string T) (.int .i64 0) (by rfl) HR6.out HB4 (by rfl) (by rfl)) rfl ⟨HLT.out _ A1 n1' c1 hn6 (by omega) hE6, B6.out⟩

set_option maxHeartbeats 4000000 in
set_option maxRecDepth 100000 in
theorem link_no_any (p : List UInt8) (hp : p.length = 32) (x : Ev) (m : List Ev) (hs : ∀ y ∈ x :: m, y.seq < 18446744073709551616) (h : isB x.seq (x :: m) = false) (g o n cap : Nat) (hn : n = (x :: m).length) (hm : (x :: m).length ≤ 1000) (w : World) (hA : EvSl w (some ⟨g, o, none⟩) (x :: m)) :
    Calls Tryd.prog 9 #[.agg (bys p).toArray, .slice (some ⟨g, o, none⟩) n cap] w fun e w' => LinkedTo p (x :: m) e w' ∧ Below w.heap.size w w' := by
  have hz : zbt.length = 34 := btc_length _ _ (by simp)
  have hzo : ∀ v ∈ zbt, v.oneCell' = true := btc_one 0 none 0 0 _
  have hi := info_batch
  have hu := Tryd.underlying27
  have hdi := info_digest
  have hdu := Tryd.underlying23
  have hpl : (bys p).length = 32 := by rw [bys_length, hp]
  have HBE := Lib.hid (fun A n c => built_ev (.slice A n c) rfl p hp)
  have HN0 := Lib.hid built_none
  have HBL := Lib.hid (fun q A n c => btc_length q (.slice A n c) hp)
  have HBO := Lib.hid (fun q A n c => btc_one q A n c p)
  have HNN := Lib.hid hn
  have HLT := Lib.hid (fun w' => show LinkedTo p (x :: m) (.returned (.tuple #[.agg zbt.toArray, .string ⟨#[]⟩, .int .i64 1])) w' from by
    have hb : isB (headSeq (x :: m)) (x :: m) = false := h
    unfold LinkedTo
    rw [putB_no (show isB (lnk p (x :: m)).first (lnk p (x :: m)).evs = false from h), hb]
    exact ⟨none, 0, 0, rfl, fun h => by cases h⟩)
  have CL := Lib.hid (fun W h => clone_any (some ⟨g, o, none⟩) (x :: m) n cap hn hm W h)
  have cp := fun A n c hn hc w hA => bput_any (lnk p (x :: m)) ⟨hs x (List.mem_cons_self ..), hp, hs⟩ (show (x :: m).length ≤ 140737488355327 by omega) A n c hn hc w hA
  rw [putB_no (show isB (lnk p (x :: m)).first (lnk p (x :: m)).evs = false from h)] at cp
  have CP : Hid (∀ (A : Option Addr) (n c : Nat), n = (x :: m).length → (x :: m).length ≤ c → ∀ w, EvSl w A (x :: m) → Calls Tryd.prog 24 #[.agg (btc x.seq (.slice A n c) p).toArray] w fun e w' => e = .returned (.tuple #[.string ⟨#[]⟩, .int .i64 1]) ∧ Below w.heap.size w w') := Lib.hid cp
  have n1 : 0 < n := by rw [hn]; simp
  have e0 : ∀ W, Below w.heap.size w W → W.cell? ⟨g, o, none⟩ = some (.int .u64 (x.seq : Nat)) := fun W hb => by
    obtain ⟨g', o', e1, hev⟩ := (hA.up hb) (by simp)
    cases e1
    simpa using hev 0 x rfl 0 (.int .u64 (x.seq : Nat)) rfl
  have E0 := Lib.hid e0
  have HE := Lib.hid (fun W (b : Below w.heap.size w W) => hA.up b)
  have P1 := Lib.hid ((Has.make w 23 (bys p)).alloc (.cells zbt.toArray 27))
  have R1 := Lib.hid (Has.make2 w (.cells (bys p).toArray 23) 27 zbt)
  have B1 := Lib.hid (up_alloc (up_alloc (Below.refl w.heap.size w) (.cells (bys p).toArray 23)) (.cells zbt.toArray 27))
  have Z1 := Lib.hid (show ((w.alloc (.cells (bys p).toArray 23)).alloc (.cells zbt.toArray 27)).heap.size = w.heap.size + 2 by simp)
  clear cp hA hn hm hs h e0
  generalize x.seq = q at *
  go_enter Tryd.func9, Tryd.ntmps9
  go_wp2_with fail
  generalize hw1 : World.alloc (World.alloc w _) _ = w1
  rw [show ((w.alloc (.cells (bys p).toArray 23)).alloc (.cells zbt.toArray 27)) = w1 from hw1] at P1 R1 B1 Z1
  clear hw1
  refine wp_region_held_drew (S := fun W => W.rangeAt w.heap.size 0 (bys p)) (by kernel_rfl) (P1.out.drew.whole) (fun hHeld => ?_)
  refine wpAnyH_take (i := 0) (v := ?_) rfl (by kernel_rfl) (by kernel_rfl) (by kernel_rfl) (fun _ _ _ h => h) (Or.inl ⟨by rfl, ?_⟩) (by assumption) ?_
  rotate_left
  · intro w hSw; (try dsimp only at hSw); go_simp; try with_reducible rfl
  try simp only [Act.put, List.getElem_toArray, List.getElem_cons_zero, List.setIfInBounds_toArray, List.set_cons_zero, List.set_cons_succ]
  refine wpAnyH_take (i := 2) rfl (by kernel_rfl) (by kernel_rfl) (by kernel_rfl) (fun _ _ _ h => h) (yieldsIf_load_mid (by rfl) _ _ rfl w.heap.size 0 rfl (bys p) _ (fun W h => h) hdu rfl (by rw [hdi, hpl])) (by assumption) ?_
  try simp only [Act.put, List.getElem_toArray, List.getElem_cons_zero, List.getElem_cons_succ, List.setIfInBounds_toArray, List.set_cons_zero, List.set_cons_succ]
  refine wpAnyH_ready (rs := [1, 4]) (by kernel_rfl) (by simp) (AllReadyH.cons rfl (fun K hK => ?_) (AllReadyH.cons rfl (fun K hK => ?_) AllReadyH.nil))
  · skip
    go_simp
    refine (CL.out _ (HE.out _ (up_trans B1.out (Below.refl _ _).drew))).mono ?_; rintro e wn ⟨A1, n1', c1, rfl, hO, hbn'⟩
    have hbn : Below w1.heap.size w1 wn := up_trans (Below.refl _ _).drew hbn'
    have HO : Hid (OwnE w.heap.size (.slice A1 n1' c1) (x :: m) wn) := Lib.hid (hO.mono_base (up_trans B1.out (Below.refl _ _).drew).size)
    try replace HG := Lib.hid (HG.out.up hbn')
    clear hO hbn'
    go_wp2_with fail
    refine hK.out _ _ ((P1.out.up hbn).whole) (fun hHeld => ?_)
    clear hK K
    try simp only [Act.put, List.getElem_toArray, List.getElem_cons_zero, List.getElem_cons_succ, List.setIfInBounds_toArray, List.set_cons_zero, List.set_cons_succ]
    refine wpAnyH_take (i := 3) (v := .agg (btc 0 (.slice A1 n1' c1) p).toArray) rfl (by kernel_rfl) (by kernel_rfl) (by kernel_rfl) (fun _ _ _ h => h) (yieldsIf_bat (by rfl) _ _ (by rfl) _ (HBE.out A1 n1' c1)) (by assumption) ?_
    try simp only [Act.put, List.getElem_toArray, List.getElem_cons_zero, List.getElem_cons_succ, List.setIfInBounds_toArray, List.set_cons_zero, List.set_cons_succ]
    refine wpAnyH_ready (rs := [4]) (by kernel_rfl) (by simp) (AllReadyH.cons rfl (fun K hK => ?_) AllReadyH.nil)
    go_simp
    refine hK.out _ _ ((P1.out.up (up_alloc hbn _)).whole) (fun hHeld => ?_)
    clear hK K
    try simp only [Act.put, List.getElem_toArray, List.getElem_cons_zero, List.getElem_cons_succ, List.setIfInBounds_toArray, List.set_cons_zero, List.set_cons_succ]
    obtain ⟨GG, hGG⟩ : ∃ GG, GG = wn.heap.size := ⟨_, rfl⟩
    have HG : Hid (Has (wn.alloc (.cells zbt.toArray 27)) GG 27 zbt) := Lib.hid (by rw [hGG]; exact Has.make wn 27 zbt)
    have hge : w.heap.size + 2 ≤ GG := by rw [hGG, ← Z1.out]; exact hbn.size
    rw [← hGG]
    clear hGG
    replace hbn : Below w1.heap.size w1 (wn.alloc (.cells zbt.toArray 27)) := up_alloc hbn _
    replace HO := Lib.hid (HO.out.alloc (.cells zbt.toArray 27))
    refine wpAnyH_ready (rs := [5]) (by kernel_rfl) (by simp) (AllReadyH.cons rfl (fun K hK => ?_) AllReadyH.nil)
    refine wp_store_save 27 _ _ rfl GG 27 zbt (btc 0 (.slice A1 n1' c1) p) (by rfl) (by rfl) HG.out (by rw [HBL.out 0 A1 n1' c1, hz]) (by rw [hi, HBL.out 0 A1 n1' c1]) (HBO.out 0 A1 n1' c1) ?_; intro w3 hF3 s3; have LQ : Hid (Lnq w w3 GG (btc 0 (.slice A1 n1' c1) p) (.slice A1 n1' c1) (x :: m)) := Lib.hid ((Lnq.mk (R1.out.up hbn) HG.out HO.out (up_trans B1.out hbn) hge).store hF3 s3); have HP3 := Lib.hid (s3.has (P1.out.up hbn) (fun e => by omega)); clear hF3 s3
    refine hK.out _ _ (HP3.out.whole) (fun hHeld => ?_)
    clear hK K
    try simp only [Act.put, List.getElem_toArray, List.getElem_cons_zero, List.getElem_cons_succ]
    refine wpAnyH_done (by kernel_rfl) ?_ _
    clear hHeld
    have ce := E0.out _ LQ.out.below
    have cb := LQ.out.bat.at (i := 0) rfl
    have cf := LQ.out.bat.free 0
    have LQ4 := Lib.hid (LQ.out.first q)
    obtain ⟨hn2, hc2, hE2⟩ := LQ4.out.own.slice
    have hnn : n1' = n := hn2.trans HNN.out.symm
    subst hnn
    have HC2 := Lib.hid hc2
    have HE2 := Lib.hid hE2
    clear hn2 hc2 hE2
    have HB4 := HBL.out q A1 n1' c1
    go_wp2_with (refine wpList_load_row rfl 27 _ rfl GG (by rfl) _ _ _ _ LQ4.out.bat hu rfl (by rw [hi, List.size_toArray, HB4]) ?_)
    refine (CP.out A1 n1' c1 HNN.out HC2.out _ HE2.out).mono ?_; rintro e w5 ⟨rfl, b5⟩
    have LQ5 := Lib.hid (LQ4.out.up b5)
    clear b5 ce cb cf
    go_wp2_with (first | (refine wpList_build rfl 27 _ rfl _ HN0.out ?_) | (refine wpList_store_save rfl 27 _ _ rfl (w.heap.size + 1) 27 zbt zbt (by rfl) (by rfl) LQ5.out.res (by rw [hz]) (by rw [hi, hz]) hzo ?_; intro w6 hF6 s6; have HR6 := Lib.hid hF6; have B6 := Lib.hid (LQ5.out.below.trans (s6.below (fun k e => by omega) LQ5.out.below.size)); clear hF6 s6))
    refine bodyPost_ret_by (results_got Tryd.results9 _ _ (w.heap.size + 1) zbt (.string ⟨#[]⟩) (.int .i64 1) (by rfl) HR6.out hz (by rfl) (by rfl)) rfl ⟨HLT.out _, B6.out⟩
  · skip
    go_simp
    refine hK.out _ _ ((P1.out.up (up_alloc (Below.refl _ _).drew _)).whole) (fun hHeld => ?_)
    clear hK K
    try simp only [Act.put, List.getElem_toArray, List.getElem_cons_zero, List.getElem_cons_succ, List.setIfInBounds_toArray, List.set_cons_zero, List.set_cons_succ]
    obtain ⟨GG, hGG⟩ : ∃ GG, GG = w1.heap.size := ⟨_, rfl⟩
    have HG : Hid (Has (w1.drew.alloc (.cells zbt.toArray 27)) GG 27 zbt) := Lib.hid (by rw [hGG]; exact Has.make w1.drew 27 zbt)
    have hge : w.heap.size + 2 ≤ GG := by rw [hGG, ← Z1.out]; exact Nat.le_refl _
    rw [← hGG]
    clear hGG
    refine wpAnyH_ready (rs := [1]) (by kernel_rfl) (by simp) (AllReadyH.cons rfl (fun K hK => ?_) AllReadyH.nil)
    go_simp
    refine (CL.out _ (HE.out _ (up_trans B1.out (up_alloc (Below.refl _ _).drew _)))).mono ?_; rintro e wn ⟨A1, n1', c1, rfl, hO, hbn'⟩
    have hbn : Below w1.heap.size w1 wn := up_trans (up_alloc (Below.refl _ _).drew _) hbn'
    have HO : Hid (OwnE w.heap.size (.slice A1 n1' c1) (x :: m) wn) := Lib.hid (hO.mono_base (up_trans B1.out (up_alloc (Below.refl _ _).drew _)).size)
    try replace HG := Lib.hid (HG.out.up hbn')
    clear hO hbn'
    go_wp2_with fail
    refine hK.out _ _ ((P1.out.up hbn).whole) (fun hHeld => ?_)
    clear hK K
    try simp only [Act.put, List.getElem_toArray, List.getElem_cons_zero, List.getElem_cons_succ, List.setIfInBounds_toArray, List.set_cons_zero, List.set_cons_succ]
    refine wpAnyH_take (i := 3) (v := .agg (btc 0 (.slice A1 n1' c1) p).toArray) rfl (by kernel_rfl) (by kernel_rfl) (by kernel_rfl) (fun _ _ _ h => h) (yieldsIf_bat (by rfl) _ _ (by rfl) _ (HBE.out A1 n1' c1)) (by assumption) ?_
    try simp only [Act.put, List.getElem_toArray, List.getElem_cons_zero, List.getElem_cons_succ, List.setIfInBounds_toArray, List.set_cons_zero, List.set_cons_succ]
    refine wpAnyH_ready (rs := [5]) (by kernel_rfl) (by simp) (AllReadyH.cons rfl (fun K hK => ?_) AllReadyH.nil)
    refine wp_store_save 27 _ _ rfl GG 27 zbt (btc 0 (.slice A1 n1' c1) p) (by rfl) (by rfl) HG.out (by rw [HBL.out 0 A1 n1' c1, hz]) (by rw [hi, HBL.out 0 A1 n1' c1]) (HBO.out 0 A1 n1' c1) ?_; intro w3 hF3 s3; have LQ : Hid (Lnq w w3 GG (btc 0 (.slice A1 n1' c1) p) (.slice A1 n1' c1) (x :: m)) := Lib.hid ((Lnq.mk (R1.out.up hbn) HG.out HO.out (up_trans B1.out hbn) hge).store hF3 s3); have HP3 := Lib.hid (s3.has (P1.out.up hbn) (fun e => by omega)); clear hF3 s3
    refine hK.out _ _ (HP3.out.whole) (fun hHeld => ?_)
    clear hK K
    try simp only [Act.put, List.getElem_toArray, List.getElem_cons_zero, List.getElem_cons_succ]
    refine wpAnyH_done (by kernel_rfl) ?_ _
    clear hHeld
    have ce := E0.out _ LQ.out.below
    have cb := LQ.out.bat.at (i := 0) rfl
    have cf := LQ.out.bat.free 0
    have LQ4 := Lib.hid (LQ.out.first q)
    obtain ⟨hn2, hc2, hE2⟩ := LQ4.out.own.slice
    have hnn : n1' = n := hn2.trans HNN.out.symm
    subst hnn
    have HC2 := Lib.hid hc2
    have HE2 := Lib.hid hE2
    clear hn2 hc2 hE2
    have HB4 := HBL.out q A1 n1' c1
    go_wp2_with (refine wpList_load_row rfl 27 _ rfl GG (by rfl) _ _ _ _ LQ4.out.bat hu rfl (by rw [hi, List.size_toArray, HB4]) ?_)
    refine (CP.out A1 n1' c1 HNN.out HC2.out _ HE2.out).mono ?_; rintro e w5 ⟨rfl, b5⟩
    have LQ5 := Lib.hid (LQ4.out.up b5)
    clear b5 ce cb cf
    go_wp2_with (first | (refine wpList_build rfl 27 _ rfl _ HN0.out ?_) | (refine wpList_store_save rfl 27 _ _ rfl (w.heap.size + 1) 27 zbt zbt (by rfl) (by rfl) LQ5.out.res (by rw [hz]) (by rw [hi, hz]) hzo ?_; intro w6 hF6 s6; have HR6 := Lib.hid hF6; have B6 := Lib.hid (LQ5.out.below.trans (s6.below (fun k e => by omega) LQ5.out.below.size)); clear hF6 s6))
    refine bodyPost_ret_by (results_got Tryd.results9 _ _ (w.heap.size + 1) zbt (.string ⟨#[]⟩) (.int .i64 1) (by rfl) HR6.out hz (by rfl) (by rfl)) rfl ⟨HLT.out _, B6.out⟩

theorem link_any : LinkP := by
  intro p l A n cap w hp hs hn hc hm hA
  cases l with
  | nil => exact link_none_any p hp A n cap hn w hA
  | cons x m =>
    obtain ⟨g, o, rfl, _⟩ := hA (by simp)
    cases h : isB x.seq (x :: m) with
    | true => exact link_yes_any p hp x m hs h g o n cap hn hm w hA
    | false => exact link_no_any p hp x m hs h g o n cap hn hm w hA

end Go.Proofs.YthhcopeejhhpgaaDoor

/- Link, Check and Clash do what the laws' walks want. -/
namespace Go.Proofs.YthhcopeejhhpgaaDoor
open Chn

theorem check_ok : CheckC := fun a f A l n cap w hT ha hf hn _ hl hls hA => check_any a ha f hf A l n cap hn hl hls w hT hA
theorem clash_ok : ClashC := fun A A' l m n n' c c' w hT hn hn' _ _ hl hm hls hms hA hA' => pclash_any A A' l m n n' c c' w hT hn hn' (by omega) (by omega) hls hms hA hA'
theorem link_ok : LinkP := link_any

end Go.Proofs.YthhcopeejhhpgaaDoor
