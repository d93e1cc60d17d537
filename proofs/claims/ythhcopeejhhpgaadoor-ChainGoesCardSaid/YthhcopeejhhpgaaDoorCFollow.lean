/- chain.follower: one text of a row. -/
import Derived.Test.YthhcopeejhhpgaaDoorChCheck
namespace Go.Proofs.YthhcopeejhhpgaaDoor
open Go.RowKit Evt Bat Chn

/-- What a follower is: the batch, or why not. -/
def FolPost (w : World) (a : List UInt8) (f : Nat) (s : List UInt8) (e : Ending) (w' : World) : Prop :=
  ∃ A n c, e = .returned (.tuple #[.agg (if er ⟨[], a, f⟩ s = 0 then btc (gotB s).bt.first (.slice A n c) (gotB s).bt.prev else zbt).toArray, .int .i64 (er ⟨[], a, f⟩ s : Nat)]) ∧ (er ⟨[], a, f⟩ s = 0 → OwnE w.heap.size (.slice A n c) (gotB s).bt.evs w') ∧ Below w.heap.size w w'

theorem fol_no {w w' : World} {a s : List UInt8} {f k : Nat} (h : er ⟨[], a, f⟩ s = k) (hk : k ≠ 0) (b : Below w.heap.size w w') : FolPost w a f s (.returned (.tuple #[.agg zbt.toArray, .int .i64 (k : Nat)])) w' := by
  subst h
  exact ⟨none, 0, 0, by rw [if_neg hk], fun h => absurd h hk, b⟩
theorem fol_yes {w w' : World} {a s : List UInt8} {f u r n c : Nat} {b : Bt} {A : Option Addr} (h : er ⟨[], a, f⟩ s = 0) (hg : gotB s = ⟨b, u, r⟩) (ho : OwnE w.heap.size (.slice A n c) b.evs w') (hb : Below w.heap.size w w') : FolPost w a f s (.returned (.tuple #[.agg (btc b.first (.slice A n c) b.prev).toArray, .int .i64 0])) w' := by
  unfold FolPost
  rw [h, hg]
  exact ⟨A, n, c, by rw [if_pos rfl]; rfl, fun _ => ho, hb⟩

/-- Where it stands. -/
structure Fol (w wr : World) (a : List UInt8) : Prop where
  anc : Has wr w.heap.size 23 (bys a)
  res : Has wr (w.heap.size + 1) 27 zbt
  below : Below w.heap.size w wr
theorem Fol.up {w wr w' : World} {a : List UInt8} (h : Fol w wr a) (b : Below wr.heap.size wr w') : Fol w w' a := ⟨h.anc.up b, h.res.up b, up_trans h.below b⟩
theorem Fol.made {w wr w' : World} {a : List UInt8} {g : Nat} {o : Obj} (h : Fol w wr a) (hg : g = wr.heap.size) (s : Save (fun k => k = g) (wr.alloc o) w') : Fol w w' a := by
  subst hg
  refine h.up ⟨s.os, s.tape, s.output, Nat.le_trans (by simp) s.size, fun k hk => ?_⟩
  rw [s.block k (by simp; omega) (by omega)]
  exact (up_alloc (Below.refl _ wr) o).block k hk

theorem made_up2 {w w' : World} {g : Nat} {o : Obj} (hg : g = w.heap.size) (s : Save (fun k => k = g) (w.alloc o) w') : Below w.heap.size w w' := by
  subst hg
  refine ⟨s.os, s.tape, s.output, Nat.le_trans (by simp) s.size, fun k hk => ?_⟩
  rw [s.block k (by simp; omega) (by omega)]
  exact (up_alloc (Below.refl _ w) o).block k hk

set_option maxHeartbeats 4000000 in
set_option maxRecDepth 100000 in
theorem follower_any (a : List UInt8) (ha : a.length = 32) (f : Nat) (s : List UInt8) (hs : s.length ≤ 100000) (w : World) :
    Calls Tryd.prog 26 #[.agg (bys a).toArray, .int .u64 (f : Nat), .string ⟨s.toArray⟩] w (FolPost w a f s) := by
  have hi := info_batch
  have hu := Tryd.underlying27
  have hdi := info_digest
  have hdu := Tryd.underlying23
  have hz : zbt.length = 34 := btc_length _ _ (by simp)
  have hzo : ∀ v ∈ zbt, v.oneCell' = true := btc_one 0 none 0 0 _
  have hal : (bys a).length = 32 := by rw [bys_length, ha]
  have FL : Hid (Fol w ((w.alloc (.cells (bys a).toArray 23)).alloc (.cells zbt.toArray 27)) a) := Lib.hid ⟨(Has.make w _ _).alloc _, Has.make2 w _ _ _, up_alloc (up_alloc (Below.refl w.heap.size w) _) _⟩
  have hts : (⟨s.toArray⟩ : ByteArray).size = s.length := text_list _
  have g1 := fun W => bget_any ⟨s.toArray⟩ (by rw [text_list]; exact hs) W
  rw [show (⟨s.toArray⟩ : ByteArray).data.toList = s from rfl] at g1
  unfold BgetPost at g1
  have ER : er ⟨[], a, f⟩ s = if (gotB s).err ≠ 0 then (gotB s).err else if (gotB s).used ≠ s.length then 3 else if (gotB s).bt.prev ≠ a ∨ (gotB s).bt.first ≠ f then 11 else 0 := rfl
  have hfit := gotB_fits s
  have HN := Lib.hid (fun k w' => @fol_no w w' a s f k)
  have HAL := Lib.hid ha
  generalize hgb : gotB s = gb at *
  have HGB := Lib.hid hgb
  obtain ⟨⟨first, evs, prev⟩, used, err⟩ := gb
  have HY := Lib.hid (fun A n c w' h => @fol_yes w w' a s f used err n c ⟨first, evs, prev⟩ A h hgb)
  clear hgb hs ha
  simp only at g1 ER
  have hprev := hfit.prev
  simp only at hprev
  have G := Lib.hid g1
  have HER := Lib.hid ER
  have HPV := Lib.hid hprev
  clear g1 ER hprev hfit
  go_enter Tryd.func26, Tryd.ntmps26
  go_wp2_with fail
  refine (G.out _).mono ?_; rintro e w2 ⟨v, rfl, hO, b2⟩
  obtain ⟨A2, n2, cap2, rfl, _, _, _, _⟩ := hO.opened2
  have FL2 := Lib.hid (FL.out.up b2)
  have HO2 := Lib.hid (show OwnE w.heap.size (.slice A2 n2 cap2) evs w2 from hO.mono_base (by simp; omega))
  clear hO b2 FL G
  have hL := btc_length first (.slice A2 n2 cap2) HPV.out
  have hoL := btc_one first A2 n2 cap2 prev
  have hz2 := FL2.out.res.lt
  have hL0 : (btc first (.slice A2 n2 cap2) prev)[0]? = some (.int .u64 (first : Nat)) := rfl
  have HRG := Lib.hid (fun (W : World) (h : Has W w2.heap.size 27 (btc first (.slice A2 n2 cap2) prev)) => btc_range h)
  have HL0 := Lib.hid hL0
  have HYL := Lib.hid (HY.out A2 n2 cap2)
  clear hL0 HY
  generalize btc first (.slice A2 n2 cap2) prev = L at *
  by_cases e1 : err = 0
  · subst e1
    by_cases e2 : used = s.length
    · subst e2
      have hpl : (bys prev).length = 32 := by rw [bys_length, HPV.out]
      by_cases e3 : prev = a
      · subst e3
        have NQ := neq_dig prev prev HAL.out HAL.out
        rw [show (!decide (prev = prev)) = false by simp] at NQ
        by_cases e4 : first = f
        · subst e4
          have HE0 : Hid (er ⟨[], prev, first⟩ s = 0) := Lib.hid (by rw [HER.out]; simp)
          go_wp2_with (first | (refine wpList_store_save rfl 27 _ _ rfl w2.heap.size 27 zbt L (by rfl) (by rfl) (Has.make w2 _ zbt) (by rw [hL, hz]) (by rw [hi, hL]) hoL ?_; intro w3 hF3 s3; have HX3 := Lib.hid hF3; have FL3 := Lib.hid (FL2.out.made rfl s3); have HO3 := Lib.hid (HO2.out.up (made_up2 rfl s3)); have x0 := HX3.out.at HL0.out; clear hF3 s3) | (refine wpList_load_mid rfl 23 _ rfl w2.heap.size 2 (by rfl) (bys prev) _ (HRG.out _ HX3.out) hdu rfl (by rw [hdi, hpl]) ?_) | (refine wpList_load_row rfl 23 _ rfl w.heap.size (by rfl) _ _ _ _ FL3.out.anc hdu rfl (by rw [hdi, List.size_toArray, hal]) ?_) | (refine wpList_load_row rfl 27 _ rfl w2.heap.size (by rfl) _ _ _ _ HX3.out hu rfl (by rw [hi, List.size_toArray, hL]) ?_) | (refine wpList_store_save rfl 27 _ _ rfl (w.heap.size + 1) 27 zbt L (by rfl) (by rfl) FL3.out.res (by rw [hL, hz]) (by rw [hi, hL]) hoL ?_; intro w4 hF4 s4; have HF4 := Lib.hid hF4; have HS4 := Lib.hid s4; clear hF4 s4))
          refine bodyPost_ret_by (results_one Tryd.results26 _ _ (w.heap.size + 1) L (.int .i64 0) (by rfl) HF4.out hL (by rfl)) rfl ?_
          exact HYL.out _ HE0.out (HO3.out.save HS4.out (fun k hk e => Typ.ne FL3.out.res (by decide) (e ▸ hk))) (FL3.out.below.trans (HS4.out.below (fun k e => by omega) FL3.out.below.size))
        · have HC := Lib.hid (fun w' b => HN.out 11 w' (by rw [HER.out, if_neg (by simp), if_neg (by simp), if_pos (Or.inr e4)]) (by decide) b)
          have e5 : ((first : Int) == (f : Int)) = false := by simp; omega
          have e6 : ((first : Int) != (f : Int)) = true := by simp; omega
          clear e4
          go_wp2_with (first | (refine wpList_store_save rfl 27 _ _ rfl w2.heap.size 27 zbt L (by rfl) (by rfl) (Has.make w2 _ zbt) (by rw [hL, hz]) (by rw [hi, hL]) hoL ?_; intro w3 hF3 s3; have HX3 := Lib.hid hF3; have FL3 := Lib.hid (FL2.out.made rfl s3); have x0 := HX3.out.at HL0.out; clear hF3 s3) | (refine wpList_load_mid rfl 23 _ rfl w2.heap.size 2 (by rfl) (bys prev) _ (HRG.out _ HX3.out) hdu rfl (by rw [hdi, hpl]) ?_) | (refine wpList_load_row rfl 23 _ rfl w.heap.size (by rfl) _ _ _ _ FL3.out.anc hdu rfl (by rw [hdi, List.size_toArray, hal]) ?_) | (refine wpList_build rfl 27 _ rfl _ built_none ?_) | (refine wpList_store_save rfl 27 _ _ rfl (w.heap.size + 1) 27 zbt zbt (by rfl) (by rfl) FL3.out.res rfl (by rw [hi, hz]) hzo ?_; intro w4 hF4 s4; have HF4 := Lib.hid hF4; have HS4 := Lib.hid s4; clear hF4 s4))
          refine bodyPost_ret_by (results_one Tryd.results26 _ _ (w.heap.size + 1) zbt (.int .i64 11) (by rfl) HF4.out hz (by rfl)) rfl ?_
          exact HC.out _ (FL3.out.below.trans (HS4.out.below (fun k e => by omega) FL3.out.below.size))
      · have HC := Lib.hid (fun w' b => HN.out 11 w' (by rw [HER.out, if_neg (by simp), if_neg (by simp), if_pos (Or.inl e3)]) (by decide) b)
        have NQ := neq_dig prev a HPV.out HAL.out
        rw [show (!decide (prev = a)) = true by simp [e3]] at NQ
        go_wp2_with (first | (refine wpList_store_save rfl 27 _ _ rfl w2.heap.size 27 zbt L (by rfl) (by rfl) (Has.make w2 _ zbt) (by rw [hL, hz]) (by rw [hi, hL]) hoL ?_; intro w3 hF3 s3; have HX3 := Lib.hid hF3; have FL3 := Lib.hid (FL2.out.made rfl s3); have x0 := HX3.out.at HL0.out; clear hF3 s3) | (refine wpList_load_mid rfl 23 _ rfl w2.heap.size 2 (by rfl) (bys prev) _ (HRG.out _ HX3.out) hdu rfl (by rw [hdi, hpl]) ?_) | (refine wpList_load_row rfl 23 _ rfl w.heap.size (by rfl) _ _ _ _ FL3.out.anc hdu rfl (by rw [hdi, List.size_toArray, hal]) ?_) | (refine wpList_build rfl 27 _ rfl _ built_none ?_) | (refine wpList_store_save rfl 27 _ _ rfl (w.heap.size + 1) 27 zbt zbt (by rfl) (by rfl) FL3.out.res rfl (by rw [hi, hz]) hzo ?_; intro w4 hF4 s4; have HF4 := Lib.hid hF4; have HS4 := Lib.hid s4; clear hF4 s4))
        refine bodyPost_ret_by (results_one Tryd.results26 _ _ (w.heap.size + 1) zbt (.int .i64 11) (by rfl) HF4.out hz (by rfl)) rfl ?_
        exact HC.out _ (FL3.out.below.trans (HS4.out.below (fun k e => by omega) FL3.out.below.size))
    · have HC := Lib.hid (fun w' b => HN.out 3 w' (by rw [HER.out, if_neg (by simp), if_pos e2]) (by decide) b)
      have e5 : ((used : Int) == (s.length : Int)) = false := by simp; omega
      have e6 : ((used : Int) != (s.length : Int)) = true := by simp; omega
      clear e2
      go_wp2_with (first | (refine wpList_store_save rfl 27 _ _ rfl w2.heap.size 27 zbt L (by rfl) (by rfl) (Has.make w2 _ zbt) (by rw [hL, hz]) (by rw [hi, hL]) hoL ?_; intro w3 hF3 s3; have FL3 := Lib.hid (FL2.out.made rfl s3); clear hF3 s3) | (refine wpList_build rfl 27 _ rfl _ built_none ?_) | (refine wpList_store_save rfl 27 _ _ rfl (w.heap.size + 1) 27 zbt zbt (by rfl) (by rfl) FL3.out.res rfl (by rw [hi, hz]) hzo ?_; intro w4 hF4 s4; have HF4 := Lib.hid hF4; have HS4 := Lib.hid s4; clear hF4 s4))
      refine bodyPost_ret_by (results_one Tryd.results26 _ _ (w.heap.size + 1) zbt (.int .i64 3) (by rfl) HF4.out hz (by rfl)) rfl ?_
      exact HC.out _ (FL3.out.below.trans (HS4.out.below (fun k e => by omega) FL3.out.below.size))
  · have HC := Lib.hid (fun w' b => HN.out err w' (by rw [HER.out, if_pos e1]) e1 b)
    have e5 : ((err : Int) == 0) = false := by simp; omega
    have e6 : ((err : Int) != 0) = true := by simp; omega
    clear e1
    go_wp2_with (first | (refine wpList_store_save rfl 27 _ _ rfl w2.heap.size 27 zbt L (by rfl) (by rfl) (Has.make w2 _ zbt) (by rw [hL, hz]) (by rw [hi, hL]) hoL ?_; intro w3 hF3 s3; have FL3 := Lib.hid (FL2.out.made rfl s3); clear hF3 s3) | (refine wpList_build rfl 27 _ rfl _ built_none ?_) | (refine wpList_store_save rfl 27 _ _ rfl (w.heap.size + 1) 27 zbt zbt (by rfl) (by rfl) FL3.out.res rfl (by rw [hi, hz]) hzo ?_; intro w4 hF4 s4; have HF4 := Lib.hid hF4; have HS4 := Lib.hid s4; clear hF4 s4))
    refine bodyPost_ret_by (results_one Tryd.results26 _ _ (w.heap.size + 1) zbt (.int .i64 (err : Nat)) (by rfl) HF4.out hz (by rfl)) rfl ?_
    exact HC.out _ (FL3.out.below.trans (HS4.out.below (fun k e => by omega) FL3.out.below.size))

end Go.Proofs.YthhcopeejhhpgaaDoor
