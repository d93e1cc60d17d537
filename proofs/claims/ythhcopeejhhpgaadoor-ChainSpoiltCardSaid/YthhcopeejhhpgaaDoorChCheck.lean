/- The document's Check. -/
import Derived.Test.YthhcopeejhhpgaaDoorHash
import Derived.Test.YthhcopeejhhpgaaDoorOwnS
import Derived.Test.YthhcopeejhhpgaaDoorPureChain
import Derived.Test.YthhcopeejhhpgaaDoorBats4
namespace Go.Proofs.YthhcopeejhhpgaaDoor
open Go.RowKit Evt Bat Chn

theorem wpList_store_save {P : Program} {ops : Array Oper} {rest : List Oper} {op : Oper} {a : Act} {w : World} {Q : Exit → Act → World → Prop} (hgd : op.guard = none) (ty : TypeId) (x y : Operand) (ho : op.op = .store ty x y)
    (g : Nat) (t : TypeId) (l vs : List Value) (hx : a.eval x = .pointer (some ⟨g, 0, none⟩)) (hy : a.eval y = .agg vs.toArray) (hg : Has w g t l) (hl : vs.length = l.length)
    (hi : (P.info? ty).map (·.size) = some vs.length) (h1 : ∀ v ∈ vs, v.oneCell' = true)
    (h : ∀ w', Has w' g t vs → Save (fun k => k = g) w w' → wpList P ops Q rest (a.put op.dst undef) w') : wpList P ops Q (op :: rest) a w :=
  wpList_store_mid hgd ty x y ho g 0 vs.toArray hx hy (hg.there 0 _ (by simp; omega)) (by simpa using hi) (all_oneCell_toArray h1)
    (h _ (hg.setWhole hl) (Save.row w g 0 vs))

theorem wp_store_save {P : Program} {op : Oper} {a : Act} {w : World} {K : Act → World → Prop} {Q : Exit → Act → World → Prop} (ty : TypeId) (x y : Operand) (ho : op.op = .store ty x y)
    (g : Nat) (t : TypeId) (l vs : List Value) (hx : a.eval x = .pointer (some ⟨g, 0, none⟩)) (hy : a.eval y = .agg vs.toArray) (hg : Has w g t l) (hl : vs.length = l.length)
    (hi : (P.info? ty).map (·.size) = some vs.length) (h1 : ∀ v ∈ vs, v.oneCell' = true)
    (h : ∀ w', Has w' g t vs → Save (fun k => k = g) w w' → K (a.put op.dst undef) w') : op.wp P a w K Q :=
  wp_store_mid ty x y ho g 0 vs.toArray hx hy (hg.there 0 _ (by simp; omega)) (by simpa using hi) (all_oneCell_toArray h1)
    (h _ (hg.setWhole hl) (Save.row w g 0 vs))

theorem results_mid {fn : Func} {p u v : Tmp} {ty : TypeId} (h : fn.results = #[.tmp u, .cell p ty, .tmp v]) (tmps : Array Value) (P : Program) (w : World) :
    (results fn tmps).run P w =
      ((asAddr (tmps.getD p undef)).run P w).andThen fun a w₁ => ((loadVar ty a).run P w₁).andThen fun x w₂ => .ok (.tuple #[tmps.getD u undef, x, tmps.getD v undef]) w₂ := by
  simp only [results, h]
  simp [Sem.run_bind, Result.andThen]

theorem results_chk {fn : Func} {p u v : Tmp} (h : fn.results = #[.tmp u, .cell p 23, .tmp v]) (tmps : Array Value) (w : World) (g : Nat) (l : List UInt8) (x y : Value)
    (hp : tmps.getD p undef = .pointer (some ⟨g, 0, none⟩)) (hg : Has w g 23 (bys l)) (hl : l.length = 32) (hu : tmps.getD u undef = x) (hv : tmps.getD v undef = y) :
    (results fn tmps).run Tryd.prog w = .ok (.tuple #[x, .agg (bys l).toArray, y]) w := by
  have hi : (Tryd.prog.info? 23).map (·.size) = some (bys l).toArray.size := by rw [List.size_toArray, bys_length, hl, info_digest]
  rw [results_mid h, hp, hu, hv]
  have := run_loadVar_row (P := Tryd.prog) w g 23 23 (bys l).toArray (0, 0) _ hg Tryd.underlying23 rfl hi
  simp [asAddr, this]

theorem Save.drewed {F : Nat → Prop} {w w' : World} (h : Save F w.drew w') : Save F w w' := ⟨h.os, h.tape, h.output, h.size, h.block⟩

/-- Where a check stands. -/
structure Ckd (w wr : World) (c : Cs) (v : Value) : Prop where
  own : OwnE w.heap.size v c.acc wr
  anc : Has wr w.heap.size 23 (bys c.a)
  res : Has wr (w.heap.size + 1) 23 (bys z32)
  below : Below w.heap.size w wr

theorem Ckd.up {w wr w' : World} {c : Cs} {v : Value} (h : Ckd w wr c v) (b : Below wr.heap.size wr w') : Ckd w w' c v :=
  ⟨h.own.up b, h.anc.up b, h.res.up b, up_trans h.below b⟩

/-- .. with changes of blocks from the call's own on that are no events, and not these two. -/
theorem Ckd.save {w wr w' : World} {c : Cs} {v : Value} {R : Nat → Prop} (h : Ckd w wr c v) (s : Save R wr w') (h1 : ∀ k, Typ w.heap.size 47 wr k → ¬ R k) (h2 : ¬ R w.heap.size) (h3 : ¬ R (w.heap.size + 1)) (h4 : ∀ k, R k → w.heap.size ≤ k) : Ckd w w' c v :=
  ⟨h.own.save s h1, s.has h.anc h2, s.has h.res h3, h.below.trans (s.below h4 h.below.size)⟩

/-- .. behind an append. -/
theorem Ckd.push {w wr w' : World} {c : Cs} {v v' : Value} {evs : List Ev} (h : Ckd w wr c v) (ho : OwnE w.heap.size v' (c.acc ++ evs) w') (s : Save (Typ w.heap.size 47 wr) wr w') : Ckd w w' ⟨c.acc ++ evs, c.a, c.f⟩ v' :=
  ⟨ho, s.has h.anc (Typ.ne h.anc (by decide)), s.has h.res (Typ.ne h.res (by decide)), h.below.trans (s.below (fun _ hk => hk.1) h.below.size)⟩

/-- .. behind the store of a sum. -/
theorem Ckd.sum {w wr w' : World} {c : Cs} {v : Value} {x : List UInt8} (h : Ckd w wr c v) (hx : Has w' w.heap.size 23 (bys x)) (s : Save (fun k => k = w.heap.size) wr w') : Ckd w w' ⟨c.acc, x, c.f⟩ v :=
  ⟨h.own.save s (fun k hk e => Typ.ne h.anc (by decide) (e ▸ hk)), hx, s.has h.res (fun e => by omega), h.below.trans (s.below (fun k e => by omega) h.below.size)⟩
theorem Ckd.num {w wr : World} {c : List Ev} {x : List UInt8} {f f' : Nat} {v : Value} (h : Ckd w wr ⟨c, x, f⟩ v) : Ckd w wr ⟨c, x, f'⟩ v := ⟨h.own, h.anc, h.res, h.below⟩

/-- .. behind a store into a block of another one's. -/
theorem Ckd.store {w wr w' : World} {c : Cs} {v : Value} {g : Nat} {t : TypeId} {L : List Value} (h : Ckd w wr c v) (hg : Has wr g t L) (ht : t ≠ 47) (s : Save (fun k => k = g) wr w') (h2 : w.heap.size + 2 ≤ g) : Ckd w w' c v :=
  h.save s (fun k hk e => Typ.ne hg ht (e ▸ hk)) (fun e => by omega) (fun e => by omega) (fun k e => by omega)

/-- What a check leaves. -/
def ChkPost (w : World) (r : List Ev × List UInt8 × Nat) (e : Ending) (w' : World) : Prop :=
  ∃ v, e = .returned (.tuple #[v, .agg (bys r.2.1).toArray, .int .i64 (r.2.2 : Nat)]) ∧ OwnE w.heap.size v r.1 w' ∧ Below w.heap.size w w'

set_option maxHeartbeats 4000000 in
set_option maxRecDepth 100000 in
theorem rcheck_any (a : List UInt8) (ha : a.length = 32) (f : Nat) (hf : f < 18446744073709551616) (A : Option Addr) (l : List (List UInt8)) (n c : Nat) (hn : n = l.length) (hl : l.length ≤ 1000) (hls : ∀ s ∈ l, s.length ≤ 100000) (w : World) (hA : StSl w A l) :
    Calls Tryd.prog 15 #[.agg (bys a).toArray, .int .u64 (f : Nat), .slice A n c] w (ChkPost w (chk hsh a f l)) := by
  have hi := info_batch
  have hu := Tryd.underlying27
  have hdi := info_digest
  have hdu := Tryd.underlying23
  have hz : zbt.length = 34 := btc_length _ _ (by simp)
  have hzl : (bys z32).length = 32 := by rw [bys_length]; rfl
  have hal : (bys a).length = 32 := by rw [bys_length, ha]
  have HX0 := Lib.hid ((Has.make w 23 (bys a)).alloc (.cells (bys z32).toArray 23))
  have HR0 := Lib.hid (Has.make2 w (.cells (bys a).toArray 23) 23 (bys z32))
  have B0 := Lib.hid (up_alloc (up_alloc (Below.refl w.heap.size w) (.cells (bys a).toArray 23)) (.cells (bys z32).toArray 23))
  have HA := Lib.hid hA
  have HN := Lib.hid hn
  have HLS := Lib.hid hls
  have HF := Lib.hid hf
  have HAL := Lib.hid ha
  have nb : n ≤ 1000 := by omega
  have hso := bys_one a
  obtain ⟨S, hS⟩ : ∃ S, S = bys a := ⟨_, rfl⟩
  rw [← hS] at HX0 B0 HR0 hal hso ⊢
  have HSA := Lib.hid hS
  clear hA hn hls hf ha hl hS
  go_enter Tryd.func15, Tryd.ntmps15
  go_wp2_with fail
  generalize hw1 : World.alloc (World.alloc w _) _ = w1
  have CK0 : Hid (Ckd w w1 ⟨[], a, f⟩ (.slice none 0 0)) := Lib.hid ⟨OwnE.nil _ _, by rw [← hw1]; have := HX0.out; rw [HSA.out] at this ⊢; exact this, by rw [← hw1]; exact HR0.out, by rw [← hw1]; exact B0.out⟩
  clear hw1 HX0 HR0 B0 hso hal
  go_loopw [1, 9, 10] (fun v1 v9 i wr => ∃ (k : Nat) (st : Cs), k ≤ n ∧ v1 = .int .u64 (st.f : Nat) ∧ i = .int .i64 (k : Nat) ∧ Hid (run hsh (l.take k) ⟨[], a, f⟩ = (st, 0)) ∧ Hid (Ckd w wr st v9)) (fun _ _ i _ => n - (intOf i).toNat)
  case atStart => exact ⟨0, ⟨[], a, f⟩, Nat.zero_le _, rfl, rfl, Lib.hid (by rw [List.take_zero]; rfl), CK0⟩
  case round =>
    obtain ⟨k, st, hk, rfl, rfl, HR, CK⟩ := hrel
    clear CK0
    by_cases hlt : k < n
    · have hkl : k < l.length := by rw [← HN.out]; exact hlt
      obtain ⟨g, o, hAe, hc⟩ := (HA.out.up CK.out.below).out (by omega)
      subst hAe
      have cc := hc k l[k] (List.getElem?_eq_getElem hkl)
      have HCEL : Hid (∀ W, Below w.heap.size w W → W.cell? ⟨g, o + k, none⟩ = some (.string ⟨l[k].toArray⟩)) := Lib.hid fun W b => by
        obtain ⟨g', o', hAe', hc'⟩ := (HA.out.up b).out (by omega)
        injection hAe' with hAe'
        injection hAe' with h1 h2
        subst h1 h2
        exact hc' k l[k] (List.getElem?_eq_getElem hkl)
      have S1 := HLS.out _ (List.getElem_mem hkl)
      have HSL : Hid (st.a.length = 32) := Lib.hid (by
        have := run_len32 (H := hsh) hsh_len (l.take k) (c := ⟨[], a, f⟩) HAL.out
        rwa [HR.out] at this)
      have HH := Lib.hid (fun x hx he => chk_halt (H := hsh) hkl HR.out (x := x) hx he)
      have HO1 := Lib.hid (fun he => run_on (H := hsh) hkl HR.out he)
      have klt : (k : Int) < (n : Int) := by omega
      have hts : (⟨l[k].toArray⟩ : ByteArray).size = l[k].length := text_list _
      have g1 := fun W => rbget_any ⟨l[k].toArray⟩ (by rw [text_list]; exact S1) W
      rw [show (⟨l[k].toArray⟩ : ByteArray).data.toList = l[k] from rfl] at g1
      unfold BgetPost at g1
      have ER : er st l[k] = if (gotB l[k]).err ≠ 0 then (gotB l[k]).err else if (gotB l[k]).used ≠ l[k].length then 3 else if (gotB l[k]).bt.prev ≠ st.a ∨ (gotB l[k]).bt.first ≠ st.f then 11 else 0 := rfl
      have hfit := gotB_fits l[k]
      clear hc
      generalize hgb : gotB l[k] = gb at *
      have HGB := Lib.hid hgb
      clear hgb
      generalize l[k] = s at *
      obtain ⟨⟨first, evs, prev⟩, used, err⟩ := gb
      simp only at g1 ER
      have hprev := hfit.prev
      simp only at hprev
      have G := Lib.hid g1
      have HER := Lib.hid ER
      have HPV := Lib.hid hprev
      have HFT := Lib.hid hfit
      have HS1 := Lib.hid S1
      clear g1 ER hprev hfit S1
      go_wp2_with fail
      refine (G.out _).mono ?_; rintro e w2 ⟨v, rfl, hO, b2⟩
      obtain ⟨A2, n2, cap2, rfl, hn2, hcap2, _, hca⟩ := hO.opened2
      have HCA := Lib.hid hca
      clear hca
      have CK2 := Lib.hid (CK.out.up b2)
      have HO2 := Lib.hid hO
      have HN2 := Lib.hid hn2
      have HC2 := Lib.hid hcap2
      clear hO b2 hn2 hcap2 CK G
      have hL := btc_length first (.slice A2 n2 cap2) HPV.out
      have hoL := btc_one first A2 n2 cap2 prev
      have hz2 := CK2.out.res.lt
      have hL0 : (btc first (.slice A2 n2 cap2) prev)[0]? = some (.int .u64 (first : Nat)) := rfl
      have hL1 : (btc first (.slice A2 n2 cap2) prev)[1]? = some (.slice A2 n2 cap2) := rfl
      have HRG := Lib.hid (fun (W : World) (h : Has W w2.heap.size 27 (btc first (.slice A2 n2 cap2) prev)) => btc_range h)
      have HL0 := Lib.hid hL0
      have HL1 := Lib.hid hL1
      clear hL0 hL1
      generalize btc first (.slice A2 n2 cap2) prev = L at *
      by_cases e1 : err = 0
      · subst e1
        by_cases e2 : used = s.length
        · subst e2
          have hpl : (bys prev).length = 32 := by rw [bys_length, HPV.out]
          have hal : (bys st.a).length = 32 := by rw [bys_length, HSL.out]
          by_cases e3 : prev = st.a
          · subst e3
            have NQ := neq_dig st.a st.a HSL.out HSL.out
            rw [show (!decide (st.a = st.a)) = false by simp] at NQ
            by_cases e4 : first = st.f
            · subst e4
              have HO1' := Lib.hid (HO1.out (by rw [HER.out]; simp))
              have hnx : Hid (nx hsh st s = ⟨st.acc ++ evs, hsh s, (st.f + n2) % 18446744073709551616⟩) := Lib.hid (by unfold nx; rw [HGB.out]; simp only [HN2.out])
              have HBD := Lib.hid (show st.acc.length + n2 ≤ 1000000 by
                obtain ⟨j1, _, j2, _, j3⟩ := run_num (H := hsh) (l := l.take k) (c := ⟨[], a, f⟩) HF.out (by rw [HR.out])
                obtain ⟨j4, _, j5, _, j6⟩ := run_num (H := hsh) (l := l.take (k + 1)) (c := ⟨[], a, f⟩) HF.out (by rw [HO1'.out])
                rw [HO1'.out, hnx.out] at j5
                simp only [List.length_append, List.length_nil, Nat.zero_add] at j5
                rw [List.length_take] at j6
                have := HN2.out
                omega)
              go_wp2_with (first | (refine wpList_store_save rfl 27 _ _ rfl w2.heap.size 27 zbt L (by rfl) (by rfl) (Has.make w2 _ zbt) (by rw [hL, hz]) (by rw [hi, hL]) hoL ?_; intro w3 hF3 s3; have HX3 := Lib.hid hF3; have CK3 := Lib.hid ((CK2.out.up (up_alloc (Below.refl _ _) _)).store (Has.make w2 _ zbt) (by decide) s3 (by omega)); have HO3 := Lib.hid ((HO2.out.up (up_alloc (Below.refl _ _) _)).save s3 (fun k hk e => Typ.ne (Has.make w2 27 zbt) (by decide) (e ▸ hk))); have cc3 := HCEL.out _ CK3.out.below; have x0 := HX3.out.at HL0.out; have x1 := HX3.out.at HL1.out; clear hF3 s3) | (refine wpList_load_mid rfl 23 _ rfl w2.heap.size 2 (by rfl) (bys st.a) _ (HRG.out _ HX3.out) hdu rfl (by rw [hdi, hpl]) ?_) | (refine wpList_load_row rfl 23 _ rfl w.heap.size (by rfl) _ _ _ _ CK3.out.anc hdu rfl (by rw [hdi, List.size_toArray, hal]) ?_) | (refine wpList_pushEs rfl (.tmp 52) (.tmp 54) rfl w.heap.size _ st.acc rfl CK3.out.own A2 n2 cap2 evs rfl HN2.out.symm HO3.out.slice.2.2 HCA.out HBD.out CK3.out.below.size ?_; intro v' w4 ho4 s4; have HX4 := Lib.hid (s4.has HX3.out (Typ.ne HX3.out (by decide))); have CK4 := Lib.hid (CK3.out.push ho4 s4); have cc4 := HCEL.out _ CK4.out.below; clear ho4 s4))
              refine (rhof_any s HS1.out w4).mono ?_; rintro e w5 ⟨rfl, b5⟩
              have CK5 := Lib.hid (CK4.out.up b5)
              have HX5 := Lib.hid (HX4.out.up b5)
              have hhl : (bys (hsh s)).length = 32 := by rw [bys_length, hsh_len]
              have hho := bys_one (hsh s)
              have HFN := Lib.hid (show IntKind.u64.wrap ((st.f : Int) + (n2 : Int)) = (((st.f + n2) % 18446744073709551616 : Nat) : Int) by
                rw [show (st.f : Int) + (n2 : Int) = ((st.f + n2 : Nat) : Int) by simp]
                simp [IntKind.wrap, IntKind.bits, IntKind.signed])
              obtain ⟨fn, hfn⟩ : ∃ fn, fn = (st.f + n2) % 18446744073709551616 := ⟨_, rfl⟩
              rw [← hfn] at HFN hnx
              have hfnw := HFN.out
              have hn2b := HBD.out
              have hw2 : IntKind.u64.wrap (n2 : Int) = (n2 : Int) := by
                have : n2 < 18446744073709551616 := by omega
                simp [IntKind.wrap, IntKind.bits, IntKind.signed]; omega
              clear b5 hfn hn2b
              go_wp2_with (first
                | (refine wpList_store_save rfl 23 _ _ rfl w.heap.size 23 (bys st.a) (bys (hsh s)) (by rfl) (by rfl) CK5.out.anc (by rw [hhl, hal]) (by rw [hdi, hhl]) hho ?_; intro w6 hF6 s6; have CK6 := Lib.hid (CK5.out.sum hF6 s6); have HX6 := s6.has HX5.out (fun e => by omega); have x6 := HX6.at HL0.out; have x7 := HX6.at HL1.out; clear hF6 s6 HX6))
              go_roundw
              case rel => exact ⟨k + 1, nx hsh st s, by omega, by rw [hnx.out], by go_num, HO1', Lib.hid (by rw [hnx.out]; exact CK6.out.num)⟩
              case measure => simp [intOf]; omega
            · have HC := Lib.hid (HH.out 11 (by rw [HER.out, if_neg (by simp), if_neg (by simp), if_pos (Or.inr e4)]) (by decide))
              have e5 : ((first : Int) == (st.f : Int)) = false := by simp; omega
              have e6 : ((first : Int) != (st.f : Int)) = true := by simp; omega
              clear e4
              go_wp2_with (first | (refine wpList_store_save rfl 27 _ _ rfl w2.heap.size 27 zbt L (by rfl) (by rfl) (Has.make w2 _ zbt) (by rw [hL, hz]) (by rw [hi, hL]) hoL ?_; intro w3 hF3 s3; have HX3 := Lib.hid hF3; have CK3 := Lib.hid ((CK2.out.up (up_alloc (Below.refl _ _) _)).store (Has.make w2 _ zbt) (by decide) s3 (by omega)); have HO3 := Lib.hid ((HO2.out.up (up_alloc (Below.refl _ _) _)).save s3 (fun k hk e => Typ.ne (Has.make w2 27 zbt) (by decide) (e ▸ hk))); have cc3 := HCEL.out _ CK3.out.below; have x0 := HX3.out.at HL0.out; have x1 := HX3.out.at HL1.out; clear hF3 s3) | (refine wpList_store_save rfl 23 _ _ rfl (w.heap.size + 1) 23 (bys z32) (bys z32) (by rfl) (by rfl) CK3.out.res rfl (by rw [hdi, hzl]) (bys_one _) ?_; intro w4 hF4 s4; have HF4 := Lib.hid hF4; have HS4 := Lib.hid s4; clear hF4 s4) | (refine wpList_load_mid rfl 23 _ rfl w2.heap.size 2 (by rfl) (bys st.a) _ (HRG.out _ HX3.out) hdu rfl (by rw [hdi, hpl]) ?_) | (refine wpList_load_row rfl 23 _ rfl w.heap.size (by rfl) _ _ _ _ CK3.out.anc hdu rfl (by rw [hdi, List.size_toArray, hal]) ?_))
              refine bodyPost_ret_by (results_chk Tryd.results15 _ _ (w.heap.size + 1) z32 (.slice none 0 0) (.int .i64 (11)) (by rfl) HF4.out (by rfl) (by rfl) (by rfl)) rfl ?_
              rw [HC.out]
              exact ⟨_, rfl, OwnE.nil _ _, CK3.out.below.trans (HS4.out.below (fun k e => by omega) CK3.out.below.size)⟩
          · have NQ := neq_dig prev st.a HPV.out HSL.out
            rw [show (!decide (prev = st.a)) = true by simp [e3]] at NQ
            have HC := Lib.hid (HH.out 11 (by rw [HER.out, if_neg (by simp), if_neg (by simp), if_pos (Or.inl e3)]) (by decide))
            go_wp2_with (first | (refine wpList_store_save rfl 27 _ _ rfl w2.heap.size 27 zbt L (by rfl) (by rfl) (Has.make w2 _ zbt) (by rw [hL, hz]) (by rw [hi, hL]) hoL ?_; intro w3 hF3 s3; have HX3 := Lib.hid hF3; have CK3 := Lib.hid ((CK2.out.up (up_alloc (Below.refl _ _) _)).store (Has.make w2 _ zbt) (by decide) s3 (by omega)); have HO3 := Lib.hid ((HO2.out.up (up_alloc (Below.refl _ _) _)).save s3 (fun k hk e => Typ.ne (Has.make w2 27 zbt) (by decide) (e ▸ hk))); have cc3 := HCEL.out _ CK3.out.below; clear hF3 s3) | (refine wpList_store_save rfl 23 _ _ rfl (w.heap.size + 1) 23 (bys z32) (bys z32) (by rfl) (by rfl) CK3.out.res rfl (by rw [hdi, hzl]) (bys_one _) ?_; intro w4 hF4 s4; have HF4 := Lib.hid hF4; have HS4 := Lib.hid s4; clear hF4 s4) | (refine wpList_load_mid rfl 23 _ rfl w2.heap.size 2 (by rfl) (bys prev) _ (HRG.out _ HX3.out) hdu rfl (by rw [hdi, hpl]) ?_) | (refine wpList_load_row rfl 23 _ rfl w.heap.size (by rfl) _ _ _ _ CK3.out.anc hdu rfl (by rw [hdi, List.size_toArray, hal]) ?_))
            refine bodyPost_ret_by (results_chk Tryd.results15 _ _ (w.heap.size + 1) z32 (.slice none 0 0) (.int .i64 (11)) (by rfl) HF4.out (by rfl) (by rfl) (by rfl)) rfl ?_
            rw [HC.out]
            exact ⟨_, rfl, OwnE.nil _ _, CK3.out.below.trans (HS4.out.below (fun k e => by omega) CK3.out.below.size)⟩
        · have HC := Lib.hid (HH.out 3 (by rw [HER.out, if_neg (by simp), if_pos e2]) (by decide))
          have e5 : ((used : Int) == (s.length : Int)) = false := by simp; omega
          have e6 : ((used : Int) != (s.length : Int)) = true := by simp; omega
          clear e2
          go_wp2_with (first | (refine wpList_store_save rfl 27 _ _ rfl w2.heap.size 27 zbt L (by rfl) (by rfl) (Has.make w2 _ zbt) (by rw [hL, hz]) (by rw [hi, hL]) hoL ?_; intro w3 hF3 s3; have HX3 := Lib.hid hF3; have CK3 := Lib.hid ((CK2.out.up (up_alloc (Below.refl _ _) _)).store (Has.make w2 _ zbt) (by decide) s3 (by omega)); have HO3 := Lib.hid ((HO2.out.up (up_alloc (Below.refl _ _) _)).save s3 (fun k hk e => Typ.ne (Has.make w2 27 zbt) (by decide) (e ▸ hk))); have cc3 := HCEL.out _ CK3.out.below; clear hF3 s3) | (refine wpList_store_save rfl 23 _ _ rfl (w.heap.size + 1) 23 (bys z32) (bys z32) (by rfl) (by rfl) CK3.out.res rfl (by rw [hdi, hzl]) (bys_one _) ?_; intro w4 hF4 s4; have HF4 := Lib.hid hF4; have HS4 := Lib.hid s4; clear hF4 s4))
          refine bodyPost_ret_by (results_chk Tryd.results15 _ _ (w.heap.size + 1) z32 (.slice none 0 0) (.int .i64 (3)) (by rfl) HF4.out (by rfl) (by rfl) (by rfl)) rfl ?_
          rw [HC.out]
          exact ⟨_, rfl, OwnE.nil _ _, CK3.out.below.trans (HS4.out.below (fun k e => by omega) CK3.out.below.size)⟩
      · have HC := Lib.hid (HH.out err (by rw [HER.out, if_pos e1]) e1)
        have e5 : ((err : Int) == 0) = false := by simp; omega
        have e6 : ((err : Int) != 0) = true := by simp; omega
        clear e1
        go_wp2_with (first | (refine wpList_store_save rfl 27 _ _ rfl w2.heap.size 27 zbt L (by rfl) (by rfl) (Has.make w2 _ zbt) (by rw [hL, hz]) (by rw [hi, hL]) hoL ?_; intro w3 hF3 s3; have HX3 := Lib.hid hF3; have CK3 := Lib.hid ((CK2.out.up (up_alloc (Below.refl _ _) _)).store (Has.make w2 _ zbt) (by decide) s3 (by omega)); have HO3 := Lib.hid ((HO2.out.up (up_alloc (Below.refl _ _) _)).save s3 (fun k hk e => Typ.ne (Has.make w2 27 zbt) (by decide) (e ▸ hk))); have cc3 := HCEL.out _ CK3.out.below; clear hF3 s3) | (refine wpList_store_save rfl 23 _ _ rfl (w.heap.size + 1) 23 (bys z32) (bys z32) (by rfl) (by rfl) CK3.out.res rfl (by rw [hdi, hzl]) (bys_one _) ?_; intro w4 hF4 s4; have HF4 := Lib.hid hF4; have HS4 := Lib.hid s4; clear hF4 s4))
        refine bodyPost_ret_by (results_chk Tryd.results15 _ _ (w.heap.size + 1) z32 (.slice none 0 0) (.int .i64 (err : Nat)) (by rfl) HF4.out (by rfl) (by rfl) (by rfl)) rfl ?_
        rw [HC.out]
        exact ⟨_, rfl, OwnE.nil _ _, CK3.out.below.trans (HS4.out.below (fun k e => by omega) CK3.out.below.size)⟩
    · obtain rfl : k = n := by omega
      have HC := Lib.hid (chk_end (H := hsh) HN.out HR.out)
      have HSL : Hid (st.a.length = 32) := Lib.hid (by
        have := run_len32 (H := hsh) hsh_len (l.take k) (c := ⟨[], a, f⟩) HAL.out
        rwa [HR.out] at this)
      have hal : (bys st.a).length = 32 := by rw [bys_length, HSL.out]
      have hso := bys_one st.a
      obtain ⟨A2, _, cap2, rfl, rfl, _, _⟩ := CK.out.own.opened
      go_wp2_with fail
      refine wp_region_held_drew (S := fun W => W.rangeAt w.heap.size 0 (bys st.a)) (by kernel_rfl) (CK.out.anc.drew.whole) (fun hHeld => ?_)
      refine wpAnyH_take (i := 0) (v := ?_) rfl (by kernel_rfl) (by kernel_rfl) (by kernel_rfl) (fun _ _ _ h => h) (Or.inl ⟨by rfl, ?_⟩) (by assumption) ?_
      rotate_left
      · intro w hSw; (try dsimp only at hSw); go_simp; try with_reducible rfl
      try simp only [Act.put, List.getElem_toArray, List.getElem_cons_zero, List.setIfInBounds_toArray, List.set_cons_zero, List.set_cons_succ]
      refine wpAnyH_take (i := 1) rfl (by kernel_rfl) (by kernel_rfl) (by kernel_rfl) (fun _ _ _ h => h) (yieldsIf_load_mid (by rfl) _ _ rfl w.heap.size 0 rfl (bys st.a) _ (fun W h => h) hdu rfl (by rw [hdi, hal])) (by assumption) ?_
      try simp only [Act.put, List.getElem_toArray, List.getElem_cons_zero, List.getElem_cons_succ, List.setIfInBounds_toArray, List.set_cons_zero, List.set_cons_succ]
      refine wpAnyH_take (i := 2) (v := ?_) rfl (by kernel_rfl) (by kernel_rfl) (by kernel_rfl) (fun _ _ _ h => h) (Or.inl ⟨by rfl, ?_⟩) (by assumption) ?_
      rotate_left
      · intro w hSw; (try dsimp only at hSw); go_simp; try with_reducible rfl
      try simp only [Act.put, List.getElem_toArray, List.getElem_cons_zero, List.getElem_cons_succ, List.setIfInBounds_toArray, List.set_cons_zero, List.set_cons_succ]
      refine wpAnyH_ready (rs := [3]) (by kernel_rfl) (by simp) (AllReadyH.cons rfl (fun K hK => ?_) AllReadyH.nil)
      refine wp_store_save 23 _ _ rfl (w.heap.size + 1) 23 (bys z32) (bys st.a) (by rfl) (by rfl) CK.out.res.drew (by rw [hal, hzl]) (by rw [hdi, hal]) hso ?_; intro w4 hF4 s4; have HF4 := Lib.hid hF4; have HS4 := Lib.hid s4; clear hF4 s4
      refine hK.out _ _ ((HS4.out.has CK.out.anc.drew (fun e => by omega)).whole) (fun hHeld => ?_)
      clear hK K
      try simp only [Act.put, List.getElem_toArray, List.getElem_cons_zero, List.getElem_cons_succ]
      refine wpAnyH_take (i := 4) (v := ?_) rfl (by kernel_rfl) (by kernel_rfl) (by kernel_rfl) (fun _ _ _ h => h) (Or.inl ⟨by rfl, ?_⟩) (by assumption) ?_
      rotate_left
      · intro w hSw; (try dsimp only at hSw); go_simp; try with_reducible rfl
      try simp only [Act.put, List.getElem_toArray, List.getElem_cons_zero, List.getElem_cons_succ, List.setIfInBounds_toArray, List.set_cons_zero, List.set_cons_succ]
      refine wpAnyH_done (by kernel_rfl) ?_ _
      skip
      go_wp2_with fail
      refine bodyPost_ret_by (results_chk Tryd.results15 _ _ (w.heap.size + 1) st.a (.slice A2 st.acc.length cap2) (.int .i64 0) (by rfl) HF4.out HSL.out (by rfl) (by rfl)) rfl ?_
      rw [HC.out]
      exact ⟨_, rfl, (CK.out.own.up (Below.refl _ _).drew).save HS4.out (fun k hk e => Typ.ne (CK.out.res.drew) (by decide) (e ▸ hk)), CK.out.below.trans (HS4.out.drewed.below (fun k e => by omega) CK.out.below.size)⟩

end Go.Proofs.YthhcopeejhhpgaaDoor
