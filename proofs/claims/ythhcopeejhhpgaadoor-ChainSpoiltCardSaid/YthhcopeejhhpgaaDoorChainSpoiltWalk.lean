/- A row with one text changed: the law's walk. -/
import Derived.Test.YthhcopeejhhpgaaDoorSpoiltA
namespace Go.Proofs.YthhcopeejhhpgaaDoor
open Go.RowKit Wire Evt Bat Chn

set_option maxHeartbeats 4000000 in
set_option maxRecDepth 100000 in
theorem spoilt_bend (LK : LinkC) (CK : CheckC) (CL : ClashC) (a : List UInt8) (ha : a.length = 32) (evs : List Ev) (hs : ∀ x ∈ evs, x.seq < 18446744073709551616) (A : Option Addr) (n c : Nat) (hn : n = evs.length) (hc : n ≤ c) (zs : List Int) (Z : Option Addr) (m d : Nat) (hm : m = zs.length) (ii : Nat) (hii : ii < (rws hsh a evs zs).length) (bb : UInt8) (h1 : n ≤ 200) (h2 : m ≤ 30) (h3 : n ≠ 0) (h6 : headSeq evs ≤ 9223372036854775808) (h4 : runL evs = true) (w : World) (hTab : Tab w) (hA : EvSl w A evs) (hZ : ZSl w Z zs) :
    Calls Tryd.prog 8 #[.agg (bys a).toArray, .slice A n c, .slice Z m d, .int .i64 (ii : Nat), .int .i64 (ii : Nat), .int .u8 (bb.toNat : Nat)] w fun e w' => e = .returned (.bool true) ∧ Below w.heap.size w w' := by
  have hdi := info_digest
  have hdu := Tryd.underlying23
  have hal : (bys a).length = 32 := by rw [bys_length, ha]
  have HP := Lib.hid (Has.make w 23 (bys a))
  have B1 := Lib.hid (up_alloc (Below.refl w.heap.size w) (.cells (bys a).toArray 23))
  have HA := Lib.hid (fun W (b : Below w.heap.size w W) => hA.up b)
  have HZ := Lib.hid (fun W (b : Below w.heap.size w W) => hZ.up b)
  have HT := Lib.hid (fun W (b : Below w.heap.size w W) => tab_up hTab b)
  have L9 := Lib.hid (fun w hT => linked_any LK CK CL w hT)
  have h5 : rws hsh a evs zs ≠ [] := fun h => by rw [h] at hii; simp at hii
  obtain ⟨E, _, _, _, sum, _, k1, -, -, -, -, -, -, -, hsum, -, -, hf64, -⟩ := goes_told ha zs h4 hs (by omega) (fun h => h3 (by rw [hn, h]; rfl)) h5 0
  have hll := rws_len hsh zs a evs
  have hlb := rws_short hsh_len zs a evs ha hs
  have rn := fun w hA => run_len A evs n c hn (by omega) (by omega) hs w hA
  rw [h4] at rn
  have RN := Lib.hid rn
  have RW := Lib.hid (fun W hT hA hZ => rows_any LK a ha evs hs zs A Z n c m d hn hc hm (by omega) (by omega) W hT hA hZ)
  generalize rws hsh a evs zs = l at *
  obtain ⟨f, hf⟩ : ∃ f, f = headSeq evs := ⟨_, rfl⟩
  have hseq : ∀ W, EvSl W A evs → ∃ g o, A = some ⟨g, o, none⟩ ∧ W.cell? ⟨g, o, none⟩ = some (.int .u64 (f : Nat)) := fun W h => by
    obtain ⟨g, o, rfl, hev⟩ := h (by omega)
    refine ⟨g, o, rfl, ?_⟩
    cases hcs : evs with
    | nil => rw [hcs] at hn; simp at hn; omega
    | cons x q =>
      rw [hcs] at hev hf
      rw [hf]
      show W.cell? _ = some (.int .u64 (x.seq : Nat))
      simpa using hev 0 x rfl 0 (.int .u64 (x.seq : Nat)) rfl
  rw [← hf] at h6
  obtain ⟨ge, oe, rfl, _⟩ := hseq w hA
  have HQ : Hid (∀ W, Below w.heap.size w W → W.cell? ⟨ge, oe, none⟩ = some (.int .u64 (f : Nat))) := Lib.hid fun W b => by
    obtain ⟨g, o, e, h⟩ := hseq W (hA.up b)
    cases e
    exact h
  have cq := HQ.out _ B1.out
  have hidx : (0 : Int) < (n : Int) := by omega
  have hidn : 0 < n := by omega
  have d1 : decide ((n : Int) > 200) = false := by simp; omega
  have d2 : decide ((200 : Int) < (n : Int)) = false := by simp; omega
  have g1 : decide ((m : Int) > 30) = false := by simp; omega
  have g2 : decide ((30 : Int) < (m : Int)) = false := by simp; omega
  have p1 : ((n : Int) == 0) = false := by simp; omega
  have p2 : ((n : Int) != 0) = true := by simp; omega
  have s1 : decide ((f : Int) > 9223372036854775808) = false := by simp; omega
  have s2 : decide ((9223372036854775808 : Int) < (f : Int)) = false := by simp; omega
  rw [← hf] at k1 hf64
  obtain ⟨N, hN⟩ : ∃ N, N = l.length := ⟨_, rfl⟩
  obtain ⟨nE, hnE⟩ : ∃ nE, nE = E.length := ⟨_, rfl⟩
  rw [← hN] at hii hll
  obtain ⟨ti, hti⟩ : ∃ t, l[ii]? = some t := ⟨_, List.getElem?_eq_getElem (by omega)⟩
  have hbl := spoil_len l ii ii bb
  have hbs := spoil_short hlb ii ii bb
  have hbt := fun k (h : k < l.length) => spoil_take (i := ii) (j := ii) (c := bb) h
  generalize spoil l ii ii bb = B at *
  obtain ⟨E2, y, r, k2⟩ : ∃ E2 y r, chk hsh a f B = (E2, y, r) := ⟨_, _, _, rfl⟩
  have hy : y.length = 32 := by have := chk_len32 ha (f := f) (l := B); rwa [k2] at this
  obtain ⟨nY, hnY⟩ : ∃ nY, nY = E2.length := ⟨_, rfl⟩
  obtain ⟨X, Y, is, hcl⟩ : ∃ X Y is, clash hsh l B = (X, Y, is) := ⟨_, _, _, rfl⟩
  have HTL : Hid (r = 0 → sum = y → l ≠ B → is = true) := Lib.hid fun hr hxy hlm => by
    obtain ⟨u, v, h, _⟩ := told_two hf64 (by omega) (by omega) (by omega) (by omega) k1 k2 rfl hr hxy hlm
    rw [hcl] at h
    injection h with _ h
    injection h
  have HSM : Hid (l = B → is = false) := Lib.hid fun h => by
    have := clash_self l
    rw [← h] at hcl
    rw [hcl] at this
    exact this
  have C1 := Lib.hid (fun AL cap hc W hT hV => chk_call CK ha hf64 k1 hN hnE (by omega) hlb AL cap hc W hT hV)
  have C2 := Lib.hid (fun AL cap hc W hT hV => chk_callr CK ha hf64 k2 (n := N) (by omega) hnY (by omega) hbs AL cap hc W hT hV)
  have k9 := fun AL AB cL cB h1 h2 W hT hA hA' => CL AL AB l B N N cL cB W hT hN (by omega) h1 h2 (by omega) (by omega) hlb hbs hA hA'
  rw [hcl] at k9
  have K9 := Lib.hid k9
  have S9 := Lib.hid (fun AL AB cL cB W hA hA' => same9_any AL AB l B N N cL cB hN (by omega) (by omega) W hA hA')
  have hsuml : (bys sum).length = 32 := by rw [bys_length, hsum]
  have hsumo := bys_one sum
  have hyl : (bys y).length = 32 := by rw [bys_length, hy]
  have hyo := bys_one y
  have z3 : (bys z32).length = 32 := by rw [bys_length]; rfl
  have NQ := neq_dig sum y hsum hy
  have x0 : decide (((ii : Nat) : Int) < 0) = false := by simp
  have x1 : decide ((ii : Int) ≥ (N : Int)) = false := by simp; omega
  have x2 : decide ((N : Int) ≤ (ii : Int)) = false := by simp; omega
  have x3 : ¬ N ≤ ii := by omega
  have wi : (ii : Int) < (N : Int) := by omega
  have HN := Lib.hid hN
  have HTI := Lib.hid hti
  have HLB := Lib.hid hlb
  have HBT := Lib.hid (fun k (h : k < N) => hbt k (by omega))
  have HBE : Hid (B.take N = B) := Lib.hid (List.take_of_length_le (by omega))
  have HBN : Hid (B.length = N) := Lib.hid (by omega)
  have HNm : Hid (N ≤ 30) := Lib.hid (by omega)
  have hN30 : N ≤ 30 := HNm.out
  clear hTab hA hZ LK CK CL ha hs hn hc hm h1 h2 h3 h6 h4 h5 hf hseq rn k1 k2 hf64 hsum hy hcl hN hnE hnY hll hlb hbl hbs hbt k9 hti hii cq
  go_enter Tryd.func8, Tryd.ntmps8
  have cq := HQ.out _ B1.out
  go_wp2_with fail
  refine (RN.out _ (HA.out _ B1.out)).mono ?_; rintro e wr ⟨rfl, br⟩
  replace HP := Lib.hid (HP.out.up br)
  replace B1 := Lib.hid (up_trans B1.out br)
  clear br
  clear cq
  go_wp2_with (refine wpList_load_row rfl 23 _ rfl w.heap.size (by rfl) _ _ _ _ HP.out hdu rfl (by rw [hdi, List.size_toArray, hal]) ?_)
  refine (RW.out _ (HT.out _ B1.out) (HA.out _ B1.out) (HZ.out _ B1.out)).mono ?_; rintro e w2 ⟨v, rfl, hO, b2⟩
  obtain ⟨AL, cL, rfl, hcL, hSL⟩ := hO.opened
  have SL := Lib.hid (fun W (b : Below w2.heap.size w2 W) => hSL.up b)
  have P2 := Lib.hid (fun W (b : Below w2.heap.size w2 W) => (HP.out.up b2).up b)
  have B2 := Lib.hid (up_trans B1.out b2)
  have Q2 := Lib.hid (fun W (b : Below w2.heap.size w2 W) => HQ.out W (up_trans B2.out b))
  have T2 := Lib.hid (fun W (b : Below w2.heap.size w2 W) => HT.out W (up_trans B2.out b))
  rw [← HN.out] at hcL ⊢
  obtain ⟨gl, ol, rfl, _⟩ := hSL.out (by rw [← HN.out]; omega)
  have D1 := Lib.hid (fun W (b : Below w2.heap.size w2 W) => C1.out _ cL hcL W (T2.out W b) (SL.out W b))
  have b22 := Lib.hid (Below.refl w2.heap.size w2)
  clear hO hSL b2 HZ HP HQ RN RW B1 HT C1
  go_wp2_with fail
  go_loopw [14, 15] (fun v q wr => ∃ k : Nat, k ≤ N ∧ q = .int .i64 (k : Nat) ∧ Hid (OwnT w2.heap.size v (B.take k) wr) ∧ Hid (Below w2.heap.size w2 wr)) (fun _ q _ => N - (intOf q).toNat)
  case atStart => exact ⟨0, Nat.zero_le _, rfl, Lib.hid (by rw [List.take_zero]; exact OwnT.nil _ _), b22⟩
  case round =>
    obtain ⟨k, hk, rfl, HO, HB⟩ := hrel
    by_cases hlt : k < N
    · obtain ⟨tk, htk⟩ : ∃ t, l[k]? = some t := ⟨_, List.getElem?_eq_getElem (by rw [← HN.out]; exact hlt)⟩
      have ck := (SL.out wr HB.out).cell htk
      have ci := (SL.out wr HB.out).cell HTI.out
      have HK := Lib.hid htk
      have HBK := Lib.hid (HBT.out k hlt)
      have HLK : Hid ((B.take k).length + 1 ≤ 1000000) := Lib.hid (by rw [List.length_take]; have := HNm.out; omega)
      have dk : decide ((k : Int) < (N : Int)) = true := by simp; omega
      have wk : (k : Int) < (N : Int) := by omega
      clear htk
      by_cases e1 : k = ii
      · subst e1
        obtain rfl : tk = ti := by have := HK.out; rw [HTI.out] at this; injection this with this; exact this.symm
        have HX : Hid (spt l k k bb k = bend bb tk) := Lib.hid (by unfold spt; rw [if_pos rfl, if_pos rfl, getD_of HK.out])
        by_cases h0 : tk = []
        · subst h0
          have HX0 : Hid (bend bb [] = []) := Lib.hid rfl
          have hsz : (⟨([] : List UInt8).toArray⟩ : ByteArray).size = 0 := rfl
          go_wp2_with (refine wpList_pushT rfl _ _ rfl w2.heap.size _ (B.take k) (by rfl) (HO.out.alloc _) wr.heap.size ([] : List UInt8) (by rfl) (Has.make wr _ [.string ⟨([] : List UInt8).toArray⟩]) HLK.out (by have := (HB.out).size; simp; omega) ?_; intro v5 w5 own5 s5; have HO5 := Lib.hid own5; have HB5 := Lib.hid ((up_alloc (HB.out) _).trans (s5.below (fun _ hk => hk.1) (by have := (HB.out).size; simp; omega))); clear own5 s5)
          go_roundw
          case rel => exact ⟨k + 1, by omega, by go_num, Lib.hid (by rw [HBK.out, HX.out, HX0.out]; exact HO5.out), Lib.hid HB5.out⟩
          case measure => simp [intOf]; omega
        · have hp : 0 < tk.length := List.length_pos_iff.2 h0
          obtain ⟨q, hq⟩ : ∃ q, q = bb.toNat % tk.length := ⟨_, rfl⟩
          have hql : q < tk.length := by rw [hq]; exact Nat.mod_lt _ hp
          obtain ⟨x, hx⟩ : ∃ x, tk[q]? = some x := ⟨_, List.getElem?_eq_getElem hql⟩
          obtain ⟨cb, hcb⟩ : ∃ cb, cb = bb ||| 1 := ⟨_, rfl⟩
          obtain ⟨xc, hxc⟩ : ∃ xc, xc = x ^^^ cb := ⟨_, rfl⟩
          have HXB : Hid (bend bb tk = tk.set q xc) := Lib.hid (by unfold bend; rw [← hq, getD_of hx, hxc, hcb])
          have HXL : Hid ((tk.set q xc).length = tk.length) := Lib.hid (List.length_set ..)
          obtain ⟨V, hV⟩ : ∃ V : ByteArray, V = ⟨tk.toArray⟩ := ⟨_, rfl⟩
          have hVl : V.data.toList = tk := by rw [hV]
          obtain ⟨M, hM⟩ : ∃ M, M = tk.length := ⟨_, rfl⟩
          have hVs : V.size = M := by rw [hV, text_list, hM]
          rw [← hM] at hq hql hp
          rw [← hV] at ck ci
          clear hV
          have v0 : (0 : Int) < (M : Int) := by omega
          have v1 : decide ((M : Int) > 0) = true := by simp; omega
          have v2 : decide ((0 : Int) < (M : Int)) = true := by simp; omega
          have hrem : ((bb.toNat : Nat) : Int).tmod (M : Int) = (q : Int) := by rw [hq, Int.tmod_eq_emod_of_nonneg (by omega)]; simp
          have hq2 : (q : Int) < (M : Int) := by omega
          have hq0 : (0 : Int) ≤ (q : Int) := by omega
          have hv3 : ¬ (M : Int) = 0 := by omega
          have hv4 : ¬ M = 0 := by omega
          have hMb : M ≤ 100000 := by rw [hM]; exact HLB.out tk (List.mem_of_getElem? HK.out)
          have hw1 : IntKind.i64.wrap (q : Int) = (q : Int) := by simp [IntKind.wrap, IntKind.bits, IntKind.signed]; omega
          have hw2 : IntKind.i64.wrap ((bb.toNat : Nat) : Int) = ((bb.toNat : Nat) : Int) := by have := bb.toNat_lt; simp [IntKind.wrap, IntKind.bits, IntKind.signed]; omega
          have HM := Lib.hid hM
          have HXM : Hid ((tk.set q xc).length = M) := Lib.hid (by rw [HXL.out, hM])
          clear hM HXL
          have hb8 := bb.toNat_lt
          have hor := or_one8 bb
          have hxo := xor_u8 x cb
          rw [← hcb] at hor
          rw [← hxc] at hxo
          clear hcb hxc
          go_wp2_with fail
          rw [run_bytes_of_string wr 9 51 5 V Tryd.underlying9 Tryd.underlying51 Tryd.underlying5]
          have hR := RowB.made wr V (grownCap wr V.size 0 5) 5
          have hb4 : Below wr.heap.size wr (wr.drew.alloc (.cells (bytesRow V (grownCap wr V.size 0 5)) 5 ((bytesRow V (grownCap wr V.size 0 5)).size, (bytesRow V (grownCap wr V.size 0 5)).size + 1))) := up_alloc (Below.refl _ _).drew _
          rw [hVl] at hR
          simp only [Result.andThen]
          rw [Oper.upon_value]
          generalize grownCap wr V.size 0 5 = cap at *
          generalize wr.drew.alloc _ = w4 at *
          have HR := Lib.hid hR
          have Hb4 := Lib.hid hb4
          have c4 := hR.drew.cell q x hx
          have f4 := hR.drew.free q (by rw [← HM.out]; exact hql)
          clear hR hb4 hq hx
          go_wp2_with fail
          go_still_tail 18, (by kernel_rfl)
          change wpList _ _ _ _ _ w4.drew
          go_step
          go_step
          have hR5 : RowB (w4.setCell ⟨wr.heap.size, q, none⟩ (.int .u8 (xc.toNat : Int))).drew wr.heap.size (tk.set q xc) := (HR.out.set (by rw [← HM.out]; exact hql) xc).drew
          have hb5 : Below wr.heap.size wr (w4.setCell ⟨wr.heap.size, q, none⟩ (.int .u8 (xc.toNat : Int))).drew := (Hb4.out.setCell (p := ⟨wr.heap.size, q, none⟩) (Nat.le_refl _) _).drew
          generalize (w4.setCell _ _).drew = w5q at hR5 hb5 ⊢
          obtain ⟨tb, htb⟩ : ∃ tb, tb = tk.set q xc := ⟨_, rfl⟩
          rw [← htb] at hR5 HXB HXM
          clear htb
          have ht := hR5.text (cap := cap)
          rw [HXM.out] at ht
          have HOw := Lib.hid (HO.out.below hb5)
          have HBw := Lib.hid (up_trans HB.out hb5)
          clear hR5 hb5 HR Hb4
          go_wp2_with (refine wpList_pushT rfl _ _ rfl w2.heap.size _ (B.take k) (by rfl) (HOw.out.alloc _) w5q.heap.size tb (by rfl) (Has.make w5q _ [.string ⟨tb.toArray⟩]) HLK.out (by have := (HBw.out).size; simp; omega) ?_; intro v5 w5 own5 s5; have HO5 := Lib.hid own5; have HB5 := Lib.hid ((up_alloc (HBw.out) _).trans (s5.below (fun _ hk => hk.1) (by have := (HBw.out).size; simp; omega))); clear own5 s5)
          go_roundw
          case rel => exact ⟨k + 1, by omega, by go_num, Lib.hid (by rw [HBK.out, HX.out, HXB.out]; exact HO5.out), Lib.hid HB5.out⟩
          case measure => simp [intOf]; omega
      · have k1 : ((k : Int) == (ii : Int)) = false := by simp; omega
        have HX : Hid (spt l ii ii bb k = tk) := Lib.hid (by unfold spt; rw [if_neg e1, if_neg e1, getD_of HK.out])
        clear e1
        go_wp2_with (refine wpList_pushT rfl _ _ rfl w2.heap.size _ (B.take k) (by rfl) (HO.out.alloc _) wr.heap.size tk (by rfl) (Has.make wr _ [.string ⟨tk.toArray⟩]) HLK.out (by have := (HB.out).size; simp; omega) ?_; intro v5 w5 own5 s5; have HO5 := Lib.hid own5; have HB5 := Lib.hid ((up_alloc (HB.out) _).trans (s5.below (fun _ hk => hk.1) (by have := (HB.out).size; simp; omega))); clear own5 s5)
        go_roundw
        case rel => exact ⟨k + 1, by omega, by go_num, Lib.hid (by rw [HBK.out, HX.out]; exact HO5.out), Lib.hid HB5.out⟩
        case measure => simp [intOf]; omega
    · have hkN : k = N := by omega
      subst k
      obtain ⟨AB, cB, hv, hcB, hSB⟩ := HO.out.opened
      have dk : decide ((N : Int) < (N : Int)) = false := by simp
      rw [HBE.out] at hv hcB hSB
      rw [HBN.out] at hv hcB
      subst hv
      have SB := Lib.hid (fun W (b : Below wr.heap.size wr W) => hSB.up b)
      replace P2 := Lib.hid (fun W (b : Below wr.heap.size wr W) => P2.out W (up_trans HB.out b))
      replace Q2 := Lib.hid (fun W (b : Below wr.heap.size wr W) => Q2.out W (up_trans HB.out b))
      replace T2 := Lib.hid (fun W (b : Below wr.heap.size wr W) => T2.out W (up_trans HB.out b))
      replace SL := Lib.hid (fun W (b : Below wr.heap.size wr W) => SL.out W (up_trans HB.out b))
      replace D1 := Lib.hid (fun W (b : Below wr.heap.size wr W) => D1.out W (up_trans HB.out b))
      replace B2 := Lib.hid (up_trans B2.out HB.out)
      have D2 := Lib.hid (fun W (b : Below wr.heap.size wr W) => C2.out _ cB hcB W (T2.out W b) (SB.out W b))
      have brr := Lib.hid (Below.refl wr.heap.size wr)
      have HCB := Lib.hid hcB
      clear hSB hcB HO HB C2 HTI b22 HBT
      go_wp2_with fail
      apply cut_rest
      case h1 =>
        intro REST
        refine wp_region_held_drew (S := fun W => W.rangeAt w.heap.size 0 (bys a) ∧ W.cell? ⟨ge, oe, none⟩ = some (.int .u64 (f : Nat))) (by kernel_rfl) (⟨(P2.out _ brr.out.drew).whole, Q2.out _ brr.out.drew⟩) (fun hHeld => ?_)
        refine wpAnyH_take (i := 0) rfl (by kernel_rfl) (by kernel_rfl) (by kernel_rfl) (fun _ _ _ h => h) (yieldsIf_load_mid (by rfl) _ _ rfl w.heap.size 0 rfl (bys a) _ (fun W h => h.1) hdu rfl (by rw [hdi, hal])) (by assumption) ?_
        try simp only [Act.put, List.getElem_toArray, List.getElem_cons_zero, List.setIfInBounds_toArray, List.set_cons_zero, List.set_cons_succ]
        refine wpAnyH_take (i := 1) (v := ?_) rfl (by kernel_rfl) (by kernel_rfl) (by kernel_rfl) (fun _ _ _ h => h) (Or.inl ⟨by rfl, ?_⟩) (by assumption) ?_
        rotate_left
        · intro w hSw; (try dsimp only at hSw); go_simp; try with_reducible rfl
        try simp only [Act.put, List.getElem_toArray, List.getElem_cons_zero, List.getElem_cons_succ, List.setIfInBounds_toArray, List.set_cons_zero, List.set_cons_succ]
        refine wpAnyH_take (i := 2) (v := ?_) rfl (by kernel_rfl) (by kernel_rfl) (by kernel_rfl) (fun _ _ _ h => h) (Or.inl ⟨by rfl, ?_⟩) (by assumption) ?_
        rotate_left
        · intro w hSw; (try dsimp only at hSw); go_simp; try with_reducible rfl
        try simp only [Act.put, List.getElem_toArray, List.getElem_cons_zero, List.getElem_cons_succ, List.setIfInBounds_toArray, List.set_cons_zero, List.set_cons_succ]
        refine wpAnyH_take (i := 3) (v := ?_) rfl (by kernel_rfl) (by kernel_rfl) (by kernel_rfl) (fun _ _ _ h => h) (Or.inl ⟨by rfl, ?_⟩) (by assumption) ?_
        rotate_left
        · intro w hSw; (try dsimp only at hSw); go_simp; try with_reducible rfl
        try simp only [Act.put, List.getElem_toArray, List.getElem_cons_zero, List.getElem_cons_succ, List.setIfInBounds_toArray, List.set_cons_zero, List.set_cons_succ]
        refine wpAnyH_take (i := 4) (v := ?_) rfl (by kernel_rfl) (by kernel_rfl) (by kernel_rfl) (fun _ _ _ h => h) (Or.inl ⟨by rfl, ?_⟩) (by assumption) ?_
        rotate_left
        · intro w hSw; (try dsimp only at hSw); go_simp; try with_reducible rfl
        try simp only [Act.put, List.getElem_toArray, List.getElem_cons_zero, List.getElem_cons_succ, List.setIfInBounds_toArray, List.set_cons_zero, List.set_cons_succ]
        refine wpAnyH_take (i := 5) (v := ?_) rfl (by kernel_rfl) (by kernel_rfl) (by kernel_rfl) (fun _ _ _ h => h) (Or.inl ⟨by rfl, ?_⟩) (by assumption) ?_
        rotate_left
        · intro w hSw; (try dsimp only at hSw); go_simp; try with_reducible rfl
        try simp only [Act.put, List.getElem_toArray, List.getElem_cons_zero, List.getElem_cons_succ, List.setIfInBounds_toArray, List.set_cons_zero, List.set_cons_succ]
        refine wpAnyH_ready (rs := [6, 11]) (by kernel_rfl) (by simp) (AllReadyH.cons rfl (fun K hK => ?_) (AllReadyH.cons rfl (fun K hK => ?_) AllReadyH.nil))
        · skip
          go_simp
          refine (D1.out _ (up_trans brr.out (Below.refl _ _).drew)).mono ?_; rintro e wn ⟨Aa, ca, rfl, hc', hO', hbn'⟩
          have hbn : Below wr.heap.size wr wn := up_trans (Below.refl _ _).drew hbn'
          have HO : Hid (OwnE wr.heap.size (.slice Aa nE ca) E wn) := Lib.hid (hO'.mono_base (Below.size (B := wr.heap.size) (Below.refl _ _).drew))
          have HC := Lib.hid hc'
          try replace HG := Lib.hid (HG.out.up hbn')
          clear hO' hbn' hc'
          go_wp2_with fail
          refine hK.out _ _ (⟨(P2.out _ (up_trans brr.out hbn)).whole, Q2.out _ (up_trans brr.out hbn)⟩) (fun hHeld => ?_)
          clear hK K
          try simp only [Act.put, List.getElem_toArray, List.getElem_cons_zero, List.getElem_cons_succ, List.setIfInBounds_toArray, List.set_cons_zero, List.set_cons_succ]
          refine wpAnyH_take (i := 7) (v := ?_) rfl (by kernel_rfl) (by kernel_rfl) (by kernel_rfl) (fun _ _ _ h => h) (Or.inl ⟨by rfl, ?_⟩) (by assumption) ?_
          rotate_left
          · intro w hSw; (try dsimp only at hSw); go_simp; try with_reducible rfl
          try simp only [Act.put, List.getElem_toArray, List.getElem_cons_zero, List.getElem_cons_succ, List.setIfInBounds_toArray, List.set_cons_zero, List.set_cons_succ]
          refine wpAnyH_take (i := 8) (v := ?_) rfl (by kernel_rfl) (by kernel_rfl) (by kernel_rfl) (fun _ _ _ h => h) (Or.inl ⟨by rfl, ?_⟩) (by assumption) ?_
          rotate_left
          · intro w hSw; (try dsimp only at hSw); go_simp; try with_reducible rfl
          try simp only [Act.put, List.getElem_toArray, List.getElem_cons_zero, List.getElem_cons_succ, List.setIfInBounds_toArray, List.set_cons_zero, List.set_cons_succ]
          refine wpAnyH_take (i := 9) (v := ?_) rfl (by kernel_rfl) (by kernel_rfl) (by kernel_rfl) (fun _ _ _ h => h) (Or.inl ⟨by rfl, ?_⟩) (by assumption) ?_
          rotate_left
          · intro w hSw; (try dsimp only at hSw); go_simp; try with_reducible rfl
          try simp only [Act.put, List.getElem_toArray, List.getElem_cons_zero, List.getElem_cons_succ, List.setIfInBounds_toArray, List.set_cons_zero, List.set_cons_succ]
          refine wpAnyH_take (i := 10) (v := ?_) rfl (by kernel_rfl) (by kernel_rfl) (by kernel_rfl) (fun _ _ _ h => h) (Or.inl ⟨by rfl, ?_⟩) (by assumption) ?_
          rotate_left
          · intro w hSw; (try dsimp only at hSw); go_simp; try with_reducible rfl
          try simp only [Act.put, List.getElem_toArray, List.getElem_cons_zero, List.getElem_cons_succ, List.setIfInBounds_toArray, List.set_cons_zero, List.set_cons_succ]
          refine wpAnyH_ready (rs := [11]) (by kernel_rfl) (by simp) (AllReadyH.cons rfl (fun K hK => ?_) AllReadyH.nil)
          go_simp
          refine hK.out _ _ (⟨(P2.out _ (up_trans brr.out (up_alloc hbn _))).whole, Q2.out _ (up_trans brr.out (up_alloc hbn _))⟩) (fun hHeld => ?_)
          clear hK K
          try simp only [Act.put, List.getElem_toArray, List.getElem_cons_zero, List.getElem_cons_succ, List.setIfInBounds_toArray, List.set_cons_zero, List.set_cons_succ]
          obtain ⟨GG, hGG⟩ : ∃ GG, GG = wn.heap.size := ⟨_, rfl⟩
          have HG : Hid (Has (wn.alloc (.cells (bys z32).toArray 23)) GG 23 (bys z32)) := Lib.hid (by rw [hGG]; exact Has.make wn 23 (bys z32))
          have hge : wr.heap.size ≤ GG := by rw [hGG]; exact hbn.size
          rw [← hGG]
          clear hGG
          replace hbn : Below wr.heap.size wr (wn.alloc (.cells (bys z32).toArray 23)) := up_alloc hbn _
          replace HO := Lib.hid (HO.out.alloc (.cells (bys z32).toArray 23))
          refine wpAnyH_take (i := 12) (v := ?_) rfl (by kernel_rfl) (by kernel_rfl) (by kernel_rfl) (fun _ _ _ h => h) (Or.inl ⟨by rfl, ?_⟩) (by assumption) ?_
          rotate_left
          · intro w hSw; (try dsimp only at hSw); go_simp; try with_reducible rfl
          try simp only [Act.put, List.getElem_toArray, List.getElem_cons_zero, List.getElem_cons_succ, List.setIfInBounds_toArray, List.set_cons_zero, List.set_cons_succ]
          refine wpAnyH_ready (rs := [13]) (by kernel_rfl) (by simp) (AllReadyH.cons rfl (fun K hK => ?_) AllReadyH.nil)
          refine wp_store_save 23 _ _ rfl GG 23 (bys z32) (bys sum) (by rfl) (by rfl) HG.out (by rw [hsuml, z3]) (by rw [hdi, hsuml]) hsumo ?_; intro wa hF4 s4; have FA : Hid (Fx wr wa GG sum (.slice Aa nE ca) E ∧ nE ≤ ca) := Lib.hid ⟨⟨hF4, HO.out.save s4 (fun k hk e => Typ.ne HG.out (by decide) (e ▸ hk)), hbn.trans (s4.below (fun k e => by omega) hbn.size), hge⟩, HC.out⟩; clear hF4 s4
          refine hK.out _ _ (⟨(P2.out _ (up_trans brr.out FA.out.1.below)).whole, Q2.out _ (up_trans brr.out FA.out.1.below)⟩) (fun hHeld => ?_)
          clear hK K
          try simp only [Act.put, List.getElem_toArray, List.getElem_cons_zero, List.getElem_cons_succ]
          refine wpAnyH_take (i := 14) (v := ?_) rfl (by kernel_rfl) (by kernel_rfl) (by kernel_rfl) (fun _ _ _ h => h) (Or.inl ⟨by rfl, ?_⟩) (by assumption) ?_
          rotate_left
          · intro w hSw; (try dsimp only at hSw); go_simp; try with_reducible rfl
          try simp only [Act.put, List.getElem_toArray, List.getElem_cons_zero, List.getElem_cons_succ, List.setIfInBounds_toArray, List.set_cons_zero, List.set_cons_succ]
          refine wpAnyH_done (by kernel_rfl) ?_ _
          clear hHeld hbn HG HO HC hge
          revert FA
          revert ca
          revert Aa
          revert wa
          revert GG
          exact REST
        · skip
          go_simp
          refine hK.out _ _ (⟨(P2.out _ (up_trans brr.out (up_alloc (Below.refl _ _).drew _))).whole, Q2.out _ (up_trans brr.out (up_alloc (Below.refl _ _).drew _))⟩) (fun hHeld => ?_)
          clear hK K
          try simp only [Act.put, List.getElem_toArray, List.getElem_cons_zero, List.getElem_cons_succ, List.setIfInBounds_toArray, List.set_cons_zero, List.set_cons_succ]
          obtain ⟨GG, hGG⟩ : ∃ GG, GG = wr.heap.size := ⟨_, rfl⟩
          have HG : Hid (Has (wr.drew.alloc (.cells (bys z32).toArray 23)) GG 23 (bys z32)) := Lib.hid (by rw [hGG]; exact Has.make wr.drew 23 (bys z32))
          have hge : wr.heap.size ≤ GG := by rw [hGG]; exact Nat.le_refl _
          rw [← hGG]
          clear hGG
          refine wpAnyH_ready (rs := [6]) (by kernel_rfl) (by simp) (AllReadyH.cons rfl (fun K hK => ?_) AllReadyH.nil)
          go_simp
          refine (D1.out _ (up_trans brr.out (up_alloc (Below.refl _ _).drew _))).mono ?_; rintro e wn ⟨Aa, ca, rfl, hc', hO', hbn'⟩
          have hbn : Below wr.heap.size wr wn := up_trans (up_alloc (Below.refl _ _).drew _) hbn'
          have HO : Hid (OwnE wr.heap.size (.slice Aa nE ca) E wn) := Lib.hid (hO'.mono_base (Below.size (B := wr.heap.size) (up_alloc (Below.refl _ _).drew _)))
          have HC := Lib.hid hc'
          try replace HG := Lib.hid (HG.out.up hbn')
          clear hO' hbn' hc'
          go_wp2_with fail
          refine hK.out _ _ (⟨(P2.out _ (up_trans brr.out hbn)).whole, Q2.out _ (up_trans brr.out hbn)⟩) (fun hHeld => ?_)
          clear hK K
          try simp only [Act.put, List.getElem_toArray, List.getElem_cons_zero, List.getElem_cons_succ, List.setIfInBounds_toArray, List.set_cons_zero, List.set_cons_succ]
          refine wpAnyH_take (i := 7) (v := ?_) rfl (by kernel_rfl) (by kernel_rfl) (by kernel_rfl) (fun _ _ _ h => h) (Or.inl ⟨by rfl, ?_⟩) (by assumption) ?_
          rotate_left
          · intro w hSw; (try dsimp only at hSw); go_simp; try with_reducible rfl
          try simp only [Act.put, List.getElem_toArray, List.getElem_cons_zero, List.getElem_cons_succ, List.setIfInBounds_toArray, List.set_cons_zero, List.set_cons_succ]
          refine wpAnyH_take (i := 8) (v := ?_) rfl (by kernel_rfl) (by kernel_rfl) (by kernel_rfl) (fun _ _ _ h => h) (Or.inl ⟨by rfl, ?_⟩) (by assumption) ?_
          rotate_left
          · intro w hSw; (try dsimp only at hSw); go_simp; try with_reducible rfl
          try simp only [Act.put, List.getElem_toArray, List.getElem_cons_zero, List.getElem_cons_succ, List.setIfInBounds_toArray, List.set_cons_zero, List.set_cons_succ]
          refine wpAnyH_take (i := 9) (v := ?_) rfl (by kernel_rfl) (by kernel_rfl) (by kernel_rfl) (fun _ _ _ h => h) (Or.inl ⟨by rfl, ?_⟩) (by assumption) ?_
          rotate_left
          · intro w hSw; (try dsimp only at hSw); go_simp; try with_reducible rfl
          try simp only [Act.put, List.getElem_toArray, List.getElem_cons_zero, List.getElem_cons_succ, List.setIfInBounds_toArray, List.set_cons_zero, List.set_cons_succ]
          refine wpAnyH_take (i := 10) (v := ?_) rfl (by kernel_rfl) (by kernel_rfl) (by kernel_rfl) (fun _ _ _ h => h) (Or.inl ⟨by rfl, ?_⟩) (by assumption) ?_
          rotate_left
          · intro w hSw; (try dsimp only at hSw); go_simp; try with_reducible rfl
          try simp only [Act.put, List.getElem_toArray, List.getElem_cons_zero, List.getElem_cons_succ, List.setIfInBounds_toArray, List.set_cons_zero, List.set_cons_succ]
          refine wpAnyH_take (i := 12) (v := ?_) rfl (by kernel_rfl) (by kernel_rfl) (by kernel_rfl) (fun _ _ _ h => h) (Or.inl ⟨by rfl, ?_⟩) (by assumption) ?_
          rotate_left
          · intro w hSw; (try dsimp only at hSw); go_simp; try with_reducible rfl
          try simp only [Act.put, List.getElem_toArray, List.getElem_cons_zero, List.getElem_cons_succ, List.setIfInBounds_toArray, List.set_cons_zero, List.set_cons_succ]
          refine wpAnyH_ready (rs := [13]) (by kernel_rfl) (by simp) (AllReadyH.cons rfl (fun K hK => ?_) AllReadyH.nil)
          refine wp_store_save 23 _ _ rfl GG 23 (bys z32) (bys sum) (by rfl) (by rfl) HG.out (by rw [hsuml, z3]) (by rw [hdi, hsuml]) hsumo ?_; intro wa hF4 s4; have FA : Hid (Fx wr wa GG sum (.slice Aa nE ca) E ∧ nE ≤ ca) := Lib.hid ⟨⟨hF4, HO.out.save s4 (fun k hk e => Typ.ne HG.out (by decide) (e ▸ hk)), hbn.trans (s4.below (fun k e => by omega) hbn.size), hge⟩, HC.out⟩; clear hF4 s4
          refine hK.out _ _ (⟨(P2.out _ (up_trans brr.out FA.out.1.below)).whole, Q2.out _ (up_trans brr.out FA.out.1.below)⟩) (fun hHeld => ?_)
          clear hK K
          try simp only [Act.put, List.getElem_toArray, List.getElem_cons_zero, List.getElem_cons_succ]
          refine wpAnyH_take (i := 14) (v := ?_) rfl (by kernel_rfl) (by kernel_rfl) (by kernel_rfl) (fun _ _ _ h => h) (Or.inl ⟨by rfl, ?_⟩) (by assumption) ?_
          rotate_left
          · intro w hSw; (try dsimp only at hSw); go_simp; try with_reducible rfl
          try simp only [Act.put, List.getElem_toArray, List.getElem_cons_zero, List.getElem_cons_succ, List.setIfInBounds_toArray, List.set_cons_zero, List.set_cons_succ]
          refine wpAnyH_done (by kernel_rfl) ?_ _
          clear hHeld hbn HG HO HC hge
          revert FA
          revert ca
          revert Aa
          revert wa
          revert GG
          exact REST
      case h2 =>
        intro G1 wa Aa ca FA
        have Ba := Lib.hid FA.out.1.below
        go_wp2_with fail
        apply cut_rest
        case h1 =>
          intro REST
          refine wp_region_held_drew (S := fun W => W.rangeAt w.heap.size 0 (bys a) ∧ W.cell? ⟨ge, oe, none⟩ = some (.int .u64 (f : Nat))) (by kernel_rfl) (⟨(P2.out _ Ba.out.drew).whole, Q2.out _ Ba.out.drew⟩) (fun hHeld => ?_)
          refine wpAnyH_take (i := 0) rfl (by kernel_rfl) (by kernel_rfl) (by kernel_rfl) (fun _ _ _ h => h) (yieldsIf_load_mid (by rfl) _ _ rfl w.heap.size 0 rfl (bys a) _ (fun W h => h.1) hdu rfl (by rw [hdi, hal])) (by assumption) ?_
          try simp only [Act.put, List.getElem_toArray, List.getElem_cons_zero, List.setIfInBounds_toArray, List.set_cons_zero, List.set_cons_succ]
          refine wpAnyH_take (i := 1) (v := ?_) rfl (by kernel_rfl) (by kernel_rfl) (by kernel_rfl) (fun _ _ _ h => h) (Or.inl ⟨by rfl, ?_⟩) (by assumption) ?_
          rotate_left
          · intro w hSw; (try dsimp only at hSw); go_simp; try with_reducible rfl
          try simp only [Act.put, List.getElem_toArray, List.getElem_cons_zero, List.getElem_cons_succ, List.setIfInBounds_toArray, List.set_cons_zero, List.set_cons_succ]
          refine wpAnyH_take (i := 2) (v := ?_) rfl (by kernel_rfl) (by kernel_rfl) (by kernel_rfl) (fun _ _ _ h => h) (Or.inl ⟨by rfl, ?_⟩) (by assumption) ?_
          rotate_left
          · intro w hSw; (try dsimp only at hSw); go_simp; try with_reducible rfl
          try simp only [Act.put, List.getElem_toArray, List.getElem_cons_zero, List.getElem_cons_succ, List.setIfInBounds_toArray, List.set_cons_zero, List.set_cons_succ]
          refine wpAnyH_take (i := 3) (v := ?_) rfl (by kernel_rfl) (by kernel_rfl) (by kernel_rfl) (fun _ _ _ h => h) (Or.inl ⟨by rfl, ?_⟩) (by assumption) ?_
          rotate_left
          · intro w hSw; (try dsimp only at hSw); go_simp; try with_reducible rfl
          try simp only [Act.put, List.getElem_toArray, List.getElem_cons_zero, List.getElem_cons_succ, List.setIfInBounds_toArray, List.set_cons_zero, List.set_cons_succ]
          refine wpAnyH_take (i := 4) (v := ?_) rfl (by kernel_rfl) (by kernel_rfl) (by kernel_rfl) (fun _ _ _ h => h) (Or.inl ⟨by rfl, ?_⟩) (by assumption) ?_
          rotate_left
          · intro w hSw; (try dsimp only at hSw); go_simp; try with_reducible rfl
          try simp only [Act.put, List.getElem_toArray, List.getElem_cons_zero, List.getElem_cons_succ, List.setIfInBounds_toArray, List.set_cons_zero, List.set_cons_succ]
          refine wpAnyH_take (i := 5) (v := ?_) rfl (by kernel_rfl) (by kernel_rfl) (by kernel_rfl) (fun _ _ _ h => h) (Or.inl ⟨by rfl, ?_⟩) (by assumption) ?_
          rotate_left
          · intro w hSw; (try dsimp only at hSw); go_simp; try with_reducible rfl
          try simp only [Act.put, List.getElem_toArray, List.getElem_cons_zero, List.getElem_cons_succ, List.setIfInBounds_toArray, List.set_cons_zero, List.set_cons_succ]
          refine wpAnyH_ready (rs := [6, 11]) (by kernel_rfl) (by simp) (AllReadyH.cons rfl (fun K hK => ?_) (AllReadyH.cons rfl (fun K hK => ?_) AllReadyH.nil))
          · skip
            go_simp
            refine (D2.out _ (up_trans Ba.out (Below.refl _ _).drew)).mono ?_; rintro e wn ⟨Ab, cb, rfl, hc', hO', hbn'⟩
            have hbn : Below wa.heap.size wa wn := up_trans (Below.refl _ _).drew hbn'
            have HO : Hid (OwnE wa.heap.size (.slice Ab nY cb) E2 wn) := Lib.hid (hO'.mono_base (Below.size (B := wa.heap.size) (Below.refl _ _).drew))
            have HC := Lib.hid hc'
            try replace HG := Lib.hid (HG.out.up hbn')
            clear hO' hbn' hc'
            go_wp2_with fail
            refine hK.out _ _ (⟨(P2.out _ (up_trans Ba.out hbn)).whole, Q2.out _ (up_trans Ba.out hbn)⟩) (fun hHeld => ?_)
            clear hK K
            try simp only [Act.put, List.getElem_toArray, List.getElem_cons_zero, List.getElem_cons_succ, List.setIfInBounds_toArray, List.set_cons_zero, List.set_cons_succ]
            refine wpAnyH_take (i := 7) (v := ?_) rfl (by kernel_rfl) (by kernel_rfl) (by kernel_rfl) (fun _ _ _ h => h) (Or.inl ⟨by rfl, ?_⟩) (by assumption) ?_
            rotate_left
            · intro w hSw; (try dsimp only at hSw); go_simp; try with_reducible rfl
            try simp only [Act.put, List.getElem_toArray, List.getElem_cons_zero, List.getElem_cons_succ, List.setIfInBounds_toArray, List.set_cons_zero, List.set_cons_succ]
            refine wpAnyH_take (i := 8) (v := ?_) rfl (by kernel_rfl) (by kernel_rfl) (by kernel_rfl) (fun _ _ _ h => h) (Or.inl ⟨by rfl, ?_⟩) (by assumption) ?_
            rotate_left
            · intro w hSw; (try dsimp only at hSw); go_simp; try with_reducible rfl
            try simp only [Act.put, List.getElem_toArray, List.getElem_cons_zero, List.getElem_cons_succ, List.setIfInBounds_toArray, List.set_cons_zero, List.set_cons_succ]
            refine wpAnyH_take (i := 9) (v := ?_) rfl (by kernel_rfl) (by kernel_rfl) (by kernel_rfl) (fun _ _ _ h => h) (Or.inl ⟨by rfl, ?_⟩) (by assumption) ?_
            rotate_left
            · intro w hSw; (try dsimp only at hSw); go_simp; try with_reducible rfl
            try simp only [Act.put, List.getElem_toArray, List.getElem_cons_zero, List.getElem_cons_succ, List.setIfInBounds_toArray, List.set_cons_zero, List.set_cons_succ]
            refine wpAnyH_take (i := 10) (v := ?_) rfl (by kernel_rfl) (by kernel_rfl) (by kernel_rfl) (fun _ _ _ h => h) (Or.inl ⟨by rfl, ?_⟩) (by assumption) ?_
            rotate_left
            · intro w hSw; (try dsimp only at hSw); go_simp; try with_reducible rfl
            try simp only [Act.put, List.getElem_toArray, List.getElem_cons_zero, List.getElem_cons_succ, List.setIfInBounds_toArray, List.set_cons_zero, List.set_cons_succ]
            refine wpAnyH_ready (rs := [11]) (by kernel_rfl) (by simp) (AllReadyH.cons rfl (fun K hK => ?_) AllReadyH.nil)
            go_simp
            refine hK.out _ _ (⟨(P2.out _ (up_trans Ba.out (up_alloc hbn _))).whole, Q2.out _ (up_trans Ba.out (up_alloc hbn _))⟩) (fun hHeld => ?_)
            clear hK K
            try simp only [Act.put, List.getElem_toArray, List.getElem_cons_zero, List.getElem_cons_succ, List.setIfInBounds_toArray, List.set_cons_zero, List.set_cons_succ]
            obtain ⟨GG, hGG⟩ : ∃ GG, GG = wn.heap.size := ⟨_, rfl⟩
            have HG : Hid (Has (wn.alloc (.cells (bys z32).toArray 23)) GG 23 (bys z32)) := Lib.hid (by rw [hGG]; exact Has.make wn 23 (bys z32))
            have hge : wa.heap.size ≤ GG := by rw [hGG]; exact hbn.size
            rw [← hGG]
            clear hGG
            replace hbn : Below wa.heap.size wa (wn.alloc (.cells (bys z32).toArray 23)) := up_alloc hbn _
            replace HO := Lib.hid (HO.out.alloc (.cells (bys z32).toArray 23))
            refine wpAnyH_take (i := 12) (v := ?_) rfl (by kernel_rfl) (by kernel_rfl) (by kernel_rfl) (fun _ _ _ h => h) (Or.inl ⟨by rfl, ?_⟩) (by assumption) ?_
            rotate_left
            · intro w hSw; (try dsimp only at hSw); go_simp; try with_reducible rfl
            try simp only [Act.put, List.getElem_toArray, List.getElem_cons_zero, List.getElem_cons_succ, List.setIfInBounds_toArray, List.set_cons_zero, List.set_cons_succ]
            refine wpAnyH_ready (rs := [13]) (by kernel_rfl) (by simp) (AllReadyH.cons rfl (fun K hK => ?_) AllReadyH.nil)
            refine wp_store_save 23 _ _ rfl GG 23 (bys z32) (bys y) (by rfl) (by rfl) HG.out (by rw [hyl, z3]) (by rw [hdi, hyl]) hyo ?_; intro wb hF4 s4; have FB : Hid (Fx wa wb GG y (.slice Ab nY cb) E2 ∧ nY ≤ cb) := Lib.hid ⟨⟨hF4, HO.out.save s4 (fun k hk e => Typ.ne HG.out (by decide) (e ▸ hk)), hbn.trans (s4.below (fun k e => by omega) hbn.size), hge⟩, HC.out⟩; clear hF4 s4
            refine hK.out _ _ (⟨(P2.out _ (up_trans Ba.out FB.out.1.below)).whole, Q2.out _ (up_trans Ba.out FB.out.1.below)⟩) (fun hHeld => ?_)
            clear hK K
            try simp only [Act.put, List.getElem_toArray, List.getElem_cons_zero, List.getElem_cons_succ]
            refine wpAnyH_take (i := 14) (v := ?_) rfl (by kernel_rfl) (by kernel_rfl) (by kernel_rfl) (fun _ _ _ h => h) (Or.inl ⟨by rfl, ?_⟩) (by assumption) ?_
            rotate_left
            · intro w hSw; (try dsimp only at hSw); go_simp; try with_reducible rfl
            try simp only [Act.put, List.getElem_toArray, List.getElem_cons_zero, List.getElem_cons_succ, List.setIfInBounds_toArray, List.set_cons_zero, List.set_cons_succ]
            refine wpAnyH_done (by kernel_rfl) ?_ _
            clear hHeld hbn HG HO HC hge
            revert FB
            revert cb
            revert Ab
            revert wb
            revert GG
            exact REST
          · skip
            go_simp
            refine hK.out _ _ (⟨(P2.out _ (up_trans Ba.out (up_alloc (Below.refl _ _).drew _))).whole, Q2.out _ (up_trans Ba.out (up_alloc (Below.refl _ _).drew _))⟩) (fun hHeld => ?_)
            clear hK K
            try simp only [Act.put, List.getElem_toArray, List.getElem_cons_zero, List.getElem_cons_succ, List.setIfInBounds_toArray, List.set_cons_zero, List.set_cons_succ]
            obtain ⟨GG, hGG⟩ : ∃ GG, GG = wa.heap.size := ⟨_, rfl⟩
            have HG : Hid (Has (wa.drew.alloc (.cells (bys z32).toArray 23)) GG 23 (bys z32)) := Lib.hid (by rw [hGG]; exact Has.make wa.drew 23 (bys z32))
            have hge : wa.heap.size ≤ GG := by rw [hGG]; exact Nat.le_refl _
            rw [← hGG]
            clear hGG
            refine wpAnyH_ready (rs := [6]) (by kernel_rfl) (by simp) (AllReadyH.cons rfl (fun K hK => ?_) AllReadyH.nil)
            go_simp
            refine (D2.out _ (up_trans Ba.out (up_alloc (Below.refl _ _).drew _))).mono ?_; rintro e wn ⟨Ab, cb, rfl, hc', hO', hbn'⟩
            have hbn : Below wa.heap.size wa wn := up_trans (up_alloc (Below.refl _ _).drew _) hbn'
            have HO : Hid (OwnE wa.heap.size (.slice Ab nY cb) E2 wn) := Lib.hid (hO'.mono_base (Below.size (B := wa.heap.size) (up_alloc (Below.refl _ _).drew _)))
            have HC := Lib.hid hc'
            try replace HG := Lib.hid (HG.out.up hbn')
            clear hO' hbn' hc'
            go_wp2_with fail
            refine hK.out _ _ (⟨(P2.out _ (up_trans Ba.out hbn)).whole, Q2.out _ (up_trans Ba.out hbn)⟩) (fun hHeld => ?_)
            clear hK K
            try simp only [Act.put, List.getElem_toArray, List.getElem_cons_zero, List.getElem_cons_succ, List.setIfInBounds_toArray, List.set_cons_zero, List.set_cons_succ]
            refine wpAnyH_take (i := 7) (v := ?_) rfl (by kernel_rfl) (by kernel_rfl) (by kernel_rfl) (fun _ _ _ h => h) (Or.inl ⟨by rfl, ?_⟩) (by assumption) ?_
            rotate_left
            · intro w hSw; (try dsimp only at hSw); go_simp; try with_reducible rfl
            try simp only [Act.put, List.getElem_toArray, List.getElem_cons_zero, List.getElem_cons_succ, List.setIfInBounds_toArray, List.set_cons_zero, List.set_cons_succ]
            refine wpAnyH_take (i := 8) (v := ?_) rfl (by kernel_rfl) (by kernel_rfl) (by kernel_rfl) (fun _ _ _ h => h) (Or.inl ⟨by rfl, ?_⟩) (by assumption) ?_
            rotate_left
            · intro w hSw; (try dsimp only at hSw); go_simp; try with_reducible rfl
            try simp only [Act.put, List.getElem_toArray, List.getElem_cons_zero, List.getElem_cons_succ, List.setIfInBounds_toArray, List.set_cons_zero, List.set_cons_succ]
            refine wpAnyH_take (i := 9) (v := ?_) rfl (by kernel_rfl) (by kernel_rfl) (by kernel_rfl) (fun _ _ _ h => h) (Or.inl ⟨by rfl, ?_⟩) (by assumption) ?_
            rotate_left
            · intro w hSw; (try dsimp only at hSw); go_simp; try with_reducible rfl
            try simp only [Act.put, List.getElem_toArray, List.getElem_cons_zero, List.getElem_cons_succ, List.setIfInBounds_toArray, List.set_cons_zero, List.set_cons_succ]
            refine wpAnyH_take (i := 10) (v := ?_) rfl (by kernel_rfl) (by kernel_rfl) (by kernel_rfl) (fun _ _ _ h => h) (Or.inl ⟨by rfl, ?_⟩) (by assumption) ?_
            rotate_left
            · intro w hSw; (try dsimp only at hSw); go_simp; try with_reducible rfl
            try simp only [Act.put, List.getElem_toArray, List.getElem_cons_zero, List.getElem_cons_succ, List.setIfInBounds_toArray, List.set_cons_zero, List.set_cons_succ]
            refine wpAnyH_take (i := 12) (v := ?_) rfl (by kernel_rfl) (by kernel_rfl) (by kernel_rfl) (fun _ _ _ h => h) (Or.inl ⟨by rfl, ?_⟩) (by assumption) ?_
            rotate_left
            · intro w hSw; (try dsimp only at hSw); go_simp; try with_reducible rfl
            try simp only [Act.put, List.getElem_toArray, List.getElem_cons_zero, List.getElem_cons_succ, List.setIfInBounds_toArray, List.set_cons_zero, List.set_cons_succ]
            refine wpAnyH_ready (rs := [13]) (by kernel_rfl) (by simp) (AllReadyH.cons rfl (fun K hK => ?_) AllReadyH.nil)
            refine wp_store_save 23 _ _ rfl GG 23 (bys z32) (bys y) (by rfl) (by rfl) HG.out (by rw [hyl, z3]) (by rw [hdi, hyl]) hyo ?_; intro wb hF4 s4; have FB : Hid (Fx wa wb GG y (.slice Ab nY cb) E2 ∧ nY ≤ cb) := Lib.hid ⟨⟨hF4, HO.out.save s4 (fun k hk e => Typ.ne HG.out (by decide) (e ▸ hk)), hbn.trans (s4.below (fun k e => by omega) hbn.size), hge⟩, HC.out⟩; clear hF4 s4
            refine hK.out _ _ (⟨(P2.out _ (up_trans Ba.out FB.out.1.below)).whole, Q2.out _ (up_trans Ba.out FB.out.1.below)⟩) (fun hHeld => ?_)
            clear hK K
            try simp only [Act.put, List.getElem_toArray, List.getElem_cons_zero, List.getElem_cons_succ]
            refine wpAnyH_take (i := 14) (v := ?_) rfl (by kernel_rfl) (by kernel_rfl) (by kernel_rfl) (fun _ _ _ h => h) (Or.inl ⟨by rfl, ?_⟩) (by assumption) ?_
            rotate_left
            · intro w hSw; (try dsimp only at hSw); go_simp; try with_reducible rfl
            try simp only [Act.put, List.getElem_toArray, List.getElem_cons_zero, List.getElem_cons_succ, List.setIfInBounds_toArray, List.set_cons_zero, List.set_cons_succ]
            refine wpAnyH_done (by kernel_rfl) ?_ _
            clear hHeld hbn HG HO HC hge
            revert FB
            revert cb
            revert Ab
            revert wb
            revert GG
            exact REST
        case h2 =>
          intro G2 wb Ab cb FB
          have Bb := Lib.hid (up_trans Ba.out FB.out.1.below)
          have S1 := Lib.hid (FA.out.1.has.up FB.out.1.below)
          have S2 := Lib.hid FB.out.1.has
          replace T2 := Lib.hid (fun W (b : Below wb.heap.size wb W) => T2.out W (up_trans Bb.out b))
          replace SL := Lib.hid (fun W (b : Below wb.heap.size wb W) => SL.out W (up_trans Bb.out b))
          replace SB := Lib.hid (fun W (b : Below wb.heap.size wb W) => SB.out W (up_trans Bb.out b))
          replace B2 := Lib.hid (up_trans B2.out Bb.out)
          clear D1 D2 FA FB Ba Bb P2 Q2 brr
          by_cases hr : r = 0
          · subst hr
            by_cases hxy : sum = y
            · subst hxy
              rw [show (!decide (sum = sum)) = false by simp] at NQ
              go_wp2_with (first | (refine wpList_load_wanted (by rfl) 23 _ rfl G1 (by rfl) _ _ _ _ S1.out hdu rfl (by rw [hdi, List.size_toArray, hsuml]) ?_) | (refine wpList_load_wanted (by rfl) 23 _ rfl G2 (by rfl) _ _ _ _ S2.out hdu rfl (by rw [hdi, List.size_toArray, hyl]) ?_))
              refine (K9.out _ _ _ _ hcL HCB.out wb (T2.out _ (Below.refl _ _)) (SL.out _ (Below.refl _ _)) (SB.out _ (Below.refl _ _))).mono ?_; rintro e wc ⟨rfl, bc⟩
              have Bc := Lib.hid bc
              clear bc
              go_wp2_with fail
              refine (L9.out _ (T2.out _ Bc.out)).mono ?_; rintro e wd ⟨rfl, bd⟩
              have Bd := Lib.hid (up_trans Bc.out bd)
              clear bd
              by_cases hlb : l = B
              · have his := HSM.out hlb
                subst his
                have s9 := S9.out (some ⟨gl, ol, none⟩) AB cL cB wd (SL.out _ Bd.out) (SB.out _ Bd.out)
                rw [decide_eq_true hlb] at s9
                have SS := Lib.hid s9
                clear s9 hlb
                go_wp2_with fail
                refine SS.out.mono ?_; rintro e we ⟨rfl, be⟩
                go_wp2_with fail
                go_ret
                exact ⟨rfl, up_trans B2.out (up_trans Bd.out be)⟩
              · have his : is = true := by have := HTL.out; simpa [hlb] using this
                subst his
                clear hlb
                go_wp2_with fail
                go_ret
                exact ⟨rfl, up_trans B2.out Bd.out⟩
            · rw [show (!decide (sum = y)) = true by simp [hxy]] at NQ
              go_wp2_with (first | (refine wpList_load_wanted (by rfl) 23 _ rfl G1 (by rfl) _ _ _ _ S1.out hdu rfl (by rw [hdi, List.size_toArray, hsuml]) ?_) | (refine wpList_load_wanted (by rfl) 23 _ rfl G2 (by rfl) _ _ _ _ S2.out hdu rfl (by rw [hdi, List.size_toArray, hyl]) ?_))
              refine (L9.out _ (T2.out _ (Below.refl _ _))).mono ?_; rintro e wd ⟨rfl, bd⟩
              go_wp2_with fail
              go_ret
              exact ⟨rfl, up_trans B2.out bd⟩
          · have r1 : ((r : Int) == 0) = false := by simp; omega
            have r2 : ((r : Int) != 0) = true := by simp; omega
            go_wp2_with fail
            refine (L9.out _ (T2.out _ (Below.refl _ _))).mono ?_; rintro e wd ⟨rfl, bd⟩
            go_wp2_with fail
            go_ret
            exact ⟨rfl, up_trans B2.out bd⟩

theorem ChainSpoilt_core (LK : LinkC) (CK : CheckC) (CL : ClashC) (a : List UInt8) (ha : a.length = 32) (evs : List Ev) (hs : ∀ x ∈ evs, x.seq < 18446744073709551616) (A : Option Addr) (n c : Nat) (hn : n = evs.length) (hc : n ≤ c) (zs : List Int) (Z : Option Addr) (m d : Nat) (hm : m = zs.length) (i j : Int) (bb : UInt8) (w : World) (hTab : Tab w) (hA : EvSl w A evs) (hZ : ZSl w Z zs) :
    Calls Tryd.prog 8 #[.agg (bys a).toArray, .slice A n c, .slice Z m d, .int .i64 i, .int .i64 j, .int .u8 (bb.toNat : Nat)] w fun e w' => e = .returned (.bool true) ∧ Below w.heap.size w w' := by
  by_cases h1 : n ≤ 200
  · by_cases h2 : m ≤ 30
    · by_cases h3 : n = 0
      · exact spoilt_early2 LK CK CL a ha evs hs A n c hn hc zs Z m d hm i j bb h1 h2 h3 w hTab hA hZ
      · by_cases h6 : headSeq evs ≤ 9223372036854775808
        · cases h4 : runL evs with
          | false => exact spoilt_early4 LK CK CL a ha evs hs A n c hn hc zs Z m d hm i j bb h1 h2 h3 h6 h4 w hTab hA hZ
          | true =>
            by_cases h7 : i < 0
            · exact spoilt_out0 LK CK CL a ha evs hs A n c hn hc zs Z m d hm i j bb h1 h2 h3 h6 h4 h7 w hTab hA hZ
            · by_cases h8 : j < 0
              · exact spoilt_out1 LK CK CL a ha evs hs A n c hn hc zs Z m d hm i j bb h1 h2 h3 h6 h4 (by omega) h8 w hTab hA hZ
              · by_cases h9 : ((rws hsh a evs zs).length : Int) ≤ i
                · exact spoilt_out2 LK CK CL a ha evs hs A n c hn hc zs Z m d hm i j bb h1 h2 h3 h6 h4 (by omega) (by omega) h9 w hTab hA hZ
                · by_cases h10 : ((rws hsh a evs zs).length : Int) ≤ j
                  · exact spoilt_out3 LK CK CL a ha evs hs A n c hn hc zs Z m d hm i j bb h1 h2 h3 h6 h4 (by omega) (by omega) (by omega) h10 w hTab hA hZ
                  · obtain ⟨ii, rfl⟩ : ∃ p : Nat, i = (p : Int) := ⟨i.toNat, by omega⟩
                    obtain ⟨jj, rfl⟩ : ∃ p : Nat, j = (p : Int) := ⟨j.toNat, by omega⟩
                    by_cases hij : ii = jj
                    · subst hij
                      exact spoilt_bend LK CK CL a ha evs hs A n c hn hc zs Z m d hm ii (by omega) bb h1 h2 h3 h6 h4 w hTab hA hZ
                    · exact spoilt_swap LK CK CL a ha evs hs A n c hn hc zs Z m d hm ii (by omega) jj (by omega) hij bb h1 h2 h3 h6 h4 w hTab hA hZ
        · exact spoilt_early3 LK CK CL a ha evs hs A n c hn hc zs Z m d hm i j bb h1 h2 h3 (by omega) w hTab hA hZ
    · exact spoilt_early1 LK CK CL a ha evs hs A n c hn hc zs Z m d hm i j bb h1 (by omega) w hTab hA hZ
  · exact spoilt_early0 LK CK CL a ha evs hs A n c hn hc zs Z m d hm i j bb (by omega) w hTab hA hZ

end Go.Proofs.YthhcopeejhhpgaaDoor
