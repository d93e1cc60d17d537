/- The walk of the law SectorLasts: what was flushed is there behind any crash, in each sector that was not written to since. -/
import Derived.Test.YtbkieheebilopaaPureLasts
import Derived.Deep.DeepCutAuto
namespace Go.Proofs.Ytbkieheebilopaa
open Go.RowKit Sec

set_option maxRecDepth 100000 in
set_option maxHeartbeats 2000000 in
theorem lasts_bad (m n fl : Int) (A A2 : Option Addr) (l c l2 c2 : Nat) (t : Int) (hb : m < 1 ∨ 64 < m ∨ n < 64 ∨ 1024 < n ∨ 60 < l) (w : World) :
    Calls Try.prog 3 #[.int .i64 m, .int .i64 n, .int .i64 fl, .slice A l c, .slice A2 l2 c2, .int .i64 t] w fun e w' => e = .returned (.bool true) ∧ Below w.heap.size w w' := by
  have C := Lib.hid (written_bad m n fl A l c hb)
  by_cases h1 : 64 < m
  · clear hb C
    go_enter Try.func3, Try.ntmps3
    go_wp2_with fail
    refine (stored_any _).mono ?_; rintro e w2 ⟨rfl, b2⟩
    have B2 := Lib.hid b2
    clear b2
    go_wp2_with fail
    go_ret
    exact ⟨rfl, B2.out⟩
  · by_cases h2 : (60 : Int) < (l : Int)
    · have h1' : m ≤ 64 := by omega
      clear hb C
      go_enter Try.func3, Try.ntmps3
      go_wp2_with fail
      refine (stored_any _).mono ?_; rintro e w2 ⟨rfl, b2⟩
      have B2 := Lib.hid b2
      clear b2
      go_wp2_with fail
      go_ret
      exact ⟨rfl, B2.out⟩
    · have h1' : m ≤ 64 := by omega
      have h2' : (l : Int) ≤ 60 := by omega
      clear hb
      go_enter Try.func3, Try.ntmps3
      go_wp2_with fail
      refine (C.out _).mono ?_; rintro e w1 ⟨rfl, b1⟩
      have B1 := Lib.hid b1
      clear b1
      go_wp2_with fail
      refine (stored_any _).mono ?_; rintro e w2 ⟨rfl, b2⟩
      have B2 := Lib.hid (up_trans B1.out b2)
      clear b2
      go_wp2_with fail
      go_ret
      exact ⟨rfl, B2.out⟩

/-- From where on writes are pending. -/
theorem lasts_from (fl : Int) (l : Nat) : ∃ fr : Nat, fr ≤ l ∧ ((0 ≤ fl ∧ fl < (l : Int) ∧ (fr : Int) = fl) ∨ fr = 0 ∧ (fl < 0 ∨ (l : Int) ≤ fl)) := by
  by_cases h : 0 ≤ fl ∧ fl < (l : Int)
  · exact ⟨fl.toNat, by omega, Or.inl (by omega)⟩
  · exact ⟨0, by omega, Or.inr (by omega)⟩

/-- Whether a flush was asked for in the row. -/
def FromIs (v : Value) (fl : Int) (fr : Nat) : Prop := v = .bool true ∧ fl = (fr : Int) ∨ v = .bool false ∧ fr = 0

theorem cnt_le (g : Nat → Bool) : ∀ k, cnt g k ≤ k
  | 0 => Nat.le_refl _
  | k + 1 => by
    have := cnt_le g k
    rw [cnt]
    split <;> omega

set_option maxHeartbeats 1000000 in
set_option maxRecDepth 100000 in
theorem lasts_ok (m n : Nat) (h1 : 1 ≤ m) (h2 : m ≤ 64) (h3 : 64 ≤ n) (h4 : n ≤ 1024) (fl : Int) (A A2 : Option Addr) (ats : List Int) (K : List Bool) (c c2 : Nat) (t : Int) (hl : ats.length ≤ 60) (hK : K.length ≤ 9223372036854775807) (w : World) (hA : InSl w A ats) (hA2 : BoSl w A2 K) :
    Calls Try.prog 3 #[.int .i64 (m : Nat), .int .i64 (n : Nat), .int .i64 fl, .slice A ats.length c, .slice A2 K.length c2, .int .i64 t] w fun e w' => e = .returned (.bool true) ∧ Below w.heap.size w w' := by
  have HA := Lib.hid hA
  have HA2 := Lib.hid hA2
  have C := Lib.hid (written_ok m n h1 h2 h3 h4 fl A ats c hl w hA)
  have dok := wst_ok fl (Dk.new_ok (m := m) (n := n) h1 (by omega) h3 h4) ats ats.length
  have dbr := wst_br fl (Dk.new m n) ats ats.length
  have dP := wst_P fl (Dk.new m n) ats ats.length
  have dm := wst_many fl (Dk.new m n) ats ats.length
  have dn := wst_size fl (Dk.new m n) ats ats.length
  have dpd := wst_pend fl (m := m) (n := n) ats ats.length
  obtain ⟨fr, hfrl, hfr⟩ := lasts_from fl ats.length
  unfold Writ at C
  generalize wst fl (Dk.new m n) ats ats.length = D at *
  have dm' : D.many = m := dm
  have dn' : D.size = n := dn
  have dbr' : D.br = false := dbr
  have dP' : D.P.length ≤ 100000 := by simp [Dk.new] at dP; omega
  obtain ⟨k1, k2⟩ := lasts_all (fl := fl) (t := t) (K := K) (fr := fr) dok dm' dn' dpd (by rcases hfr with h | h; exact Or.inl h; exact Or.inr h.1)
  have CC := Lib.hid (fun dd w' (hs : w.heap.size ≤ w'.heap.size) (h : Mine w.heap.size w' dd D) (hb : BoSl w' A2 K) => crash_mine hs h dP' K A2 K.length c2 rfl hK hb t)
  have dok2 := dok.crash K t
  have hW : D.L.length = m * n := by rw [dok.len, dm', dn']
  have hI : (D.crash K t).L.length = m * n := by
    have := dok2.len
    rw [this]
    show D.many * D.size = _
    rw [dm', dn']
  have hrd : ∀ k, k < m → (D.crash K t).read (k : Nat) = (D.crash K t, S n (D.crash K t).L k, 0) := by
    intro k hk
    have hd : (D.crash K t).down = false := rfl
    have hmm : (D.crash K t).many = m := dm'
    have hnn : (D.crash K t).size = n := dn'
    have hu : (D.crash K t).unfit (k : Nat) = 0 := by unfold Dk.unfit; rw [hd, if_neg (by simp), hmm, if_neg (by omega)]
    have hc : (D.crash K t).counted = D.crash K t := rfl
    unfold Dk.read
    rw [if_pos hu, hc, Int.toNat_natCast]
    unfold Dk.sec
    rw [if_pos (by rfl), hnn]
    rfl
  have hpn : (D.crash K t).P.length = 0 := rfl
  generalize D.crash K t = E at *
  obtain ⟨l, hll⟩ : ∃ l, l = ats.length := ⟨_, rfl⟩
  obtain ⟨l2, hll2⟩ : ∃ l2, l2 = K.length := ⟨_, rfl⟩
  rw [← hll] at hl hfr C ⊢
  rw [← hll2] at CC ⊢
  have HL := Lib.hid hll
  have hmi : (m : Int) ≤ 64 := by omega
  have hli : (l : Int) ≤ 60 := by omega
  have HN := Lib.hid h4
  have HN3 := Lib.hid h3
  have hN : m * n ≤ 65536 := by have := Nat.mul_le_mul h2 h4; omega
  have hwN2 : wrap64 ((m : Int) * (n : Int)) = ((m * n : Nat) : Int) := by
    have : (m : Int) * (n : Int) = ((m * n : Nat) : Int) := by simp
    rw [this]; exact IntWalk.wrap64_in _ ⟨by omega, by omega⟩
  obtain ⟨N, hNN⟩ : ∃ N, N = m * n := ⟨_, rfl⟩
  rw [← hNN] at hwN2 hN hW hI
  have HNN := Lib.hid hNN
  obtain ⟨WS, hWS⟩ : ∃ WS : ByteArray, WS = ⟨D.L.toArray⟩ := ⟨_, rfl⟩
  obtain ⟨IS, hIS⟩ : ∃ IS : ByteArray, IS = ⟨E.L.toArray⟩ := ⟨_, rfl⟩
  have sW : WS.size = N := by rw [hWS, text_list]; exact hW
  have sI : IS.size = N := by rw [hIS, text_list]; exact hI
  have HWS := Lib.hid hWS
  have HIS := Lib.hid hIS
  have K1 := Lib.hid k1
  have K2 := Lib.hid k2
  have RD := Lib.hid hrd
  have PN := Lib.hid hpn
  have HSW := Lib.hid hW
  have HSI := Lib.hid hI
  clear hA hA2 h3 h4 dok dbr dP dm dn dpd dm' dn' dbr' dP' k1 k2 dok2 hrd hpn hK hNN hWS hIS hW hI hll hll2
  have HFR := Lib.hid hfr
  clear hfr
  go_enter Try.func3, Try.ntmps3
  go_wp2_with fail
  refine C.out.mono ?_; rintro e w1 ⟨d, rfl, m1, b1⟩
  have M0 := Lib.hid m1
  have B0 := Lib.hid b1
  clear m1 b1
  go_upto_region 7 with fail
  go_cut [48] (fun v wx => FromIs v fl fr ∧ Hid (Mine w.heap.size wx d D) ∧ Hid (Below w.heap.size w wx))
  case first =>
    rcases HFR.out with ⟨f1, f2, f3⟩ | ⟨f1, f2⟩
    · subst f3
      go_wp2_with fail
      go_meet
      case rel => exact ⟨Or.inl ⟨rfl, rfl⟩, M0, B0⟩
    · subst f1
      rcases f2 with f2 | f2
      · go_wp2_with fail
        go_meet
        case rel => exact ⟨Or.inr ⟨rfl, rfl⟩, M0, B0⟩
      · have f3 : 0 ≤ fl := by omega
        have f4 : decide (fl < (l : Int)) = false := by rw [decide_eq_false_iff_not]; omega
        go_wp2_with fail
        go_meet
        case rel => exact ⟨Or.inr ⟨by first | rfl | rw [f4], rfl⟩, M0, B0⟩
  case rest =>
  obtain ⟨hv, M3, B3⟩ := hcut
  replace hv := Lib.hid hv
  clear M0 B0
  go_upto_if 48 with (fail)
  go_cut [14] (fun v wx => v = .int .i64 (fr : Nat) ∧ Hid (Mine w.heap.size wx d D) ∧ Hid (Below w.heap.size w wx))
  case first =>
    rcases hv.out with ⟨rfl, f1⟩ | ⟨rfl, f1⟩
    · subst f1
      go_wp2_with fail
      go_meet
      case rel => exact ⟨rfl, M3, B3⟩
    · subst f1
      go_wp2_with fail
      go_meet
      case rel => exact ⟨rfl, M3, B3⟩
  case rest =>
  obtain ⟨rfl, M1, B1⟩ := hcut
  clear M3 B3
  go_wp2_with fail
  have IM := image_any M1.out
  rw [← HWS.out] at IM
  refine IM.mono ?_; rintro e w2 ⟨rfl, rfl⟩
  clear IM
  go_wp2_with fail
  refine (CC.out _ _ B1.out.size M1.out (HA2.out.up B1.out)).mono ?_; rintro e w2 ⟨rfl, m2, b2⟩
  have M2 := Lib.hid m2
  have B2 := Lib.hid (B1.out.trans b2)
  clear m2 b2
  go_wp2_with fail
  have IM := image_any M2.out
  rw [← HIS.out] at IM
  refine IM.mono ?_; rintro e w3 ⟨rfl, rfl⟩
  clear IM
  go_wp2_with fail
  have PM := pending_any M2.out
  rw [PN.out] at PM
  refine PM.mono ?_; rintro e w3 ⟨rfl, rfl⟩
  clear PM
  clear M1 B1
  go_wp2_with fail
  replace hwN2 := Lib.hid hwN2
  go_loopw [18, 19] (fun od at' wr => ∃ k : Nat, k ≤ m ∧ at' = .int .i64 (k : Nat) ∧ od = .int .i64 (cnt (gd n ats fr D.L E.L) k : Nat) ∧ Hid (Mine w.heap.size wr d E) ∧ Hid (Below w.heap.size w wr)) (fun _ at' _ => m - (intOf at').toNat)
  case atStart => exact ⟨0, by omega, rfl, rfl, M2, B2⟩
  case round =>
    obtain ⟨k, hk, rfl, rfl, HM, HB⟩ := hrel
    by_cases hlt : k < m
    · have klt : (k : Int) < (m : Int) := by omega
      have hro := room (n := n) hlt
      rw [← HNN.out] at hro
      have hle := HN.out
      have HS := Lib.hid (show cnt (gd n ats fr D.L E.L) (k + 1) = cnt (gd n ats fr D.L E.L) k + if gd n ats fr D.L E.L k then 0 else 1 from rfl)
      have HGD := Lib.hid (show gd n ats fr D.L E.L k = gI (S n E.L k == S n D.L k) (tst n ats fr E.L k) l by rw [HL.out]; rfl)
      have HT := Lib.hid (fun i => show tst n ats fr E.L k i = (decide (fr ≤ i) && decide (ats.getD i 0 = (k : Int)) && (S n E.L k == List.replicate n (wb i))) from rfl)
      have HGI := Lib.hid (fun g i => show gI g (tst n ats fr E.L k) (i + 1) = (gI g (tst n ats fr E.L k) i || tst n ats fr E.L k i) from rfl)
      have hcl := cnt_le (gd n ats fr D.L E.L) k
      have RC := Lib.hid (fun w' (hs : w.heap.size ≤ w'.heap.size) (h : Mine w.heap.size w' d E) => by
        have := read_mine hs h (k : Nat)
        rw [RD.out k hlt] at this
        exact this)
      obtain ⟨q, hq⟩ : ∃ q, q = k * n := ⟨_, rfl⟩
      obtain ⟨r, hr⟩ : ∃ r, r = q + n := ⟨_, rfl⟩
      have e1 : (k : Int) * (n : Int) = (q : Int) := by rw [hq]; simp
      have e2 : ((k : Int) + 1) * (n : Int) = (r : Int) := by rw [Int.add_mul, e1, hr]; simp
      have qr : (q : Int) ≤ (r : Int) := by omega
      have rN : (r : Int) ≤ (N : Int) := by omega
      have x1 : IS.extract q r = ⟨(S n E.L k).toArray⟩ := by rw [HIS.out, extract_mid, show r - q = n by omega, hq]; rfl
      have x2 : WS.extract q r = ⟨(S n D.L k).toArray⟩ := by rw [HWS.out, extract_mid, show r - q = n by omega, hq]; rfl
      have W1b := Lib.hid (show wrap64 ((k : Int) * (n : Int)) = (q : Int) by rw [e1]; exact IntWalk.wrap64_in _ ⟨by omega, by omega⟩)
      have W2b := Lib.hid (show wrap64 (((k : Int) + 1) * (n : Int)) = (r : Int) by rw [e2]; exact IntWalk.wrap64_in _ ⟨by omega, by omega⟩)
      clear hq hr e1 e2 hro hle
      generalize S n E.L k = SI at *
      generalize S n D.L k = SW at *
      generalize gd n ats fr D.L E.L = G at *
      generalize tst n ats fr E.L k = T at *
      obtain ⟨g0, hg0⟩ : ∃ g, (SI == SW) = g := ⟨_, rfl⟩
      rw [hg0] at HGD
      have w1b := W1b.out
      have w2b := W2b.out
      go_wp2_with fail
      refine (RC.out _ HB.out.size HM.out).mono ?_; rintro e w4 ⟨rfl, m4, b4⟩
      have M4 := Lib.hid m4
      have B4 := Lib.hid (HB.out.trans b4)
      clear m4 b4
      go_wp2_with fail
      clear w1b w2b x1 x2 hg0 W1b W2b RC
      go_loopw [23, 24] (fun gb at2 w5 => ∃ i : Nat, i ≤ l ∧ at2 = .int .i64 (i : Nat) ∧ gb = .bool (gI g0 T i) ∧ Hid (Mine w.heap.size w5 d E) ∧ Hid (Below w.heap.size w w5)) (fun _ at2 _ => l - (intOf at2).toNat)
      case atStart => exact ⟨0, by omega, rfl, rfl, M4, B4⟩
      case round =>
        obtain ⟨i, hi, rfl, rfl, HM5, HB5⟩ := hrel
        by_cases hil : i < l
        · have ilt : (i : Int) < (l : Int) := by omega
          have hia : i < ats.length := by rw [← HL.out]; exact hil
          obtain ⟨g, o, hA, hc⟩ := HA.out.out (by omega)
          subst hA
          have ca0 := hc i ats[i] (List.getElem?_eq_getElem hia)
          have glt := World.block_lt_of_cell? w _ ca0
          have ca := ((HB5.out.cell (p := ⟨g, o + i, none⟩) glt).trans ca0)
          have hgt : ats.getD i 0 = ats[i] := by rw [List.getD_eq_getElem?_getD, List.getElem?_eq_getElem hia]; rfl
          have HTI := HT.out i
          rw [hgt] at HTI
          have HGS := HGI.out g0 i
          replace HTI := Lib.hid HTI
          replace HGS := Lib.hid HGS
          clear hgt ca0 hc
          generalize ats[i] = a at *
          generalize gI g0 T i = b at *
          cases b with
          | true =>
            go_wp2_with fail
            go_roundw
            case rel => exact ⟨i + 1, by omega, by go_num, by rw [HGS.out]; rfl, HM5, HB5⟩
            case measure => simp [intOf]; omega
          | false =>
            by_cases hfi : fr ≤ i
            · have hfi' : (fr : Int) ≤ (i : Int) := by omega
              by_cases hak : a = (k : Int)
              · subst hak
                have hw1 : IntKind.u8.wrap (i : Int) = (i : Int) := by rw [IntKind.wrap_u8']; omega
                have hw2 : IntKind.u8.wrap (1 + (i : Int)) = 1 + (i : Int) := by rw [IntKind.wrap_u8']; omega
                obtain ⟨X, hX⟩ : ∃ X, X = List.replicate n (wb i) := ⟨_, rfl⟩
                have FC : Hid (∀ w, Calls Try.prog 12 #[.int .u8 (1 + (i : Int)), .int .i64 (n : Nat)] w fun e w' => e = .returned (.string ⟨X.toArray⟩) ∧ Below w.heap.size w w') := by
                  rw [hX]; exact fun w => full_at i n (by omega) (by have := HN.out; omega) w
                rw [← hX] at HTI
                clear hX
                obtain ⟨e, he⟩ : ∃ e, (SI == X) = e := ⟨_, rfl⟩
                rw [he] at HTI
                have HTE : Hid (T i = e) := by
                  show T i = e
                  rw [HTI.out]; simp [hfi]
                go_wp2_with fail
                refine (FC.out _).mono ?_; rintro e' w6 ⟨rfl, b6⟩
                have M6 := Lib.hid (HM5.out.up b6)
                have B6 := Lib.hid (up_trans HB5.out b6)
                clear b6
                go_wp2_with fail
                go_roundw
                case rel => exact ⟨i + 1, by omega, by go_num, by rw [HGS.out, HTE.out]; rfl, M6, B6⟩
                case measure => simp [intOf]; omega
              · have hak' : (a == (k : Int)) = false := by simpa using hak
                have HTE : Hid (T i = false) := by
                  show T i = false
                  rw [HTI.out]; simp [hak]
                go_wp2_with fail
                go_roundw
                case rel => exact ⟨i + 1, by omega, by go_num, by rw [HGS.out, HTE.out]; rfl, HM5, HB5⟩
                case measure => simp [intOf]; omega
            · have hfi' : (i : Int) < (fr : Int) := by omega
              have HTE : Hid (T i = false) := by
                show T i = false
                rw [HTI.out]; simp [hfi]
              go_wp2_with fail
              go_roundw
              case rel => exact ⟨i + 1, by omega, by go_num, by rw [HGS.out, HTE.out]; rfl, HM5, HB5⟩
              case measure => simp [intOf]; omega
        · obtain rfl : i = l := by omega
          rw [← HGD.out]
          have HSS := HS.out
          replace HSS := Lib.hid HSS
          generalize G k = b at *
          cases b with
          | true =>
            go_wp2_with fail
            go_roundw
            case rel => exact ⟨k + 1, by omega, by go_num, by rw [HSS.out]; rfl, HM5, HB5⟩
            case measure => simp [intOf]; omega
          | false =>
            go_wp2_with fail
            go_roundw
            case rel => exact ⟨k + 1, by omega, by go_num, by rw [HSS.out]; first | rfl | go_num, HM5, HB5⟩
            case measure => simp [intOf]; omega
    · obtain rfl : k = m := by omega
      have k1 := K1.out
      have k2 := K2.out
      clear HNN HSW HSI HWS HIS RD hwN2
      generalize cnt (gd n ats fr D.L E.L) k = o at *
      have ho : o = 0 ∨ o = 1 ∧ 0 ≤ t ∧ t < (n : Int) := by omega
      clear k1 k2 K1 K2
      rcases ho with rfl | ⟨rfl, t1, t2⟩
      all_goals
        go_wp2_with fail
        refine (stored_any _).mono ?_; rintro e w7 ⟨rfl, b7⟩
        have B7 := Lib.hid (up_trans HB.out b7)
        clear b7
        go_wp2_with fail
        go_ret
        exact ⟨rfl, B7.out⟩

theorem SectorLasts_core (m n fl : Int) (A : Option Addr) (ats : List Int) (c : Nat) (_hla : ats.length ≤ 9223372036854775807) (A2 : Option Addr) (K : List Bool) (c2 : Nat) (hK : K.length ≤ 9223372036854775807) (t : Int) (w : World) (hA : InSl w A ats) (hA2 : BoSl w A2 K) :
    Calls Try.prog 3 #[.int .i64 m, .int .i64 n, .int .i64 fl, .slice A ats.length c, .slice A2 K.length c2, .int .i64 t] w fun e w' => e = .returned (.bool true) ∧ Below w.heap.size w w' := by
  by_cases hb : m < 1 ∨ 64 < m ∨ n < 64 ∨ 1024 < n ∨ 60 < ats.length
  · exact lasts_bad m n fl A A2 ats.length c K.length c2 t hb w
  · obtain ⟨m, rfl⟩ : ∃ k : Nat, m = k := ⟨m.toNat, by omega⟩
    obtain ⟨n, rfl⟩ : ∃ k : Nat, n = k := ⟨n.toNat, by omega⟩
    exact lasts_ok m n (by omega) (by omega) (by omega) (by omega) fl A A2 ats K c c2 t (by omega) hK w hA hA2

end Go.Proofs.Ytbkieheebilopaa
