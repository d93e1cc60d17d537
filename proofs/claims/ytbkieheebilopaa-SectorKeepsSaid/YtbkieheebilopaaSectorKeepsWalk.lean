/- The walk of the law SectorKeeps: to keep all pending writes, untorn, is to flush them; to keep none is to leave what lasts. -/
import Derived.Test.YtbkieheebilopaaWrittenB
namespace Go.Proofs.Ytbkieheebilopaa.Sec

theorem keeps_all {D : Dk} (_ok : D.Ok) (hb : D.br = false) {n : Nat} (hn : D.P.length ≤ n) : D.flush.2 = 0 ∧ (D.crash (List.replicate n true) (-1)).L = D.flush.1.L ∧ (D.crash [] 5).L = D.L ∧ D.flush.1.P.length = 0 := by
  have hd : D.down = false := by simp [Dk.down, hb]
  have hf : D.flush = (D.counted.settled D.P D.size, 0) := by unfold Dk.flush; rw [hd]; simp
  have hc : D.counted = D := by simp [Dk.counted, hb]
  rw [hf, hc]
  refine ⟨rfl, ?_, ?_, rfl⟩
  · show torn D.size D.L (kp D.P (List.replicate n true)) (D.tear (-1)) = torn D.size D.L D.P D.size
    rw [kp_all D.P n hn]
    rfl
  · show torn D.size D.L (kp D.P []) (D.tear 5) = D.L
    rw [kp_nil]
    rfl

end Go.Proofs.Ytbkieheebilopaa.Sec
namespace Go.Proofs.Ytbkieheebilopaa
open Go.RowKit Sec

theorem crash_at {F : Nat → Prop} {w : World} {d : Nat} {D : Dk} (h : Dsk F w d D) (hP : D.P.length ≤ 100000) (K : List Bool) (A2 : Option Addr) (n2 c2 : Nat) (hn : n2 = K.length) (hK : n2 ≤ 9223372036854775807) (hB : BoSl w A2 K) (t : Int) :
    Calls Try.prog 9 #[dp d, .slice A2 n2 c2, .int .i64 t] w fun e w' => e = .returned (.int .i64 0) ∧ Dsk F w' d (D.crash K t) ∧ Save F w w' := by
  subst hn
  exact crash_any h hP K A2 c2 hK hB t

set_option maxHeartbeats 4000000 in
set_option maxRecDepth 100000 in
theorem SectorKeeps_core (m n fl : Int) (A : Option Addr) (ats : List Int) (c : Nat) (hla : ats.length ≤ 9223372036854775807) (w : World) (hA : InSl w A ats) :
    Calls Try.prog 4 #[.int .i64 m, .int .i64 n, .int .i64 fl, .slice A ats.length c] w fun e w' => e = .returned (.bool true) ∧ Below w.heap.size w w' := by
  by_cases hbad : m < 1 ∨ 64 < m ∨ n < 64 ∨ 1024 < n ∨ 60 < ats.length
  · have C := Lib.hid (written_bad m n fl A ats.length c hbad)
    clear hbad hA hla
    go_enter Try.func4, Try.ntmps4
    go_wp2_with fail
    refine (C.out _).mono ?_; rintro e w1 ⟨rfl, b1⟩
    have B1 := Lib.hid b1
    clear b1
    go_wp2_with fail
    refine (C.out _).mono ?_; rintro e w2 ⟨rfl, b2⟩
    have B2 := Lib.hid (up_trans B1.out b2)
    clear b2
    go_wp2_with fail
    refine (C.out _).mono ?_; rintro e w3 ⟨rfl, b3⟩
    have B3 := Lib.hid (up_trans B2.out b3)
    clear b3
    go_wp2_with fail
    refine (stored_any _).mono ?_; rintro e w4 ⟨rfl, b4⟩
    have B4 := Lib.hid (up_trans B3.out b4)
    clear b4
    go_wp2_with fail
    go_ret
    exact ⟨rfl, B4.out⟩
  · obtain ⟨m, rfl⟩ : ∃ k : Nat, m = k := ⟨m.toNat, by omega⟩
    obtain ⟨n, rfl⟩ : ∃ k : Nat, n = k := ⟨n.toNat, by omega⟩
    have C := Lib.hid (fun w hA => written_ok m n (by omega) (by omega) (by omega) (by omega) fl A ats c (by omega) w hA)
    have HA := Lib.hid hA
    have hl : ats.length ≤ 60 := by omega
    have dok := wst_ok fl (Dk.new_ok (m := m) (n := n) (by omega) (by omega) (by omega) (by omega)) ats ats.length
    have dbr := wst_br fl (Dk.new m n) ats ats.length
    have dP := wst_P fl (Dk.new m n) ats ats.length
    unfold Writ at C
    clear hbad hA hla
    generalize wst fl (Dk.new m n) ats ats.length = D at *
    have dP' : D.P.length ≤ ats.length := by simpa [Dk.new] using dP
    obtain ⟨k1, k2, k3, k4⟩ := keeps_all dok dbr dP'
    have hP : D.P.length ≤ 100000 := by omega
    obtain ⟨l, hll⟩ : ∃ l, l = ats.length := ⟨_, rfl⟩
    rw [← hll] at hl k2 C ⊢
    have HP := Lib.hid hP
    have K1 := Lib.hid k1
    have K2 := Lib.hid k2
    have K3 := Lib.hid k3
    have K4 := Lib.hid k4
    clear dP dP' hP k1 k2 k3 k4 dok dbr hll
    go_enter Try.func4, Try.ntmps4
    go_wp2_with fail
    refine (C.out _ HA.out).mono ?_; rintro e w1 ⟨da, rfl, ma, b1⟩
    have MA := Lib.hid ma.narrow
    have B1 := Lib.hid b1
    clear ma b1
    go_wp2_with fail
    refine (C.out _ (HA.out.up B1.out)).mono ?_; rintro e w2 ⟨db, rfl, mb, b2⟩
    have MB := Lib.hid mb.narrow
    replace MA := Lib.hid (MA.out.up b2)
    have B2 := Lib.hid (up_trans B1.out b2)
    have B12 := Lib.hid b2
    clear mb b2
    go_wp2_with fail
    refine (C.out _ (HA.out.up B2.out)).mono ?_; rintro e w3 ⟨dc, rfl, mc, b3⟩
    have MC := Lib.hid mc.narrow
    replace MA := Lib.hid (MA.out.up b3)
    replace MB := Lib.hid (MB.out.up b3)
    have B3 := Lib.hid (up_trans B2.out b3)
    have B23 := Lib.hid b3
    clear mc b3
    go_wp2_with fail
    go_loopw [12, 13] (fun v i wr => ∃ k : Nat, k ≤ l ∧ i = .int .i64 (k : Nat) ∧ Hid (OwnBo w3.heap.size v (List.replicate k true) wr) ∧ Hid (Below w3.heap.size w3 wr)) (fun _ i _ => l - (intOf i).toNat)
    case atStart => exact ⟨0, by omega, rfl, Lib.hid (OwnBo.nil _ _), Lib.hid (Below.refl _ _)⟩
    case round =>
      obtain ⟨k, hk, rfl, HO, HB⟩ := hrel
      by_cases hlt : k < l
      · have klt : (k : Int) < (l : Int) := by omega
        have hz := HB.out.size
        have e := Lib.hid (show List.replicate k true ++ [true] = List.replicate (k + 1) true by rw [List.replicate_succ'])
        go_wp2_with (refine wpList_pushBo rfl (.tmp 48) (.tmp 49) rfl w3.heap.size _ (List.replicate k true) rfl (HO.out.up ((Below.refl _ _).alloc (Nat.le_refl _) _)) wr.heap.size true rfl (Has.make wr _ [_]) (by simp; omega) (by simp; omega) ?_; intro v' w' ho hb; replace ho := Lib.hid ho; replace hb := Lib.hid hb)
        go_roundw
        case rel => exact ⟨k + 1, by omega, by go_num, Lib.hid (by rw [← e.out]; exact ho.out), Lib.hid ((HB.out.alloc hz _).trans hb.out)⟩
        case measure => simp [intOf]; omega
      · obtain rfl : k = l := by omega
        obtain ⟨AK, ck, rfl, hbo, hgo⟩ := HO.out.open
        have hrl : (List.replicate k true).length = k := by simp
        rw [hrl]
        have HBO := Lib.hid hbo
        have HGO := Lib.hid hgo
        have MA' := Lib.hid (MA.out.up HB.out)
        have MB' := Lib.hid (MB.out.up HB.out)
        have MC' := Lib.hid (MC.out.up HB.out)
        have n01 := B1.out.size
        have n12 := B12.out.size
        have n23 := B23.out.size
        have n3r := HB.out.size
        have BR := Lib.hid (up_trans B3.out HB.out)
        clear hbo hgo hrl
        clear MA MB MC
        go_wp2_with fail
        refine (image_any MC'.out).mono ?_; rintro e w4 ⟨rfl, rfl⟩
        go_wp2_with fail
        refine (flush_any MA'.out HP.out).mono ?_; rintro e w4 ⟨rfl, ma, sa⟩
        rw [K1.out]
        have MA := Lib.hid ma
        have MB := Lib.hid (MB'.out.save sa (fun k h1 _ h2 => by omega))
        have MC := Lib.hid (MC'.out.save sa (fun k h1 _ h2 => by omega))
        have BO := Lib.hid (HBO.out.save sa (fun g o e h2 => by have := HGO.out g o e; omega))
        have B4 := Lib.hid (BR.out.trans (sa.below (B := w.heap.size) (fun k h => h.1) (by omega)))
        have n4 := sa.size
        clear ma sa MA' MB' MC'
        go_wp2_with fail
        refine (crash_at MB.out HP.out (List.replicate k true) AK k ck (by simp) (by omega) BO.out (-1)).mono ?_; rintro e w5 ⟨rfl, mb, sb⟩
        have MB5 := Lib.hid mb
        have MA5 := Lib.hid (MA.out.save sb (fun k h1 _ h2 => by omega))
        have MC5 := Lib.hid (MC.out.save sb (fun k h1 _ h2 => by omega))
        have B5 := Lib.hid (B4.out.trans (sb.below (B := w.heap.size) (fun k h => by omega) (by omega)))
        have n5 := sb.size
        clear mb sb MA MB MC BO
        go_wp2_with fail
        refine (crash_at MC5.out HP.out [] none 0 0 rfl (by omega) (BoSl.nil _) 5).mono ?_; rintro e w6 ⟨rfl, mc, sc⟩
        have MC6 := Lib.hid mc
        have MA6 := Lib.hid (MA5.out.save sc (fun k h1 _ h2 => by omega))
        have MB6 := Lib.hid (MB5.out.save sc (fun k h1 _ h2 => by omega))
        have B6 := Lib.hid (B5.out.trans (sc.below (B := w.heap.size) (fun k h => by omega) (by omega)))
        clear mc sc MA5 MB5 MC5
        go_wp2_with fail
        refine (stored_any _).mono ?_; rintro e w7 ⟨rfl, b7⟩
        have IA := Lib.hid (image_any (MA6.out.up b7))
        have IB := Lib.hid (image_any (MB6.out.up b7))
        have IC := Lib.hid (image_any (MC6.out.up b7))
        have PA := Lib.hid (pending_any (MA6.out.up b7))
        rw [K2.out] at IB
        rw [K3.out] at IC
        rw [K4.out] at PA
        have B7 := Lib.hid (up_trans B6.out b7)
        clear b7
        generalize D.flush.1.L = X at *
        generalize D.L = Y at *
        go_wp2_with fail
        refine IA.out.mono ?_; rintro e w8 ⟨rfl, rfl⟩
        go_wp2_with fail
        refine IB.out.mono ?_; rintro e w8 ⟨rfl, rfl⟩
        go_wp2_with fail
        refine IC.out.mono ?_; rintro e w8 ⟨rfl, rfl⟩
        go_wp2_with fail
        refine PA.out.mono ?_; rintro e w8 ⟨rfl, rfl⟩
        go_wp2_with fail
        go_ret
        exact ⟨rfl, B7.out⟩

end Go.Proofs.Ytbkieheebilopaa
