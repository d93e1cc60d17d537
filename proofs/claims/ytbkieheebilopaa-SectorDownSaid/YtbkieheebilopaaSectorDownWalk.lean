/- The walk of the law SectorDown: a disk that is broken does so many calls more, and then none, till it crashes. -/
import Derived.Test.YtbkieheebilopaaWrittenB
namespace Go.Proofs.Ytbkieheebilopaa.Sec

theorem down_yes {D : Dk} (hb : D.br = true) (hl : D.left = 0) : D.down = true := by simp [Dk.down, hb, hl]
theorem down_no {D : Dk} (hl : D.left ≠ 0) : D.down = false := by simp [Dk.down, hl]

theorem write_down {D : Dk} (h : D.down = true) (a : Int) (b : List UInt8) : D.write a b = (D, 9) := by
  have hu : D.unfit a = 9 := by simp [Dk.unfit, h]
  simp [Dk.write, hu]
theorem write_out {D : Dk} (h : D.down = false) {a : Int} (ha : a < 0 ∨ (D.many : Int) ≤ a) (b : List UInt8) : D.write a b = (D, 6) := by
  have hu : D.unfit a = 6 := by unfold Dk.unfit; rw [h, if_neg (by simp), if_pos ha]
  simp [Dk.write, hu]
theorem write_in {D : Dk} (h : D.down = false) {a : Int} (ha : ¬ (a < 0 ∨ (D.many : Int) ≤ a)) {b : List UInt8} (hb : b.length = D.size) : D.write a b = ({ D.counted with P := D.P ++ [(a.toNat, b)] }, 0) := by
  have hu : D.unfit a = 0 := by unfold Dk.unfit; rw [h, if_neg (by simp), if_neg ha]
  simp [Dk.write, hu, hb]
theorem flush_down {D : Dk} (h : D.down = true) : D.flush = (D, 9) := by simp [Dk.flush, h]
theorem flush_up {D : Dk} (h : D.down = false) : D.flush.2 = 0 := by simp [Dk.flush, h]
theorem read_down {D : Dk} (h : D.down = true) (a : Int) : D.read a = (D, [], 9) := by
  have hu : D.unfit a = 9 := by simp [Dk.unfit, h]
  simp [Dk.read, hu]

end Go.Proofs.Ytbkieheebilopaa.Sec
namespace Go.Proofs.Ytbkieheebilopaa
open Go.RowKit Sec

/-- Where the law's loop stands. -/
structure Dwn (B d m n L k g : Nat) (D : Dk) (w : World) : Prop where
  mine : Mine B w d D
  br : D.br = true
  left : D.left + g = L
  P : D.P.length ≤ k
  size : D.size = n
  many : D.many = m

set_option maxHeartbeats 1000000 in
theorem down_bad (m n left : Int) (A : Option Addr) (l c : Nat) (hb : m < 1 ∨ 64 < m ∨ n < 64 ∨ 1024 < n ∨ 60 < l ∨ left < 0) (w : World) :
    Calls Try.prog 5 #[.int .i64 m, .int .i64 n, .int .i64 left, .slice A l c] w fun e w' => e = .returned (.bool true) ∧ Below w.heap.size w w' := by
  by_cases h : m < 1 ∨ 4096 < m ∨ n < 64 ∨ 1024 < n
  · have C := Lib.hid (new_bad m n h)
    clear h hb
    go_enter Try.func5, Try.ntmps5
    go_wp2_with fail
    refine (C.out _).mono ?_; rintro e w1 ⟨rfl, rfl⟩
    go_wp2_with fail
    refine (stored_any _).mono ?_; rintro e w2 ⟨rfl, b2⟩
    have B2 := Lib.hid b2
    clear b2
    go_wp2_with fail
    go_ret
    exact ⟨rfl, B2.out⟩
  · obtain ⟨m, rfl⟩ : ∃ k : Nat, m = k := ⟨m.toNat, by omega⟩
    obtain ⟨n, rfl⟩ : ∃ k : Nat, n = k := ⟨n.toNat, by omega⟩
    have C := Lib.hid (new_ok m n (by omega) (by omega) (by omega) (by omega))
    by_cases h64 : (64 : Int) < m
    · clear h hb
      go_enter Try.func5, Try.ntmps5
      go_wp2_with fail
      refine (C.out _).mono ?_; rintro e w1 ⟨d, rfl, _, b1⟩
      have B1 := Lib.hid b1
      clear b1
      go_wp2_with fail
      refine (stored_any _).mono ?_; rintro e w2 ⟨rfl, b2⟩
      have B2 := Lib.hid (up_trans B1.out b2)
      clear b2
      go_wp2_with fail
      go_ret
      exact ⟨rfl, B2.out⟩
    · by_cases h60 : (60 : Int) < (l : Int)
      · have h64' : (m : Int) ≤ 64 := by omega
        clear h hb
        go_enter Try.func5, Try.ntmps5
        go_wp2_with fail
        refine (C.out _).mono ?_; rintro e w1 ⟨d, rfl, _, b1⟩
        have B1 := Lib.hid b1
        clear b1
        go_wp2_with fail
        refine (stored_any _).mono ?_; rintro e w2 ⟨rfl, b2⟩
        have B2 := Lib.hid (up_trans B1.out b2)
        clear b2
        go_wp2_with fail
        go_ret
        exact ⟨rfl, B2.out⟩
      · have h64' : (m : Int) ≤ 64 := by omega
        have h60' : (l : Int) ≤ 60 := by omega
        have hlf : left < 0 := by omega
        clear h hb
        go_enter Try.func5, Try.ntmps5
        go_wp2_with fail
        refine (C.out _).mono ?_; rintro e w1 ⟨d, rfl, _, b1⟩
        have B1 := Lib.hid b1
        clear b1
        go_wp2_with fail
        refine (stored_any _).mono ?_; rintro e w2 ⟨rfl, b2⟩
        have B2 := Lib.hid (up_trans B1.out b2)
        clear b2
        go_wp2_with fail
        go_ret
        exact ⟨rfl, B2.out⟩

theorem full_seven (n : Nat) (hn : n ≤ 1000000) (w : World) : Calls Try.prog 12 #[.int .u8 7, .int .i64 (n : Nat)] w fun e w' => e = .returned (.string ⟨(List.replicate n 7).toArray⟩) ∧ Below w.heap.size w w' := full_any 7 n hn w

set_option maxHeartbeats 4000000 in
set_option maxRecDepth 100000 in
theorem down_ok (m n L : Nat) (h1 : 1 ≤ m) (h2 : m ≤ 64) (h3 : 64 ≤ n) (h4 : n ≤ 1024) (hL : L < 9223372036854775808) (A : Option Addr) (ats : List Int) (c : Nat) (hl : ats.length ≤ 60) (w : World) (hA : InSl w A ats) :
    Calls Try.prog 5 #[.int .i64 (m : Nat), .int .i64 (n : Nat), .int .i64 (L : Nat), .slice A ats.length c] w fun e w' => e = .returned (.bool true) ∧ Below w.heap.size w w' := by
  have HA := Lib.hid hA
  have NW := Lib.hid (new_ok m n h1 (by omega) h3 h4 w)
  have hm : (m : Int) ≤ 64 := by omega
  have hLp : (0 : Int) ≤ (L : Int) := by omega
  have HN := Lib.hid h4
  have HLL := Lib.hid hL
  clear hA h1 h2 h3 h4 hL
  obtain ⟨l, hll⟩ : ∃ l, l = ats.length := ⟨_, rfl⟩
  rw [← hll] at hl ⊢
  have hli : (l : Int) ≤ 60 := by omega
  have HL := Lib.hid hll
  clear hll
  obtain ⟨X, hX⟩ : ∃ X, X = List.replicate n (7 : UInt8) := ⟨_, rfl⟩
  have FC : Hid (∀ w, Calls Try.prog 12 #[.int .u8 7, .int .i64 (n : Nat)] w fun e w' => e = .returned (.string ⟨X.toArray⟩) ∧ Below w.heap.size w w') := by
    rw [hX]; exact fun w => full_seven n (by have := HN.out; omega) w
  have XL : X.length ≤ 16777216 := by rw [hX]; simp; have := HN.out; omega
  have XN := Lib.hid (show X.length = n by rw [hX]; simp)
  have HXL := Lib.hid XL
  clear hX XL
  go_enter Try.func5, Try.ntmps5
  go_wp2_with fail
  refine NW.out.mono ?_; rintro e w1 ⟨d, rfl, M1, b1⟩
  have M := Lib.hid M1
  have Bl := Lib.hid b1
  clear M1 b1
  go_wp2_with fail
  refine (break_mine Bl.out.size M.out (L : Int) (by have := HLL.out; omega)).mono ?_; rintro e w2 ⟨rfl, m2, b2⟩
  have hbk : (Dk.new m n).brk (L : Int) = ({ Dk.new m n with br := true, left := L }, 0) := by unfold Dk.brk; rw [if_neg (by omega)]; rfl
  have D2 : Dwn w.heap.size d m n L 0 0 { Dk.new m n with br := true, left := L } w2 := ⟨by rw [hbk] at m2; exact m2, rfl, rfl, Nat.le_refl _, rfl, rfl⟩
  have B2 := Lib.hid (Bl.out.trans b2)
  have DD := Lib.hid D2
  clear D2 hbk m2 b2 M Bl
  go_wp2_with fail
  go_loopw [11, 12] (fun g i wr => ∃ (k q : Nat) (D : Dk), k ≤ l ∧ i = .int .i64 (k : Nat) ∧ g = .int .i64 (q : Nat) ∧ q ≤ k ∧ Hid (Dwn w.heap.size d m n L k q D wr) ∧ Hid (Below w.heap.size w wr)) (fun _ i _ => l - (intOf i).toNat)
  case atStart => exact ⟨0, 0, _, by omega, rfl, rfl, Nat.le_refl _, DD, B2⟩
  case round =>
    obtain ⟨k, q, D, hk, rfl, rfl, hqk, HD, HB⟩ := hrel
    by_cases hlt : k < l
    · have klt : (k : Int) < (l : Int) := by omega
      have hka : k < ats.length := by rw [← HL.out]; exact hlt
      obtain ⟨g, o, hA, hc⟩ := HA.out.out (by omega)
      subst hA
      have ca0 := hc k ats[k] (List.getElem?_eq_getElem hka)
      have glt := World.block_lt_of_cell? w _ ca0
      have ca := ((HB.out.cell (p := ⟨g, o + k, none⟩) glt).trans ca0 : wr.cell? ⟨g, o + k, none⟩ = some (.int .i64 ats[k]))
      clear ca0 hc
      generalize ats[k] = a at *
      have DP : D.P.length < 100000 := by have := HD.out.P; omega
      have dl := HD.out.left
      have ds := HD.out.size
      have dm := HD.out.many
      obtain ⟨p, hp⟩ : ∃ p, p = D.P.length := ⟨_, rfl⟩
      have PN : Hid (∀ w', Mine w.heap.size w' d D → Calls Try.prog 10 #[dp d] w' fun e w'' => e = .returned (.int .i64 (p : Nat)) ∧ w' = w'') := by
        rw [hp]; exact fun w' h => pending_any h
      by_cases h0 : D.left = 0
      · have hdn := down_yes HD.out.br h0
        have WC := Lib.hid (fun w' (hs : w.heap.size ≤ w'.heap.size) (h : Mine w.heap.size w' d D) => write_mine hs h DP a X HXL.out)
        rw [write_down hdn] at WC
        have ge : (L : Int) ≤ (q : Int) := by omega
        clear DP dl ds dm hp h0 hdn
        go_wp2_with fail
        refine (PN.out _ HD.out.mine).mono ?_; rintro e w3 ⟨rfl, rfl⟩
        go_wp2_with fail
        go_region_law (first
          | (go_simp; (with_reducible refine (FC.out _).mono ?_); rintro e wn ⟨rfl, bn⟩; have cn := ((bn.cell (p := ⟨g, o + k, none⟩) (World.block_lt_of_cell? _ _ ca)).trans ca : wn.cell? ⟨g, o + k, none⟩ = some (.int .i64 a)); have bs : w.heap.size ≤ wn.heap.size := Nat.le_trans HB.out.size bn.size; have mn := Lib.hid ((HD.out.mine.up (Below.refl _ _).drew).up bn); replace bn := Lib.hid bn; dsimp only)
          | (go_simp; (with_reducible refine (WC.out _ bs mn.out).mono ?_); rintro e wm ⟨rfl, mm, bm⟩; replace mm := Lib.hid mm; replace bm := Lib.hid bm; dsimp only))
        all_goals
          go_wp2_with fail
          refine (PN.out _ mm.out).mono ?_; rintro e w4 ⟨rfl, rfl⟩
          go_wp2_with fail
          go_roundw
          case rel => exact ⟨k + 1, q, D, by omega, by go_num, rfl, by omega, Lib.hid ⟨mm.out, HD.out.br, HD.out.left, by have := HD.out.P; omega, HD.out.size, HD.out.many⟩, Lib.hid ((((up_trans HB.out (Below.refl _ _).drew).trans (bn.out.mono HB.out.size))).trans bm.out)⟩
          case measure => simp [intOf]; omega
      · have hdn := down_no h0
        have lt : (q : Int) < (L : Int) := by omega
        by_cases hin : a < 0 ∨ (D.many : Int) ≤ a
        · have WC := Lib.hid (fun w' (hs : w.heap.size ≤ w'.heap.size) (h : Mine w.heap.size w' d D) => write_mine hs h DP a X HXL.out)
          rw [write_out hdn hin] at WC
          clear DP dl ds dm hp h0 hdn hin
          go_wp2_with fail
          refine (PN.out _ HD.out.mine).mono ?_; rintro e w3 ⟨rfl, rfl⟩
          go_wp2_with fail
          go_region_law (first
            | (go_simp; (with_reducible refine (FC.out _).mono ?_); rintro e wn ⟨rfl, bn⟩; have cn := ((bn.cell (p := ⟨g, o + k, none⟩) (World.block_lt_of_cell? _ _ ca)).trans ca : wn.cell? ⟨g, o + k, none⟩ = some (.int .i64 a)); have bs : w.heap.size ≤ wn.heap.size := Nat.le_trans HB.out.size bn.size; have mn := Lib.hid ((HD.out.mine.up (Below.refl _ _).drew).up bn); replace bn := Lib.hid bn; dsimp only)
            | (go_simp; (with_reducible refine (WC.out _ bs mn.out).mono ?_); rintro e wm ⟨rfl, mm, bm⟩; replace mm := Lib.hid mm; replace bm := Lib.hid bm; dsimp only))
          all_goals
            go_wp2_with fail
            refine (PN.out _ mm.out).mono ?_; rintro e w4 ⟨rfl, rfl⟩
            go_wp2_with fail
            go_roundw
            case rel => exact ⟨k + 1, q, D, by omega, by go_num, rfl, by omega, Lib.hid ⟨mm.out, HD.out.br, HD.out.left, by have := HD.out.P; omega, HD.out.size, HD.out.many⟩, Lib.hid ((((up_trans HB.out (Below.refl _ _).drew).trans (bn.out.mono HB.out.size))).trans bm.out)⟩
            case measure => simp [intOf]; omega
        · have WC := Lib.hid (fun w' (hs : w.heap.size ≤ w'.heap.size) (h : Mine w.heap.size w' d D) => write_mine hs h DP a X HXL.out)
          rw [write_in hdn hin (XN.out.trans ds.symm)] at WC
          have D1 : ∀ w', Mine w.heap.size w' d { D.counted with P := D.P ++ [(a.toNat, X)] } → Dwn w.heap.size d m n L (k + 1) (q + 1) { D.counted with P := D.P ++ [(a.toNat, X)] } w' := by
            intro w' h
            refine ⟨h, ?_, ?_, ?_, ?_, ?_⟩
            · show D.counted.br = true
              rw [D.counted_br]; exact HD.out.br
            · show D.counted.left + (q + 1) = L
              unfold Dk.counted
              rw [HD.out.br, if_pos rfl]
              show D.left - 1 + (q + 1) = L
              omega
            · show (D.P ++ [(a.toNat, X)]).length ≤ k + 1
              have := HD.out.P
              simp; omega
            · show D.counted.size = n
              rw [D.counted_size]; exact ds
            · show D.counted.many = m
              rw [D.counted_many]; exact dm
          have D1' := Lib.hid D1
          clear DP dl ds dm hp h0 hdn hin D1
          generalize ({ D.counted with P := D.P ++ [(a.toNat, X)] } : Dk) = D' at *
          by_cases h2 : (L : Int) ≤ (q : Int) + 1
          all_goals
            go_wp2_with fail
            refine (PN.out _ HD.out.mine).mono ?_; rintro e w3 ⟨rfl, rfl⟩
            go_wp2_with fail
            go_region_law (first
              | (go_simp; (with_reducible refine (FC.out _).mono ?_); rintro e wn ⟨rfl, bn⟩; have cn := ((bn.cell (p := ⟨g, o + k, none⟩) (World.block_lt_of_cell? _ _ ca)).trans ca : wn.cell? ⟨g, o + k, none⟩ = some (.int .i64 a)); have bs : w.heap.size ≤ wn.heap.size := Nat.le_trans HB.out.size bn.size; have mn := Lib.hid ((HD.out.mine.up (Below.refl _ _).drew).up bn); replace bn := Lib.hid bn; dsimp only)
              | (go_simp; (with_reducible refine (WC.out _ bs mn.out).mono ?_); rintro e wm ⟨rfl, mm, bm⟩; replace mm := Lib.hid mm; replace bm := Lib.hid bm; dsimp only))
            all_goals
              go_wp2_with fail
              go_roundw
              case rel => exact ⟨k + 1, q + 1, D', by omega, by go_num, by go_num, by omega, Lib.hid (D1'.out _ mm.out), Lib.hid ((((up_trans HB.out (Below.refl _ _).drew).trans (bn.out.mono HB.out.size))).trans bm.out)⟩
              case measure => simp [intOf]; omega
    · obtain rfl : k = l := by omega
      have DP : D.P.length ≤ 100000 := by have := HD.out.P; omega
      have dl := HD.out.left
      by_cases h0 : D.left = 0
      · have hdn := down_yes HD.out.br h0
        have hq : (q : Int) = (L : Int) := by omega
        have ge : ¬ ((q : Int) < (L : Int)) := by omega
        have RC := Lib.hid (fun w' (hs : w.heap.size ≤ w'.heap.size) (h : Mine w.heap.size w' d D) => read_mine hs h 0)
        rw [read_down hdn] at RC
        have FLC := Lib.hid (fun w' (hs : w.heap.size ≤ w'.heap.size) (h : Mine w.heap.size w' d D) => flush_mine hs h DP)
        rw [flush_down hdn] at FLC
        have CC := Lib.hid (fun w' (hs : w.heap.size ≤ w'.heap.size) (h : Mine w.heap.size w' d D) => crash_mine hs h DP [] none 0 0 rfl (by simp) (BoSl.nil w') (-1))
        have FL2 := Lib.hid (fun w' (hs : w.heap.size ≤ w'.heap.size) (h : Mine w.heap.size w' d (D.crash [] (-1))) => flush_mine hs h (Nat.zero_le _))
        rw [flush_up (D := D.crash [] (-1)) rfl] at FL2
        obtain rfl : q = L := by omega
        clear DP dl h0 hdn ge hq
        go_wp2_with fail
        refine (RC.out _ HB.out.size HD.out.mine).mono ?_; rintro e w3 ⟨rfl, m3, b3⟩
        have M3 := Lib.hid m3
        have B3 := Lib.hid (HB.out.trans b3)
        clear m3 b3
        go_wp2_with fail
        refine (FLC.out _ B3.out.size M3.out).mono ?_; rintro e w4 ⟨rfl, m4, b4⟩
        have M4 := Lib.hid m4
        have B4 := Lib.hid (B3.out.trans b4)
        clear m4 b4
        go_wp2_with fail
        refine (CC.out _ B4.out.size M4.out).mono ?_; rintro e w5 ⟨rfl, m5, b5⟩
        have M5 := Lib.hid m5
        have B5 := Lib.hid (B4.out.trans b5)
        clear m5 b5
        go_wp2_with fail
        refine (FL2.out _ B5.out.size M5.out).mono ?_; rintro e w6 ⟨rfl, _, b6⟩
        have B6 := Lib.hid (B5.out.trans b6)
        clear b6
        go_wp2_with fail
        refine (stored_any _).mono ?_; rintro e w7 ⟨rfl, b7⟩
        have B7 := Lib.hid (up_trans B6.out b7)
        clear b7
        go_wp2_with fail
        go_ret
        exact ⟨rfl, B7.out⟩
      · have hdn := down_no h0
        have lt : (q : Int) < (L : Int) := by omega
        have FLC := Lib.hid (fun w' (hs : w.heap.size ≤ w'.heap.size) (h : Mine w.heap.size w' d D) => flush_mine hs h DP)
        rw [flush_up hdn] at FLC
        clear DP dl h0 hdn
        go_wp2_with fail
        refine (stored_any _).mono ?_; rintro e w7 ⟨rfl, b7⟩
        have M7 := Lib.hid (HD.out.mine.up b7)
        have B7 := Lib.hid (up_trans HB.out b7)
        clear b7
        go_wp2_with fail
        refine (FLC.out _ B7.out.size M7.out).mono ?_; rintro e w8 ⟨rfl, _, b8⟩
        have B8 := Lib.hid (B7.out.trans b8)
        clear b8
        go_wp2_with fail
        go_ret
        exact ⟨rfl, B8.out⟩

theorem SectorDown_core (m n left : Int) (hleft : left < 9223372036854775808) (A : Option Addr) (ats : List Int) (c : Nat) (_hla : ats.length ≤ 9223372036854775807) (w : World) (hA : InSl w A ats) :
    Calls Try.prog 5 #[.int .i64 m, .int .i64 n, .int .i64 left, .slice A ats.length c] w fun e w' => e = .returned (.bool true) ∧ Below w.heap.size w w' := by
  by_cases hb : m < 1 ∨ 64 < m ∨ n < 64 ∨ 1024 < n ∨ 60 < ats.length ∨ left < 0
  · exact down_bad m n left A ats.length c hb w
  · obtain ⟨m, rfl⟩ : ∃ k : Nat, m = k := ⟨m.toNat, by omega⟩
    obtain ⟨n, rfl⟩ : ∃ k : Nat, n = k := ⟨n.toNat, by omega⟩
    obtain ⟨L, rfl⟩ : ∃ k : Nat, left = k := ⟨left.toNat, by omega⟩
    exact down_ok m n L (by omega) (by omega) (by omega) (by omega) (by omega) A ats c (by omega) w hA

end Go.Proofs.Ytbkieheebilopaa
