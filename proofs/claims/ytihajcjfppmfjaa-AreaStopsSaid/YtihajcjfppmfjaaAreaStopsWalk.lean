/- The walk of the law AreaStops: where the disk goes down, each sector has all of what was put in it, or nothing; those that have are the first ones. -/
import Derived.Test.YtihajcjfppmfjaaArG
namespace Go.Proofs.Ytihajcjfppmfjaa.Sec

/-- What is left of a Put that a Break ended, behind a Flush and a Crash: its first bytes, and zeros. -/
theorem stopped {N o x n : Nat} {c : UInt8} (hx : x ≤ n) (hn : o + n ≤ N) :
    ((lay (List.replicate N (0 : UInt8)) o ((List.replicate n c).take x)).drop o).take n = List.replicate x c ++ List.replicate (n - x) 0 := by
  have hl : (List.replicate N (0 : UInt8)).length = N := List.length_replicate
  have ht : (List.replicate n c).take x = List.replicate x c := by rw [List.take_replicate, Nat.min_eq_left hx]
  rw [ht]
  apply List.ext_getElem?
  intro i
  rw [List.getElem?_take, List.getElem?_drop]
  by_cases hi : i < n
  · rw [if_pos hi, lay_get (by rw [hl, List.length_replicate]; omega), List.length_replicate]
    by_cases h2 : i < x
    · rw [if_pos (by omega), List.getElem?_append_left (by rw [List.length_replicate]; exact h2), Nat.add_sub_cancel_left]
    · rw [if_neg (by omega), List.getElem?_append_right (by rw [List.length_replicate]; omega), List.length_replicate, List.getElem?_replicate, List.getElem?_replicate, if_pos (by omega), if_pos (by omega)]
  · rw [if_neg hi, List.getElem?_eq_none (by simp; omega)]

/-- Where a Put has stopped is a sector's beginning, or its own, or its end. -/
theorem stop_at {D E : Dk} (ok : D.Ok) {o : Nat} {b : List UInt8} {j r : Nat} (h : D.Put 0 o b j E r) :
    ∃ x, x ≤ b.length ∧ E.view = lay D.view o (b.take x) ∧ (x = b.length ∨ (o + x) % D.size = 0 ∨ x = 0) := by
  have hs : 0 < D.size := by have := ok.s1; omega
  have hp := pos_le (s := D.size) (o := o) (n := b.length) (j := j)
  refine ⟨pos D.size o b.length j - o, by omega, ?_, ?_⟩
  · rw [h.to.view, Dk.part, Nat.zero_mul, Nat.zero_add]
  · rcases Nat.lt_or_ge (pos D.size o b.length j) (o + b.length) with h1 | h1
    · cases j with
      | zero => rw [pos_zero]; omega
      | succ j =>
        have := pos_even h1 hs
        rw [show o + (pos D.size o b.length (j + 1) - o) = pos D.size o b.length (j + 1) by omega]
        exact Or.inr (Or.inl this)
    · exact Or.inl (by omega)

theorem brk_one {E : Dk} (ok : E.Ok) : (E.brk 1).2 = 0 ∧ (E.brk 1).1.view = E.view ∧ (E.brk 1).1.down = false ∧ (E.brk 1).1.Ok ∧ (E.brk 1).1.P = E.P := by
  refine ⟨rfl, rfl, ?_, ok.brk 1 (by omega), rfl⟩
  show (true && ((1 : Int).toNat == 0)) = false
  rfl

theorem crash_none (E : Dk) (t : Int) : (E.crash [] t).view = E.L ∧ (E.crash [] t).br = false := by
  refine ⟨?_, rfl⟩
  show torn E.size E.L (kp E.P []) (E.tear t) = E.L
  rw [kp_nil]
  rfl

end Go.Proofs.Ytihajcjfppmfjaa.Sec
namespace Go.Proofs.Ytihajcjfppmfjaa
open Go.RowKit Sec

set_option maxRecDepth 100000 in
/-- Disks, or areas, that may not be. -/
theorem stops_none (m n k o l : Int) (c : Nat) (hk : k < 9223372036854775808) (hbad : m < 1 ∨ 4096 < m ∨ n < 64 ∨ 1024 < n ∨ k < 1 ∨ m < k) (w : World) :
    Calls Try.prog 5 #[.int .i64 m, .int .i64 n, .int .i64 k, .int .i64 o, .int .i64 l, .int .u8 (c : Nat)] w fun e w' => e = .returned (.bool true) ∧ Below w.heap.size w w' := by
  by_cases h : m < 1 ∨ 4096 < m ∨ n < 64 ∨ 1024 < n
  · have C := Lib.hid (new_bad m n h)
    clear h hbad hk
    go_enter Try.func5, Try.ntmps5
    go_wp2_with fail
    refine (C.out _).mono ?_; rintro e w1 ⟨rfl, rfl⟩
    go_wp2_with fail
    refine (anew_nil 0 k _).mono ?_; rintro e w1 ⟨rfl, rfl⟩
    go_wp2_with fail
    refine (placed_any _).mono ?_; rintro e w2 ⟨rfl, b2⟩
    have B2 := Lib.hid b2
    clear b2
    go_wp2_with fail
    go_ret
    exact ⟨rfl, B2.out⟩
  · obtain ⟨m, rfl⟩ : ∃ k : Nat, m = k := ⟨m.toNat, by omega⟩
    obtain ⟨n, rfl⟩ : ∃ k : Nat, n = k := ⟨n.toNat, by omega⟩
    have C := Lib.hid (new_ok m n (by omega) (by omega) (by omega) (by omega))
    have HB := Lib.hid (show k < 1 ∨ (0 : Int) < 0 ∨ (m : Int) - k < 0 by omega)
    have HK := Lib.hid hk
    clear h hbad hk
    go_enter Try.func5, Try.ntmps5
    go_wp2_with fail
    refine (C.out _).mono ?_; rintro e w1 ⟨d, rfl, M1, b1⟩
    have M := Lib.hid M1
    have B1 := Lib.hid b1
    clear M1 b1
    go_wp2_with fail
    refine (anew_bad M.out 0 k HK.out HB.out).mono ?_; rintro e w2 ⟨rfl, j, rfl⟩
    go_wp2_with fail
    refine (placed_any _).mono ?_; rintro e w3 ⟨rfl, b3⟩
    have B3 := Lib.hid (up_trans (up_trans B1.out (drewN_below j)) b3)
    clear b3
    go_wp2_with fail
    go_ret
    exact ⟨rfl, B3.out⟩

/-- The area of the law, made. -/
theorem stops_new {m n k : Nat} (h5 : 1 ≤ k) (h6 : k ≤ m) {w0 w : World} {d : Nat} (b1 : Below w0.heap.size w0 w) (M1 : Mine w0.heap.size w d (Dk.new m n)) :
    Calls Try.prog 7 #[dp d, .int .i64 0, .int .i64 (k : Nat)] w fun e w' => ∃ a, e = .returned (.tuple #[ap a, .int .i64 0]) ∧ AM w0.heap.size w' a d (Dk.new m n) 0 k ∧ Below w0.heap.size w0 w' := by
  refine (am_new (B := w0.heap.size) (fun _ h => h) M1 b1.size 0 k h5 (by show 0 + k ≤ m; omega)).mono ?_
  rintro e w' ⟨a, rfl, hA, b⟩
  exact ⟨a, rfl, hA, b1.trans b⟩

set_option maxHeartbeats 1000000 in
set_option maxRecDepth 100000 in
/-- Inputs that the law lets go. -/
theorem stops_let (m n k : Nat) (o l : Int) (c : Nat) (h1 : 1 ≤ m) (h2 : m ≤ 4096) (h3 : 64 ≤ n) (h4 : n ≤ 1024) (h5 : 1 ≤ k) (h6 : k ≤ m) (hb : 16 < m ∨ o < 0 ∨ ((k * n : Nat) : Int) ≤ o ∨ l < 0 ∨ c = 0) (w : World) :
    Calls Try.prog 5 #[.int .i64 (m : Nat), .int .i64 (n : Nat), .int .i64 (k : Nat), .int .i64 o, .int .i64 l, .int .u8 (c : Nat)] w fun e w' => e = .returned (.bool true) ∧ Below w.heap.size w w' := by
  have NW := Lib.hid (new_ok m n h1 h2 h3 h4)
  have SN := Lib.hid (fun (w1 : World) (d : Nat) => stops_new (m := m) (n := n) h5 h6 (w0 := w) (w := w1) (d := d))
  clear h1 h2 h3 h4 h5 h6
  by_cases g1 : 16 < m
  · have g1' : (16 : Int) < m := by omega
    clear hb g1
    go_enter Try.func5, Try.ntmps5
    go_wp2_with fail
    refine (NW.out _).mono ?_; rintro e w1 ⟨d, rfl, M1, b1⟩
    have SN1 := Lib.hid (SN.out _ d b1 M1)
    clear M1 b1
    go_wp2_with fail
    refine SN1.out.mono ?_; rintro e w2 ⟨a, rfl, hA, b2⟩
    have B2 := Lib.hid b2
    have HA := Lib.hid hA
    clear b2 hA
    go_wp2_with fail
    refine (placed_any _).mono ?_; rintro e w3 ⟨rfl, b3⟩
    have B3 := Lib.hid (up_trans B2.out b3)
    clear b3
    go_wp2_with fail
    go_ret
    exact ⟨rfl, B3.out⟩
  have g1' : (m : Int) ≤ 16 := by omega
  by_cases g2 : o < 0
  · clear hb g1
    go_enter Try.func5, Try.ntmps5
    go_wp2_with fail
    refine (NW.out _).mono ?_; rintro e w1 ⟨d, rfl, M1, b1⟩
    have SN1 := Lib.hid (SN.out _ d b1 M1)
    clear M1 b1
    go_wp2_with fail
    refine SN1.out.mono ?_; rintro e w2 ⟨a, rfl, hA, b2⟩
    have B2 := Lib.hid b2
    have HA := Lib.hid hA
    clear b2 hA
    go_wp2_with fail
    refine (placed_any _).mono ?_; rintro e w3 ⟨rfl, b3⟩
    have B3 := Lib.hid (up_trans B2.out b3)
    clear b3
    go_wp2_with fail
    go_ret
    exact ⟨rfl, B3.out⟩
  have g2' : 0 ≤ o := by omega
  obtain ⟨q, hq⟩ : ∃ q, q = k * n := ⟨_, rfl⟩
  rw [← hq] at hb
  have HQ := Lib.hid hq
  clear hq
  by_cases g3 : (q : Int) ≤ o
  · clear hb g1 g2
    go_enter Try.func5, Try.ntmps5
    go_wp2_with fail
    refine (NW.out _).mono ?_; rintro e w1 ⟨d, rfl, M1, b1⟩
    have SN1 := Lib.hid (SN.out _ d b1 M1)
    clear M1 b1
    go_wp2_with fail
    refine SN1.out.mono ?_; rintro e w2 ⟨a, rfl, hA, b2⟩
    have B2 := Lib.hid b2
    have C := alen_mine hA
    rw [show k * (Dk.new m n).size = q from HQ.out.symm] at C
    have HC := Lib.hid C
    clear b2 hA C
    go_wp2_with fail
    refine HC.out.mono ?_; rintro e w3 ⟨rfl, b3⟩
    have B3 := Lib.hid (up_trans B2.out b3)
    clear b3
    go_wp2_with fail
    refine (placed_any _).mono ?_; rintro e w4 ⟨rfl, b4⟩
    have B4 := Lib.hid (up_trans B3.out b4)
    clear b4
    go_wp2_with fail
    go_ret
    exact ⟨rfl, B4.out⟩
  have g3' : o < (q : Int) := by omega
  by_cases g4 : l < 0
  · clear hb g1 g2 g3
    go_enter Try.func5, Try.ntmps5
    go_wp2_with fail
    refine (NW.out _).mono ?_; rintro e w1 ⟨d, rfl, M1, b1⟩
    have SN1 := Lib.hid (SN.out _ d b1 M1)
    clear M1 b1
    go_wp2_with fail
    refine SN1.out.mono ?_; rintro e w2 ⟨a, rfl, hA, b2⟩
    have B2 := Lib.hid b2
    have C := alen_mine hA
    rw [show k * (Dk.new m n).size = q from HQ.out.symm] at C
    have HC := Lib.hid C
    clear b2 hA C
    go_wp2_with fail
    refine HC.out.mono ?_; rintro e w3 ⟨rfl, b3⟩
    have B3 := Lib.hid (up_trans B2.out b3)
    clear b3
    go_wp2_with fail
    refine (placed_any _).mono ?_; rintro e w4 ⟨rfl, b4⟩
    have B4 := Lib.hid (up_trans B3.out b4)
    clear b4
    go_wp2_with fail
    go_ret
    exact ⟨rfl, B4.out⟩
  have g4' : 0 ≤ l := by omega
  obtain rfl : c = 0 := by omega
  clear hb g1 g2 g3 g4
  go_enter Try.func5, Try.ntmps5
  go_wp2_with fail
  refine (NW.out _).mono ?_; rintro e w1 ⟨d, rfl, M1, b1⟩
  have SN1 := Lib.hid (SN.out _ d b1 M1)
  clear M1 b1
  go_wp2_with fail
  refine SN1.out.mono ?_; rintro e w2 ⟨a, rfl, hA, b2⟩
  have B2 := Lib.hid b2
  have C := alen_mine hA
  rw [show k * (Dk.new m n).size = q from HQ.out.symm] at C
  have HC := Lib.hid C
  clear b2 hA C
  go_wp2_with fail
  refine HC.out.mono ?_; rintro e w3 ⟨rfl, b3⟩
  have B3 := Lib.hid (up_trans B2.out b3)
  clear b3
  go_wp2_with fail
  refine (placed_any _).mono ?_; rintro e w4 ⟨rfl, b4⟩
  have B4 := Lib.hid (up_trans B3.out b4)
  clear b4
  go_wp2_with fail
  go_ret
  exact ⟨rfl, B4.out⟩

/-- A Break leaves bytes that were made behind the disk. -/
theorem abreak_own {B : Nat} {w2 w : World} {a d : Nat} {D : Dk} {f m : Nat} (hB : B ≤ w2.heap.size) (h : AM B w2 a d D f m) (b : Below w2.heap.size w2 w) (n : Int) (hn : n < 9223372036854775808) :
    Calls Try.prog 14 #[dp d, .int .i64 n] w fun e w' => e = .returned (.int .i64 ((D.brk n).2 : Nat)) ∧ AM B w' a d (D.brk n).1 f m ∧ Below B w w' ∧ ∀ v l, OwnB w2.heap.size v l w → OwnB w2.heap.size v l w' := by
  obtain ⟨h1, F, h2, h3⟩ := h
  have hz := b.size
  refine (break_any (h2.up b).dsk n hn).mono ?_
  rintro e w' ⟨rfl, hd, s, _⟩
  refine ⟨rfl, ⟨h1, F, (h2.up b).with hd s (by unfold Dk.brk; split <;> rfl), h3⟩, s.below h3 (by omega), fun v l ho => ⟨s.own ho.out (fun g hg hF => ?_)⟩⟩
  have h4 := (ho.out.lt g hg).1
  have h5 := h2.bd g hF
  omega

theorem OwnB.sl {B : Nat} {v : Value} {l : List UInt8} {W : World} (h : OwnB B v l W) : ∃ A c, v = .slice A l.length c := by
  obtain ⟨h0, ⟨rfl, hn⟩ | ⟨g', cap, cur, rfl, _⟩⟩ := h.out
  · exact ⟨none, 0, by rw [hn]⟩
  · exact ⟨_, _, rfl⟩

set_option maxHeartbeats 4000000 in
set_option maxRecDepth 100000 in
theorem stops_ok (m n k o l : Nat) (c : UInt8) (h1 : 1 ≤ m) (h2 : m ≤ 16) (h3 : 64 ≤ n) (h4 : n ≤ 1024) (h5 : 1 ≤ k) (h6 : k ≤ m) (ho : o < k * n) (hl : l < 9223372036854775808) (hc : 0 < c.toNat) (w : World) :
    Calls Try.prog 5 #[.int .i64 (m : Nat), .int .i64 (n : Nat), .int .i64 (k : Nat), .int .i64 (o : Nat), .int .i64 (l : Nat), .int .u8 (c.toNat : Nat)] w fun e w' => e = .returned (.bool true) ∧ Below w.heap.size w w' := by
  have NW := Lib.hid (new_ok m n h1 (by omega) h3 h4)
  have SN := Lib.hid (fun (w1 : World) (d : Nat) => stops_new (m := m) (n := n) h5 h6 (w0 := w) (w := w1) (d := d))
  have g1' : (m : Int) ≤ 16 := by omega
  have hkn : k * n ≤ 16 * 1024 := Nat.mul_le_mul (by omega) h4
  have hmn : k * n ≤ m * n := Nat.mul_le_mul_right n h6
  obtain ⟨q, hq⟩ : ∃ q, q = k * n := ⟨_, rfl⟩
  rw [← hq] at ho hkn hmn
  have g3' : (o : Int) < (q : Int) := by omega
  have g4' : ¬ q ≤ o := by omega
  have hcz : ((c.toNat : Int) == 0) = false := by simp; omega
  have HQ := Lib.hid hq
  have HMN := Lib.hid hmn
  have HM := Lib.hid h2
  have HL := Lib.hid hl
  have HN := Lib.hid h3
  have HO := Lib.hid ho
  have HC := Lib.hid hc
  clear h1 h2 h3 h4 h5 h6 hq hmn hl ho
  go_enter Try.func5, Try.ntmps5
  go_wp2_with fail
  refine (NW.out _).mono ?_; rintro e w1 ⟨d, rfl, M1, b1⟩
  have SN1 := Lib.hid (SN.out _ d b1 M1)
  clear M1 b1
  go_wp2_with fail
  refine SN1.out.mono ?_; rintro e w2 ⟨a, rfl, hA, b2⟩
  have LEN := Lib.hid (show ∀ W, Below w2.heap.size w2 W → Calls Try.prog 13 #[ap a] W fun e w' => e = .returned (.int .i64 (q : Nat)) ∧ Below W.heap.size W w' by
    intro W b
    have C := alen_mine (hA.up b)
    rw [show k * (Dk.new m n).size = q from HQ.out.symm] at C
    exact C)
  have HA := Lib.hid hA
  have B2 := Lib.hid b2
  clear b2 hA SN1 SN NW
  go_wp2_with fail
  refine (LEN.out _ (Below.refl _ _)).mono ?_; rintro e w3 ⟨rfl, b3⟩
  have B3 := Lib.hid b3
  clear b3
  go_wp2_with fail
  go_loopw [17, 18] (fun v i wr => ∃ y : Nat, o ≤ y ∧ y ≤ q ∧ i = .int .i64 (y : Nat) ∧ Hid (OwnB w2.heap.size v (List.replicate (y - o) c) wr) ∧ Hid (Below w2.heap.size w2 wr)) (fun _ i _ => q - (intOf i).toNat)
  case atStart => exact ⟨o, Nat.le_refl _, by have := HO.out; omega, rfl, Lib.hid ⟨⟨by simp [bys], Or.inl ⟨rfl, by simp⟩⟩⟩, B3⟩
  case round =>
    obtain ⟨y, hy0, hy, rfl, HOW, HB⟩ := hrel
    go_wp2_with fail
    refine (LEN.out _ HB.out).mono ?_; rintro e w4 ⟨rfl, b4⟩
    have HOW4 := Lib.hid (HOW.out.below b4)
    have HB4 := Lib.hid (up_trans HB.out b4)
    have hz := HB4.out.size
    clear b4
    by_cases hlt : y < q
    · have hlt' : (y : Int) < (q : Int) := by omega
      have e := Lib.hid (show List.replicate (y - o) c ++ [c] = List.replicate (y + 1 - o) c by rw [show y + 1 - o = y - o + 1 by omega, List.replicate_succ'])
      obtain ⟨Z, hZ⟩ : ∃ Z, Z = List.replicate (y - o) c := ⟨_, rfl⟩
      have hZl : Z.length ≤ 16384 := by rw [hZ, List.length_replicate]; omega
      rw [← hZ] at e HOW4
      clear hZ
      go_wp2_with (refine wpList_push rfl (.tmp 75) (.tmp 77) rfl w2.heap.size _ Z rfl (HOW4.out.alloc _) w4.heap.size 1 [c] rfl (Has.make w4 _ [_]) rfl (by omega) (by omega) (by simp; omega) ?_; intro v' w' ho hb; replace ho := Lib.hid ho; replace hb := Lib.hid hb)
      go_roundw
      case rel =>
        exact ⟨y + 1, by omega, by omega, by go_num, Lib.hid (by rw [← e.out]; exact ho.out), Lib.hid ((HB4.out.alloc hz _).trans hb.out)⟩
      case measure => simp [intOf]; omega
    · obtain rfl : q = y := by omega
      have hlt' : ¬ (q : Int) < (q : Int) := by omega
      obtain ⟨A, cp, rfl⟩ := HOW4.out.sl
      rw [List.length_replicate] at HOW4 ⊢
      have hbn : Below w.heap.size w w4 := B2.out.trans (HB4.out.mono B2.out.size)
      have A1 := fun (n : Int) (hn : n < 9223372036854775808) => abreak_own B2.out.size HA.out HB4.out n hn
      obtain ⟨b, hb⟩ : ∃ b, b = List.replicate (q - o) c := ⟨_, rfl⟩
      have hbl : b.length = q - o := by rw [hb, List.length_replicate]
      rw [← hb] at HOW4
      obtain ⟨z, hz'⟩ : ∃ z, z = q - o := ⟨_, rfl⟩
      rw [← hz'] at HOW4 hbl ⊢
      have HBN := Lib.hid hbn
      have HA1 := Lib.hid A1
      have HBL := Lib.hid hbl
      have HBR := Lib.hid hb
      have HZ := Lib.hid hz'
      clear hbn A1 hbl hb hz' HOW HB HB4 LEN HA hlt hlt' hz
      go_wp2_with fail
      refine (HA1.out (l : Nat) (by have := HL.out; omega)).mono ?_; rintro e w5 ⟨rfl, m5, b5, o5⟩
      have TX := (o5 _ _ HOW4.out).text
      clear o5 HOW4
      have M := Lib.hid m5
      have Bl := Lib.hid (HBN.out.trans b5)
      clear m5 b5 HA1
      have dl : ((Dk.new m n).brk (l : Nat)) = ({ Dk.new m n with br := true, left := l }, 0) := by
        unfold Dk.brk
        rw [if_neg (by omega), Int.toNat_natCast]
      rw [dl] at M ⊢
      have dP : ({ Dk.new m n with br := true, left := l } : Dk).P = [] := rfl
      have dS : ({ Dk.new m n with br := true, left := l } : Dk).size = n := rfl
      have dM : ({ Dk.new m n with br := true, left := l } : Dk).many = m := rfl
      have dV : ({ Dk.new m n with br := true, left := l } : Dk).view = List.replicate (m * n) 0 := rfl
      generalize ({ Dk.new m n with br := true, left := l } : Dk) = D1 at M dP dS dM dV
      clear dl
      have hzo : o + z ≤ k * n := by rw [HZ.out, ← HQ.out]; have := HO.out; omega
      have PUT := Lib.hid (put_mine Bl.out.size M.out (by rw [dP]; exact Nat.zero_le _) o b (by rw [HBL.out, dS]; exact hzo))
      have OK1 := Lib.hid M.out.ok
      have HDP := Lib.hid dP
      have HDS := Lib.hid dS
      have HDM := Lib.hid dM
      have HDV := Lib.hid dV
      have HZO := Lib.hid hzo
      clear M dP dS dM dV hzo
      go_wp2_with fail
      refine PUT.out.mono ?_; rintro e w6 ⟨r, E, rfl, ⟨j, hq⟩, m6, b6⟩
      obtain ⟨x, hx, hv, hor⟩ := stop_at OK1.out hq
      have hEP : E.P.length ≤ 4096 := by
        have h1 := hq.to.P
        have h2 := hq.few
        rw [h1, HDP.out, List.nil_append, Dk.puts_len]
        have := HDM.out; have := HM.out; omega
      have hES : E.size = n := hq.to.up.size.trans HDS.out
      obtain ⟨q1, q2, q3, q4, q5⟩ := brk_one m6.ok
      have BRK := Lib.hid (abreak_mine (Bl.out.trans b6).size m6 1 (by omega))
      replace Bl := Lib.hid (Bl.out.trans b6)
      rw [q1] at BRK
      rw [HDV.out] at hv
      rw [HDS.out] at hor
      have HX := Lib.hid hx
      have HV := Lib.hid hv
      have HOR := Lib.hid hor
      have HEP := Lib.hid (show (E.brk 1).1.P.length ≤ 100000 by rw [q5]; omega)
      have HQ2 := Lib.hid q2
      have HQ3 := Lib.hid q3
      have HQ4 := Lib.hid q4
      have HES := Lib.hid (show (E.brk 1).1.size = n from hES)
      clear m6 b6 PUT q1 q2 q3 q4 q5 hx hv hor hEP hES hq
      generalize (E.brk 1).1 = E1 at *
      go_wp2_with fail
      refine BRK.out.mono ?_; rintro e w7 ⟨rfl, m7, b7⟩
      have M := Lib.hid m7
      replace Bl := Lib.hid (Bl.out.trans b7)
      clear m7 b7 BRK
      obtain ⟨f1, f2, f3⟩ := Dk.flush_view HQ4.out HQ3.out
      have FL := Lib.hid (aflush_mine Bl.out.size M.out HEP.out)
      rw [f3] at FL
      have hfs : E1.flush.1.size = n ∧ E1.flush.1.P = [] := by
        have hf : E1.flush.1 = E1.counted.settled E1.P E1.size := by unfold Dk.flush; rw [HQ3.out]; simp
        rw [hf]
        exact ⟨E1.counted_size.trans HES.out, rfl⟩
      have HF1 := Lib.hid f1
      have HFS := Lib.hid hfs
      clear f1 f2 f3 hfs M
      generalize E1.flush.1 = E2 at *
      go_wp2_with fail
      refine FL.out.mono ?_; rintro e w8 ⟨rfl, m8, b8⟩
      have M := Lib.hid m8
      replace Bl := Lib.hid (Bl.out.trans b8)
      clear m8 b8 FL
      go_wp2_with fail
      refine (acrash_mine Bl.out.size M.out (by rw [HFS.out.2]; exact Nat.zero_le _) (-1)).mono ?_; rintro e w9 ⟨rfl, m9, b9⟩
      obtain ⟨g1, g2⟩ := crash_none E2 (-1)
      have g3 : (E2.crash [] (-1)).size = n := HFS.out.1
      replace M := Lib.hid m9
      replace Bl := Lib.hid (Bl.out.trans b9)
      clear m9 b9
      rw [HF1.out, HQ2.out, HV.out] at g1
      have GET := get_mine Bl.out.size M.out o z (by rw [g3]; exact HZO.out)
      have HG1 := Lib.hid g1
      have HG2 := Lib.hid g2
      have HG := Lib.hid GET
      clear g1 g2 g3 GET M
      generalize E2.crash [] (-1) = E3 at *
      go_wp2_with fail
      refine HG.out.mono ?_; rintro e w10 ⟨r2, t, E4, rfl, hgt, m10, b10⟩
      obtain ⟨rfl, rfl, ht⟩ := hgt.all HG2.out
      replace Bl := Lib.hid (Bl.out.trans b10)
      have hx := HX.out
      rw [HBL.out] at hx
      rw [HG1.out, Nat.zero_mul, Nat.zero_add, HBR.out, ← HZ.out, stopped hx (by have h1 := HZO.out; have h2 := HMN.out; rw [HQ.out] at h2; omega)] at ht
      have hor := HOR.out
      rw [HBL.out] at hor
      have htl : t.length = z := by rw [ht, List.length_append, List.length_replicate, List.length_replicate]; omega
      have hS : (⟨t.toArray⟩ : ByteArray).size = z := by rw [text_list, htl]
      have hc1 : ∀ (i : Nat) (h : i < (⟨t.toArray⟩ : ByteArray).size), i < x → (⟨t.toArray⟩ : ByteArray)[i] = c := by
        intro i h hi
        have h2 : i < t.length := by rw [htl]; rw [hS] at h; exact h
        have h3 : t[i]? = some c := by rw [ht, List.getElem?_append_left (by rw [List.length_replicate]; exact hi), List.getElem?_replicate, if_pos hi]
        show t.toArray[i] = c
        rw [List.getElem_toArray]
        rw [List.getElem?_eq_getElem h2] at h3
        exact Option.some.inj h3
      have hc0 : ∀ (i : Nat) (h : i < (⟨t.toArray⟩ : ByteArray).size), x ≤ i → (⟨t.toArray⟩ : ByteArray)[i] = 0 := by
        intro i h hi
        have h2 : i < t.length := by rw [htl]; rw [hS] at h; exact h
        have h3 : t[i]? = some 0 := by rw [ht, List.getElem?_append_right (by rw [List.length_replicate]; exact hi), List.length_replicate, List.getElem?_replicate, if_pos (by omega)]
        show t.toArray[i] = 0
        rw [List.getElem_toArray]
        rw [List.getElem?_eq_getElem h2] at h3
        exact Option.some.inj h3
      have HX2 := Lib.hid hx
      have HOR2 := Lib.hid hor
      have HS := Lib.hid hS
      have HC1 := Lib.hid hc1
      have HC0 := Lib.hid hc0
      clear ht htl m10 b10 hgt hx hor hc1 hc0 HG HG1 HG2 HF1 HFS HQ2 HQ3 HQ4 HES HEP HV HX HOR OK1 HDP HDS HDM HDV HBR HBL
      generalize (⟨t.toArray⟩ : ByteArray) = S at *
      go_wp2_with fail
      have hS := HS.out
      have hne0 : ((0 : Int) == (c.toNat : Int)) = false := by have := HC.out; simp; omega
      have hn0 : ¬ n = 0 := by have := HN.out; omega
      have hxz := HX2.out
      have hzq : z ≤ 16384 := by rw [HZ.out]; omega
      go_loopw [21] (fun v wr => ∃ i : Nat, i ≤ x ∧ v = .int .i64 (i : Nat) ∧ wr = w10) (fun v _ => z - (intOf v).toNat)
      case atStart => exact ⟨0, Nat.zero_le _, rfl, rfl⟩
      case round =>
        obtain ⟨i, hi, rfl, rfl⟩ := hrel
        by_cases hlt : i < x
        · have hb0 : i < S.size := by rw [hS]; omega
          have e1 := HC1.out i hb0 hlt
          have hlt' : (i : Int) < (z : Int) := by omega
          go_wp2_with fail
          go_roundw
          case rel => exact ⟨i + 1, by omega, by go_num, trivial⟩
          case measure => simp [intOf]; omega
        · obtain rfl : i = x := by omega
          by_cases hxz2 : i = z
          · have hlt' : ¬ (i : Int) < (z : Int) := by omega
            have K1 := Lib.hid (show ((i : Int) == (z : Int)) = true by rw [hxz2]; simp)
            clear hxz2
            go_wp2_with fail
            go_loopw [22] (fun v wr' => ∃ y : Nat, i ≤ y ∧ y ≤ z ∧ v = .int .i64 (y : Nat) ∧ wr' = wr) (fun v _ => z - (intOf v).toNat)
            case atStart => exact ⟨i, Nat.le_refl _, hxz, rfl, rfl⟩
            case round =>
              obtain ⟨y, hy, hyz, rfl, rfl⟩ := hrel
              by_cases hlt2 : y < z
              · have hb1 : y < S.size := by rw [hS]; exact hlt2
                have e1 := HC0.out y hb1 hy
                have hlt3 : (y : Int) < (z : Int) := by omega
                go_wp2_with fail
                go_roundw
                case rel => exact ⟨y + 1, by omega, by omega, by go_num, trivial⟩
                case measure => simp [intOf]; omega
              · have hlt3 : ¬ (y : Int) < (z : Int) := by omega
                have PL := Lib.hid (placed_any)
                go_wp2_with fail
                refine (PL.out _).mono ?_; rintro e w12 ⟨rfl, b12⟩
                replace Bl := Lib.hid (up_trans Bl.out b12)
                clear b12
                have k1 := K1.out
                go_wp2_with fail
                go_ret
                exact ⟨rfl, Bl.out⟩

          · have hb0 : i < S.size := by rw [hS]; omega
            have e0 := HC0.out i hb0 (Nat.le_refl _)
            have hlt' : (i : Int) < (z : Int) := by omega
            go_wp2_with fail
            clear e0
            go_loopw [22] (fun v wr' => ∃ y : Nat, i ≤ y ∧ y ≤ z ∧ v = .int .i64 (y : Nat) ∧ wr' = wr) (fun v _ => z - (intOf v).toNat)
            case atStart => exact ⟨i, Nat.le_refl _, hxz, rfl, rfl⟩
            case round =>
              obtain ⟨y, hy, hyz, rfl, rfl⟩ := hrel
              by_cases hlt2 : y < z
              · have hb1 : y < S.size := by rw [hS]; exact hlt2
                have e1 := HC0.out y hb1 hy
                have hlt3 : (y : Int) < (z : Int) := by omega
                go_wp2_with fail
                go_roundw
                case rel => exact ⟨y + 1, by omega, by omega, by go_num, trivial⟩
                case measure => simp [intOf]; omega
              · have hlt3 : ¬ (y : Int) < (z : Int) := by omega
                have PL := Lib.hid (placed_any)
                go_wp2_with fail
                refine (PL.out _).mono ?_; rintro e w12 ⟨rfl, b12⟩
                replace Bl := Lib.hid (up_trans Bl.out b12)
                clear b12
                have k1 : ((i : Int) == (z : Int)) = false := by simp; omega
                rcases HOR2.out with h | h | h
                · omega
                · obtain ⟨u, hu⟩ : ∃ u, u = o + i := ⟨_, rfl⟩
                  have k2 : ((o : Int) + (i : Int)) % (n : Int) = 0 := by rw [show (o : Int) + (i : Int) = ((o + i : Nat) : Int) by simp, ← Int.natCast_emod, h]; rfl
                  go_wp2_with fail
                  go_ret
                  exact ⟨rfl, Bl.out⟩
                · subst h
                  by_cases hq0 : o % n = 0
                  · have k2 : (o : Int) % (n : Int) = 0 := by rw [← Int.natCast_emod, hq0]; rfl
                    go_wp2_with fail
                    go_ret
                    exact ⟨rfl, Bl.out⟩
                  · have k2 : ¬ (o : Int) % (n : Int) = 0 := by rw [← Int.natCast_emod]; omega
                    go_wp2_with fail
                    go_ret
                    exact ⟨rfl, Bl.out⟩

theorem AreaStops_core (m n k : Int) (hk : k < 9223372036854775808) (o l : Int) (hl : l < 9223372036854775808) (c : Nat) (hc : c < 256) (w : World) :
    Calls Try.prog 5 #[.int .i64 m, .int .i64 n, .int .i64 k, .int .i64 o, .int .i64 l, .int .u8 (c : Nat)] w fun e w' => e = .returned (.bool true) ∧ Below w.heap.size w w' := by
  by_cases h1 : m < 1 ∨ 4096 < m ∨ n < 64 ∨ 1024 < n ∨ k < 1 ∨ m < k
  · exact stops_none m n k o l c hk h1 w
  obtain ⟨m, rfl⟩ : ∃ q : Nat, m = q := ⟨m.toNat, by omega⟩
  obtain ⟨n, rfl⟩ : ∃ q : Nat, n = q := ⟨n.toNat, by omega⟩
  obtain ⟨k, rfl⟩ : ∃ q : Nat, k = q := ⟨k.toNat, by omega⟩
  by_cases h2 : 16 < m ∨ o < 0 ∨ ((k * n : Nat) : Int) ≤ o ∨ l < 0 ∨ c = 0
  · exact stops_let m n k o l c (by omega) (by omega) (by omega) (by omega) (by omega) (by omega) h2 w
  obtain ⟨o, rfl⟩ : ∃ q : Nat, o = q := ⟨o.toNat, by omega⟩
  obtain ⟨l, rfl⟩ : ∃ q : Nat, l = q := ⟨l.toNat, by omega⟩
  have ho : o < k * n := by
    generalize k * n = q at h2 ⊢
    omega
  obtain ⟨b, rfl⟩ : ∃ b : UInt8, c = b.toNat := ⟨UInt8.ofNat c, by simp; omega⟩
  exact stops_ok m n k o l b (by omega) (by omega) (by omega) (by omega) (by omega) (by omega) ho (by omega) (by omega) w

end Go.Proofs.Ytihajcjfppmfjaa
