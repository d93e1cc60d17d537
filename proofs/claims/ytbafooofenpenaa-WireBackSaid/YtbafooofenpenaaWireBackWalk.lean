/- The walk of the law WireBack: what is put is taken again, whatever stands behind it; what is taken is what would be put. -/
import Derived.Test.YtbafooofenpenaaWired
import Derived.Test.YtbafooofenpenaaWireF
import Derived.Test.YtbafooofenpenaaWireG
import Derived.Test.YtbafooofenpenaaWireH
namespace Go.Proofs.Ytbafooofenpenaa
open Go.RowKit Wire

theorem again (s : ByteArray) : (⟨s.data.toList.toArray⟩ : ByteArray) = s := by
  apply ByteArray.ext
  simp
theorem joined_list (l : List UInt8) (s : ByteArray) : ((⟨l.toArray⟩ : ByteArray) ++ s).data.toList = l ++ s.data.toList := by rw [joined]
theorem joined_size (l : List UInt8) (s : ByteArray) : ((⟨l.toArray⟩ : ByteArray) ++ s).size = l.length + s.size := by
  rw [joined]
  show (l ++ s.data.toList).toArray.size = _
  simp
theorem tkf_fx (n : Nat) {d : Nat} (h1 : 1 ≤ d) (h8 : d ≤ 8) (l : List UInt8) : tkf (fx n d ++ l) (d : Int) = (n % 256 ^ d, l, 0) := by
  rw [tkf_long h1 h8 (by simp [fx_length])]
  have e1 : (fx n d ++ l).take d = fx n d := List.take_left' (fx_length n d)
  have e2 : (fx n d ++ l).drop d = l := List.drop_left' (fx_length n d)
  rw [e1, e2, be_fx]

/-- What the law meets of the number. -/
theorem back_number {n : Nat} (hn : n < 18446744073709551616) (s : ByteArray) (hs : s.size ≤ 3000) : ∃ A : List UInt8, A.length ≤ 10 ∧
    (∀ w : World, Calls Try.prog 13 #[.int .u64 (n : Nat)] w fun x w' => x = .returned (.string ⟨A.toArray⟩) ∧ Below w.heap.size w w') ∧
    (∀ w : World, Calls Try.prog 10 #[.string ((⟨A.toArray⟩ : ByteArray) ++ s)] w fun e w' => e = .returned (.tuple #[.int .u64 (n : Nat), .string s, .int .i64 0]) ∧ Below w.heap.size w w') := by
  have hp := putL_ten hn
  have c := fun w => take_any ((⟨(putL n).toArray⟩ : ByteArray) ++ s) (by rw [joined_size]; unfold maxLen; omega) w
  rw [joined_list, tk_put hn] at c
  simp only [again] at c
  exact ⟨_, hp, fun w => put_any n hn w, c⟩

/-- What the law meets of bytes that begin with a number. -/
theorem back_yes (s : ByteArray) (hs : s.size ≤ 3000) (h : (tk s.data.toList).2.2 = 0) : ∃ (v : Nat) (P r : List UInt8), P.length ≤ 10 ∧ r.length ≤ 3000 ∧ (⟨P.toArray⟩ : ByteArray) ++ ⟨r.toArray⟩ = s ∧
    (∀ w : World, Calls Try.prog 10 #[.string s] w fun e w' => e = .returned (.tuple #[.int .u64 (v : Nat), .string ⟨r.toArray⟩, .int .i64 0]) ∧ Below w.heap.size w w') ∧
    (∀ w : World, Calls Try.prog 13 #[.int .u64 (v : Nat)] w fun x w' => x = .returned (.string ⟨P.toArray⟩) ∧ Below w.heap.size w w') := by
  have c := fun w => take_any s (by unfold maxLen; omega) w
  obtain ⟨v, r, e, hv⟩ : ∃ v r e, tk s.data.toList = (v, r, e) := ⟨_, _, _, rfl⟩
  have hr := tk_len s.data.toList
  rw [hv] at h c hr
  simp only at h
  subst h
  obtain ⟨hb, hl⟩ := tk_back hv
  have hl' : s.data.toList.length = s.size := by simp
  exact ⟨v, _, r, putL_ten hl, by simp only at hr; omega, by rw [joined, hb, again], c, fun w => put_any v hl w⟩

theorem back_no (s : ByteArray) (hs : s.size ≤ 3000) (h : (tk s.data.toList).2.2 ≠ 0) : ∃ (v e : Nat) (r : ByteArray), ((e : Int) == 0) = false ∧
    (∀ w : World, Calls Try.prog 10 #[.string s] w fun x w' => x = .returned (.tuple #[.int .u64 (v : Nat), .string r, .int .i64 (e : Nat)]) ∧ Below w.heap.size w w') :=
  ⟨_, _, _, by rw [beq_eq_false_iff_ne]; omega, fun w => take_any s (by unfold maxLen; omega) w⟩

/-- What the law meets of a width that is none. -/
theorem back_narrow (n : Nat) (k : Int) (s : ByteArray) (hs : s.size ≤ 3000) (h : k < 1 ∨ 8 < k) : ∃ (A : List UInt8) (v : Nat) (r : ByteArray), A.length ≤ 8 ∧
    (∀ w : World, Calls Try.prog 17 #[.int .u64 (n : Nat), .int .i64 k] w fun x w' => x = .returned (.string ⟨A.toArray⟩) ∧ Below w.heap.size w w') ∧
    (∀ w : World, Calls Try.prog 15 #[.string ((⟨A.toArray⟩ : ByteArray) ++ s), .int .i64 k] w fun x w' => x = .returned (.tuple #[.int .u64 (v : Nat), .string r, .int .i64 1]) ∧ Below w.heap.size w w') ∧
    (∀ w : World, Calls Try.prog 17 #[.int .u64 (n : Nat), .int .i64 k] w fun x w' => x = .returned (.string ⟨#[]⟩) ∧ Below w.heap.size w w') := by
  have c := fun w => takeFixed_any ((⟨([] : List UInt8).toArray⟩ : ByteArray) ++ s) (by rw [joined_size]; unfold maxLen; simp; omega) k w
  rw [tkf_no h] at c
  have f := fun w => fixed_any n k w
  rw [fxw_no h] at f
  exact ⟨_, _, _, by simp, f, c, f⟩

/-- What the law meets of a width. -/
theorem back_wide {n d : Nat} (hn : n < 18446744073709551616) (h1 : 1 ≤ d) (h8 : d ≤ 8) (s : ByteArray) (hs : s.size ≤ 3000) : ∃ (A : List UInt8) (c : Nat), A.length ≤ 8 ∧ (d = 8 → c = n) ∧
    (∀ w : World, Calls Try.prog 17 #[.int .u64 (n : Nat), .int .i64 (d : Nat)] w fun x w' => x = .returned (.string ⟨A.toArray⟩) ∧ Below w.heap.size w w') ∧
    (∀ w : World, Calls Try.prog 15 #[.string ((⟨A.toArray⟩ : ByteArray) ++ s), .int .i64 (d : Nat)] w fun x w' => x = .returned (.tuple #[.int .u64 (c : Nat), .string s, .int .i64 0]) ∧ Below w.heap.size w w') ∧
    (∀ w : World, Calls Try.prog 17 #[.int .u64 (c : Nat), .int .i64 (d : Nat)] w fun x w' => x = .returned (.string ⟨A.toArray⟩) ∧ Below w.heap.size w w') := by
  have c := fun w => takeFixed_any ((⟨(fx n d).toArray⟩ : ByteArray) ++ s) (by rw [joined_size, fx_length]; unfold maxLen; omega) (d : Int) w
  rw [joined_list, tkf_fx n h1 h8] at c
  simp only [again] at c
  have f := fun w => fixed_any n (d : Int) w
  have g := fun w => fixed_any (n % 256 ^ d) (d : Int) w
  rw [fxw_yes h1 h8] at f g
  rw [fx_back] at g
  exact ⟨_, _, by rw [fx_length]; exact h8, by rintro rfl; rw [show (256 : Nat) ^ 8 = 18446744073709551616 from by decide]; omega, f, c, g⟩

set_option maxHeartbeats 3200000 in
set_option maxRecDepth 100000 in
theorem WireBack_walk (a0 : Int) (a1 : Int) (a2 : Int) (a3 : ByteArray) (w0 : (Lit.int .u64 a0).wf = true) (_w1 : (Lit.int .i64 a1).wf = true) (w2 : (Lit.int .i64 a2).wf = true) (_z3 : a3.size ≤ 140737488351232) (w : World) :
    Calls Try.prog 7 #[.int .u64 a0, .int .i64 a1, .int .i64 a2, .string a3] w fun e w' => e = .returned (.bool true) ∧ Below w.heap.size w w' := by
  obtain ⟨n, rfl, hn⟩ := wf_u64 w0
  obtain ⟨k1, k2⟩ := bounds_i64 w2
  by_cases h1 : 3000 < a3.size
  · have h1' : (3000 : Int) < (a3.size : Int) := by omega
    go_enter Try.func7, Try.ntmps7
    go_wp2_with fail
    go_ret
    exact ⟨rfl, Below.refl _ _⟩
  · have h1' : ¬ (3000 : Int) < (a3.size : Int) := by omega
    have hs : a3.size ≤ 3000 := by omega
    obtain ⟨A, hA, c1, c2⟩ := back_number hn a3 hs
    have C1 := Lib.hid c1
    have C2 := Lib.hid c2
    have hj : ¬ 9223372036854775807 < A.length + a3.size := by omega
    have S1 := Lib.hid (fun w => sign_any a2 k1 k2 w)
    have s2 := fun w => signed_any (sg a2) (sg_lt k1 k2) w
    rw [sd_sg] at s2
    have S2 := Lib.hid s2
    have S3 := Lib.hid (fun w => signed_any n hn w)
    have s4 := fun w => sign_any (sd n) (sd_in hn).1 (sd_in hn).2 w
    rw [sg_sd] at s4
    have S4 := Lib.hid s4
    clear s2 s4 c1 c2 hA w0 w2 k1 k2 h1
    generalize sg a2 = x at *
    generalize sd n = y at *
    by_cases q : (tk a3.data.toList).2.2 = 0
    · obtain ⟨v, P, r, hP, hr, J, c3, c4⟩ := back_yes a3 hs q
      have C3 := Lib.hid c3
      have C4 := Lib.hid c4
      have hj2 : ¬ 9223372036854775807 < P.length + r.length := by omega
      clear c3 c4 q hP hr
      by_cases hk : 1 ≤ a1 ∧ a1 ≤ 8
      · obtain ⟨d, rfl⟩ : ∃ d : Nat, a1 = d := ⟨a1.toNat, by omega⟩
        obtain ⟨E, c, hE, hc, d1, d2, d3⟩ := back_wide (n := n) (d := d) hn (by omega) (by omega) a3 hs
        have D1 := Lib.hid d1
        have D2 := Lib.hid d2
        have D3 := Lib.hid d3
        have hj3 : ¬ 9223372036854775807 < E.length + a3.size := by omega
        have k1 : ¬ (d : Int) < 1 := by omega
        have k2 : ¬ (8 : Int) < (d : Int) := by omega
        have k3 : decide ((8 : Int) < (d : Int)) = false := by simp; omega
        by_cases h8 : d = 8
        · obtain rfl : c = n := hc h8
          have k4 : ¬ (d : Int) < 8 := by omega
          have k5 : decide ((d : Int) < 8) = false := by simp; omega
          clear d1 d2 d3 hE hc hs hn h8 hk
          go_enter Try.func7, Try.ntmps7
          go_wp2_with fail
          refine (C1.out _).mono ?_; rintro e w1 ⟨rfl, b1⟩
          go_wp2_with fail
          refine (C2.out _).mono ?_; rintro e w2 ⟨rfl, b2⟩
          go_wp2_with fail
          refine (S1.out _).mono ?_; rintro e w3 ⟨rfl, rfl⟩
          go_wp2_with fail
          refine (S2.out _).mono ?_; rintro e w3 ⟨rfl, rfl⟩
          go_wp2_with fail
          refine (S3.out _).mono ?_; rintro e w3 ⟨rfl, rfl⟩
          go_wp2_with fail
          refine (S4.out _).mono ?_; rintro e w3 ⟨rfl, rfl⟩
          go_wp2_with fail
          refine (C3.out _).mono ?_; rintro e w3 ⟨rfl, b3⟩
          go_wp2_with fail
          refine (C4.out _).mono ?_; rintro e w4 ⟨rfl, b4⟩
          go_wp2_with fail
          refine (D1.out _).mono ?_; rintro e w5 ⟨rfl, b5⟩
          go_wp2_with fail
          refine (D2.out _).mono ?_; rintro e w6 ⟨rfl, b6⟩
          go_wp2_with fail
          refine (wired_any _).mono ?_; rintro e w7 ⟨rfl, b7⟩
          go_wp2_with fail
          refine (D3.out _).mono ?_; rintro e w8 ⟨rfl, b8⟩
          go_wp2_with fail
          refine (D1.out _).mono ?_; rintro e w9 ⟨rfl, b9⟩
          go_wp2_with fail
          go_ret
          exact ⟨rfl, up_trans (up_trans (up_trans (up_trans (up_trans (up_trans (up_trans (up_trans b1 b2) b3) b4) b5) b6) b7) b8) b9⟩
        · have k4 : (d : Int) < 8 := by omega
          clear d1 d2 d3 hE hc hs hn h8 hk
          go_enter Try.func7, Try.ntmps7
          go_wp2_with fail
          refine (C1.out _).mono ?_; rintro e w1 ⟨rfl, b1⟩
          go_wp2_with fail
          refine (C2.out _).mono ?_; rintro e w2 ⟨rfl, b2⟩
          go_wp2_with fail
          refine (S1.out _).mono ?_; rintro e w3 ⟨rfl, rfl⟩
          go_wp2_with fail
          refine (S2.out _).mono ?_; rintro e w3 ⟨rfl, rfl⟩
          go_wp2_with fail
          refine (S3.out _).mono ?_; rintro e w3 ⟨rfl, rfl⟩
          go_wp2_with fail
          refine (S4.out _).mono ?_; rintro e w3 ⟨rfl, rfl⟩
          go_wp2_with fail
          refine (C3.out _).mono ?_; rintro e w3 ⟨rfl, b3⟩
          go_wp2_with fail
          refine (C4.out _).mono ?_; rintro e w4 ⟨rfl, b4⟩
          go_wp2_with fail
          refine (D1.out _).mono ?_; rintro e w5 ⟨rfl, b5⟩
          go_wp2_with fail
          refine (D2.out _).mono ?_; rintro e w6 ⟨rfl, b6⟩
          go_wp2_with fail
          refine (wired_any _).mono ?_; rintro e w7 ⟨rfl, b7⟩
          go_wp2_with fail
          refine (D3.out _).mono ?_; rintro e w8 ⟨rfl, b8⟩
          go_wp2_with fail
          refine (D1.out _).mono ?_; rintro e w9 ⟨rfl, b9⟩
          go_wp2_with fail
          go_ret
          exact ⟨rfl, up_trans (up_trans (up_trans (up_trans (up_trans (up_trans (up_trans (up_trans b1 b2) b3) b4) b5) b6) b7) b8) b9⟩
      · obtain ⟨E, u, z, hE, d1, d2, d3⟩ := back_narrow n a1 a3 hs (by omega)
        have D1 := Lib.hid d1
        have D2 := Lib.hid d2
        have D3 := Lib.hid d3
        have hj3 : ¬ 9223372036854775807 < E.length + a3.size := by omega
        by_cases h0 : a1 < 1
        · clear d1 d2 d3 hE hs hn hk
          go_enter Try.func7, Try.ntmps7
          go_wp2_with fail
          refine (C1.out _).mono ?_; rintro e w1 ⟨rfl, b1⟩
          go_wp2_with fail
          refine (C2.out _).mono ?_; rintro e w2 ⟨rfl, b2⟩
          go_wp2_with fail
          refine (S1.out _).mono ?_; rintro e w3 ⟨rfl, rfl⟩
          go_wp2_with fail
          refine (S2.out _).mono ?_; rintro e w3 ⟨rfl, rfl⟩
          go_wp2_with fail
          refine (S3.out _).mono ?_; rintro e w3 ⟨rfl, rfl⟩
          go_wp2_with fail
          refine (S4.out _).mono ?_; rintro e w3 ⟨rfl, rfl⟩
          go_wp2_with fail
          refine (C3.out _).mono ?_; rintro e w3 ⟨rfl, b3⟩
          go_wp2_with fail
          refine (C4.out _).mono ?_; rintro e w4 ⟨rfl, b4⟩
          go_wp2_with fail
          refine (D1.out _).mono ?_; rintro e w5 ⟨rfl, b5⟩
          go_wp2_with fail
          refine (D2.out _).mono ?_; rintro e w6 ⟨rfl, b6⟩
          go_wp2_with fail
          refine (wired_any _).mono ?_; rintro e w7 ⟨rfl, b7⟩
          go_wp2_with fail
          refine (D3.out _).mono ?_; rintro e w8 ⟨rfl, b8⟩
          go_wp2_with fail
          go_ret
          exact ⟨rfl, up_trans (up_trans (up_trans (up_trans (up_trans (up_trans (up_trans b1 b2) b3) b4) b5) b6) b7) b8⟩
        · have k1 : (8 : Int) < a1 := by omega
          have k2 : decide (a1 < 1) = false := by simpa using h0
          clear d1 d2 d3 hE hs hn hk
          go_enter Try.func7, Try.ntmps7
          go_wp2_with fail
          refine (C1.out _).mono ?_; rintro e w1 ⟨rfl, b1⟩
          go_wp2_with fail
          refine (C2.out _).mono ?_; rintro e w2 ⟨rfl, b2⟩
          go_wp2_with fail
          refine (S1.out _).mono ?_; rintro e w3 ⟨rfl, rfl⟩
          go_wp2_with fail
          refine (S2.out _).mono ?_; rintro e w3 ⟨rfl, rfl⟩
          go_wp2_with fail
          refine (S3.out _).mono ?_; rintro e w3 ⟨rfl, rfl⟩
          go_wp2_with fail
          refine (S4.out _).mono ?_; rintro e w3 ⟨rfl, rfl⟩
          go_wp2_with fail
          refine (C3.out _).mono ?_; rintro e w3 ⟨rfl, b3⟩
          go_wp2_with fail
          refine (C4.out _).mono ?_; rintro e w4 ⟨rfl, b4⟩
          go_wp2_with fail
          refine (D1.out _).mono ?_; rintro e w5 ⟨rfl, b5⟩
          go_wp2_with fail
          refine (D2.out _).mono ?_; rintro e w6 ⟨rfl, b6⟩
          go_wp2_with fail
          refine (wired_any _).mono ?_; rintro e w7 ⟨rfl, b7⟩
          go_wp2_with fail
          refine (D3.out _).mono ?_; rintro e w8 ⟨rfl, b8⟩
          go_wp2_with fail
          go_ret
          exact ⟨rfl, up_trans (up_trans (up_trans (up_trans (up_trans (up_trans (up_trans b1 b2) b3) b4) b5) b6) b7) b8⟩
    · obtain ⟨v, e, r, G, c3⟩ := back_no a3 hs q
      have C3 := Lib.hid c3
      clear c3 q
      by_cases hk : 1 ≤ a1 ∧ a1 ≤ 8
      · obtain ⟨d, rfl⟩ : ∃ d : Nat, a1 = d := ⟨a1.toNat, by omega⟩
        obtain ⟨E, c, hE, hc, d1, d2, d3⟩ := back_wide (n := n) (d := d) hn (by omega) (by omega) a3 hs
        have D1 := Lib.hid d1
        have D2 := Lib.hid d2
        have D3 := Lib.hid d3
        have hj3 : ¬ 9223372036854775807 < E.length + a3.size := by omega
        have k1 : ¬ (d : Int) < 1 := by omega
        have k2 : ¬ (8 : Int) < (d : Int) := by omega
        have k3 : decide ((8 : Int) < (d : Int)) = false := by simp; omega
        by_cases h8 : d = 8
        · obtain rfl : c = n := hc h8
          have k4 : ¬ (d : Int) < 8 := by omega
          have k5 : decide ((d : Int) < 8) = false := by simp; omega
          clear d1 d2 d3 hE hc hs hn h8 hk
          go_enter Try.func7, Try.ntmps7
          go_wp2_with fail
          refine (C1.out _).mono ?_; rintro e w1 ⟨rfl, b1⟩
          go_wp2_with fail
          refine (C2.out _).mono ?_; rintro e w2 ⟨rfl, b2⟩
          go_wp2_with fail
          refine (S1.out _).mono ?_; rintro e w3 ⟨rfl, rfl⟩
          go_wp2_with fail
          refine (S2.out _).mono ?_; rintro e w3 ⟨rfl, rfl⟩
          go_wp2_with fail
          refine (S3.out _).mono ?_; rintro e w3 ⟨rfl, rfl⟩
          go_wp2_with fail
          refine (S4.out _).mono ?_; rintro e w3 ⟨rfl, rfl⟩
          go_wp2_with fail
          refine (C3.out _).mono ?_; rintro e w3 ⟨rfl, b3⟩
          go_wp2_with fail
          refine (D1.out _).mono ?_; rintro e w5 ⟨rfl, b5⟩
          go_wp2_with fail
          refine (D2.out _).mono ?_; rintro e w6 ⟨rfl, b6⟩
          go_wp2_with fail
          refine (wired_any _).mono ?_; rintro e w7 ⟨rfl, b7⟩
          go_wp2_with fail
          refine (D3.out _).mono ?_; rintro e w8 ⟨rfl, b8⟩
          go_wp2_with fail
          refine (D1.out _).mono ?_; rintro e w9 ⟨rfl, b9⟩
          go_wp2_with fail
          go_ret
          exact ⟨rfl, up_trans (up_trans (up_trans (up_trans (up_trans (up_trans (up_trans b1 b2) b3) b5) b6) b7) b8) b9⟩
        · have k4 : (d : Int) < 8 := by omega
          clear d1 d2 d3 hE hc hs hn h8 hk
          go_enter Try.func7, Try.ntmps7
          go_wp2_with fail
          refine (C1.out _).mono ?_; rintro e w1 ⟨rfl, b1⟩
          go_wp2_with fail
          refine (C2.out _).mono ?_; rintro e w2 ⟨rfl, b2⟩
          go_wp2_with fail
          refine (S1.out _).mono ?_; rintro e w3 ⟨rfl, rfl⟩
          go_wp2_with fail
          refine (S2.out _).mono ?_; rintro e w3 ⟨rfl, rfl⟩
          go_wp2_with fail
          refine (S3.out _).mono ?_; rintro e w3 ⟨rfl, rfl⟩
          go_wp2_with fail
          refine (S4.out _).mono ?_; rintro e w3 ⟨rfl, rfl⟩
          go_wp2_with fail
          refine (C3.out _).mono ?_; rintro e w3 ⟨rfl, b3⟩
          go_wp2_with fail
          refine (D1.out _).mono ?_; rintro e w5 ⟨rfl, b5⟩
          go_wp2_with fail
          refine (D2.out _).mono ?_; rintro e w6 ⟨rfl, b6⟩
          go_wp2_with fail
          refine (wired_any _).mono ?_; rintro e w7 ⟨rfl, b7⟩
          go_wp2_with fail
          refine (D3.out _).mono ?_; rintro e w8 ⟨rfl, b8⟩
          go_wp2_with fail
          refine (D1.out _).mono ?_; rintro e w9 ⟨rfl, b9⟩
          go_wp2_with fail
          go_ret
          exact ⟨rfl, up_trans (up_trans (up_trans (up_trans (up_trans (up_trans (up_trans b1 b2) b3) b5) b6) b7) b8) b9⟩
      · obtain ⟨E, u, z, hE, d1, d2, d3⟩ := back_narrow n a1 a3 hs (by omega)
        have D1 := Lib.hid d1
        have D2 := Lib.hid d2
        have D3 := Lib.hid d3
        have hj3 : ¬ 9223372036854775807 < E.length + a3.size := by omega
        by_cases h0 : a1 < 1
        · clear d1 d2 d3 hE hs hn hk
          go_enter Try.func7, Try.ntmps7
          go_wp2_with fail
          refine (C1.out _).mono ?_; rintro e w1 ⟨rfl, b1⟩
          go_wp2_with fail
          refine (C2.out _).mono ?_; rintro e w2 ⟨rfl, b2⟩
          go_wp2_with fail
          refine (S1.out _).mono ?_; rintro e w3 ⟨rfl, rfl⟩
          go_wp2_with fail
          refine (S2.out _).mono ?_; rintro e w3 ⟨rfl, rfl⟩
          go_wp2_with fail
          refine (S3.out _).mono ?_; rintro e w3 ⟨rfl, rfl⟩
          go_wp2_with fail
          refine (S4.out _).mono ?_; rintro e w3 ⟨rfl, rfl⟩
          go_wp2_with fail
          refine (C3.out _).mono ?_; rintro e w3 ⟨rfl, b3⟩
          go_wp2_with fail
          refine (D1.out _).mono ?_; rintro e w5 ⟨rfl, b5⟩
          go_wp2_with fail
          refine (D2.out _).mono ?_; rintro e w6 ⟨rfl, b6⟩
          go_wp2_with fail
          refine (wired_any _).mono ?_; rintro e w7 ⟨rfl, b7⟩
          go_wp2_with fail
          refine (D3.out _).mono ?_; rintro e w8 ⟨rfl, b8⟩
          go_wp2_with fail
          go_ret
          exact ⟨rfl, up_trans (up_trans (up_trans (up_trans (up_trans (up_trans b1 b2) b3) b5) b6) b7) b8⟩
        · have k1 : (8 : Int) < a1 := by omega
          have k2 : decide (a1 < 1) = false := by simpa using h0
          clear d1 d2 d3 hE hs hn hk
          go_enter Try.func7, Try.ntmps7
          go_wp2_with fail
          refine (C1.out _).mono ?_; rintro e w1 ⟨rfl, b1⟩
          go_wp2_with fail
          refine (C2.out _).mono ?_; rintro e w2 ⟨rfl, b2⟩
          go_wp2_with fail
          refine (S1.out _).mono ?_; rintro e w3 ⟨rfl, rfl⟩
          go_wp2_with fail
          refine (S2.out _).mono ?_; rintro e w3 ⟨rfl, rfl⟩
          go_wp2_with fail
          refine (S3.out _).mono ?_; rintro e w3 ⟨rfl, rfl⟩
          go_wp2_with fail
          refine (S4.out _).mono ?_; rintro e w3 ⟨rfl, rfl⟩
          go_wp2_with fail
          refine (C3.out _).mono ?_; rintro e w3 ⟨rfl, b3⟩
          go_wp2_with fail
          refine (D1.out _).mono ?_; rintro e w5 ⟨rfl, b5⟩
          go_wp2_with fail
          refine (D2.out _).mono ?_; rintro e w6 ⟨rfl, b6⟩
          go_wp2_with fail
          refine (wired_any _).mono ?_; rintro e w7 ⟨rfl, b7⟩
          go_wp2_with fail
          refine (D3.out _).mono ?_; rintro e w8 ⟨rfl, b8⟩
          go_wp2_with fail
          go_ret
          exact ⟨rfl, up_trans (up_trans (up_trans (up_trans (up_trans (up_trans b1 b2) b3) b5) b6) b7) b8⟩
end Go.Proofs.Ytbafooofenpenaa
