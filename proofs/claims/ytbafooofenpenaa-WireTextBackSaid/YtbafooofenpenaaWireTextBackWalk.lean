/- The walk of the law WireTextBack: a text that is put is taken again, whatever stands behind it; what is taken is what would be put. -/
import Derived.Test.YtbafooofenpenaaWired
import Derived.Test.YtbafooofenpenaaWireH
namespace Go.Proofs.Ytbafooofenpenaa
open Go.RowKit Wire

theorem again' (s : ByteArray) : (⟨s.data.toList.toArray⟩ : ByteArray) = s := by
  apply ByteArray.ext
  simp
theorem joined_list' (l : List UInt8) (s : ByteArray) : ((⟨l.toArray⟩ : ByteArray) ++ s).data.toList = l ++ s.data.toList := by rw [joined]
theorem joined_size' (l : List UInt8) (s : ByteArray) : ((⟨l.toArray⟩ : ByteArray) ++ s).size = l.length + s.size := by
  rw [joined]
  show (l ++ s.data.toList).toArray.size = _
  simp

/-- What the law meets of a text that is not too long: its bytes, and that they are taken again. -/
theorem first_yes (t s : ByteArray) (ht : t.size ≤ 65536) (hs : s.size ≤ 70000) : ∃ A : List UInt8, A.length ≤ 65546 ∧
    (∀ w : World, Calls Try.prog 23 #[.string t] w fun x w' => x = .returned (.tuple #[.string ⟨A.toArray⟩, .int .i64 0]) ∧ Below w.heap.size w w') ∧
    (∀ w : World, Calls Try.prog 25 #[.string ((⟨A.toArray⟩ : ByteArray) ++ s)] w fun x w' => x = .returned (.tuple #[.string t, .string s, .int .i64 0]) ∧ Below w.heap.size w w') := by
  have hl : t.data.toList.length = t.size := by simp
  have hp := putL_ten (n := t.data.toList.length) (by omega)
  have e := txt_yes (t := t.data.toList) (by omega)
  have h1 := fun w => text_any t (by unfold maxLen; omega) w
  have hA : (putL t.data.toList.length ++ t.data.toList).length ≤ 65546 := by rw [List.length_append]; omega
  have h2 := fun w => takeText_any ((⟨(putL t.data.toList.length ++ t.data.toList).toArray⟩ : ByteArray) ++ s) (by rw [joined_size']; unfold maxLen; omega) w
  have h3 := tkt_txt (t := t.data.toList) (s := s.data.toList) (by omega)
  rw [e] at h1 h3
  rw [joined_list', h3] at h2
  simp only [again'] at h2
  exact ⟨_, hA, h1, h2⟩

/-- What the law meets of a text that is too long. -/
theorem first_no (t s : ByteArray) (h : 65536 < t.size) (ht : t.size ≤ 70000) (hs : s.size ≤ 70000) : ∃ (A : List UInt8) (B C : ByteArray) (f : Nat), A.length ≤ 65546 ∧
    (∀ w : World, Calls Try.prog 23 #[.string t] w fun x w' => x = .returned (.tuple #[.string ⟨A.toArray⟩, .int .i64 2]) ∧ Below w.heap.size w w') ∧
    (∀ w : World, Calls Try.prog 25 #[.string ((⟨A.toArray⟩ : ByteArray) ++ s)] w fun x w' => x = .returned (.tuple #[.string B, .string C, .int .i64 (f : Nat)]) ∧ Below w.heap.size w w') := by
  have hl : t.data.toList.length = t.size := by simp
  have e := txt_no (t := t.data.toList) (by omega)
  have h1 := fun w => text_any t (by unfold maxLen; omega) w
  have h2 := fun w => takeText_any ((⟨([] : List UInt8).toArray⟩ : ByteArray) ++ s) (by rw [joined_size']; unfold maxLen; simp; omega) w
  rw [e] at h1
  exact ⟨_, _, _, _, by simp, h1, h2⟩

/-- What the law meets of bytes that are no text. -/
theorem second_no (s : ByteArray) (hs : s.size ≤ 70000) (h : (tkt s.data.toList).2.2 ≠ 0) : ∃ g : Nat, ((g : Int) != 0) = true ∧
    (∀ w : World, Calls Try.prog 25 #[.string s] w fun x w' => x = .returned (.tuple #[.string ⟨#[]⟩, .string ⟨#[]⟩, .int .i64 (g : Nat)]) ∧ Below w.heap.size w w') := by
  have h1 := fun w => takeText_any s (by unfold maxLen; omega) w
  rw [(tkt_bad h).1, (tkt_bad h).2] at h1
  exact ⟨_, by rw [bne_iff_ne]; omega, h1⟩

/-- What the law meets of bytes that begin with a text. -/
theorem second_yes (s : ByteArray) (hs : s.size ≤ 70000) (h : (tkt s.data.toList).2.2 = 0) : ∃ (c : ByteArray) (D left : List UInt8), D.length ≤ 65546 ∧ left.length ≤ 70000 ∧ (⟨D.toArray⟩ : ByteArray) ++ ⟨left.toArray⟩ = s ∧
    (∀ w : World, Calls Try.prog 25 #[.string s] w fun x w' => x = .returned (.tuple #[.string c, .string ⟨left.toArray⟩, .int .i64 0]) ∧ Below w.heap.size w w') ∧
    (∀ w : World, Calls Try.prog 23 #[.string c] w fun x w' => x = .returned (.tuple #[.string ⟨D.toArray⟩, .int .i64 0]) ∧ Below w.heap.size w w') := by
  have h1 := fun w => takeText_any s (by unfold maxLen; omega) w
  obtain ⟨c, l, g, hc⟩ : ∃ c l g, tkt s.data.toList = (c, l, g) := ⟨_, _, _, rfl⟩
  rw [hc] at h h1
  simp only at h
  subst h
  obtain ⟨ht, hb, hl⟩ := tkt_back hc
  have hcs : (⟨c.toArray⟩ : ByteArray).size = c.length := by
    show c.toArray.size = _
    simp
  have hcl : (⟨c.toArray⟩ : ByteArray).data.toList = c := by simp
  have h2 := fun w => text_any ⟨c.toArray⟩ (by rw [hcs]; unfold maxLen; omega) w
  rw [hcl, ht] at h2
  have hp := putL_ten (n := c.length) (by omega)
  have hls : (putL c.length ++ c ++ l).length = s.size := by rw [hb]; simp
  rw [List.length_append] at hls
  have hj : (⟨(putL c.length ++ c).toArray⟩ : ByteArray) ++ ⟨l.toArray⟩ = s := by
    rw [joined, hb, again']
  exact ⟨_, _, l, by rw [List.length_append]; omega, by omega, hj, h1, h2⟩

set_option maxHeartbeats 3200000 in
set_option maxRecDepth 100000 in
theorem WireTextBack_walk (a0 : ByteArray) (a1 : ByteArray) (z0 : a0.size ≤ 140737488351232) (z1 : a1.size ≤ 140737488351232) (w : World) :
    Calls Try.prog 8 #[.string a0, .string a1] w fun e w' => e = .returned (.bool true) ∧ Below w.heap.size w w' := by
  by_cases h0 : 70000 < a0.size
  · have h0' : (70000 : Int) < (a0.size : Int) := by omega
    go_enter Try.func8, Try.ntmps8
    go_wp2_with fail
    go_ret
    exact ⟨rfl, Below.refl _ _⟩
  · have h0' : ¬ (70000 : Int) < (a0.size : Int) := by omega
    have d0 : decide ((70000 : Int) < (a0.size : Int)) = false := by simpa using h0'
    by_cases h1 : 70000 < a1.size
    · have h1' : (70000 : Int) < (a1.size : Int) := by omega
      go_enter Try.func8, Try.ntmps8
      go_wp2_with fail
      go_ret
      exact ⟨rfl, Below.refl _ _⟩
    · have h1' : ¬ (70000 : Int) < (a1.size : Int) := by omega
      have d1 : decide ((70000 : Int) < (a1.size : Int)) = false := by simpa using h1'
      have q1 : (tkt a1.data.toList).2.2 = 0 ∨ (tkt a1.data.toList).2.2 ≠ 0 := by omega
      by_cases hy : a0.size ≤ 65536
      · obtain ⟨A, hA, c1, c2⟩ := first_yes a0 a1 hy (by omega)
        have C1 := Lib.hid c1
        have C2 := Lib.hid c2
        have hj : ¬ 9223372036854775807 < A.length + a1.size := by omega
        have hy' : (a0.size : Int) ≤ 65536 := by omega
        have dy : decide ((a0.size : Int) ≤ 65536) = true := by simpa using hy'
        rcases q1 with q | q
        · obtain ⟨c, D, left, hD, hL, J, c3, c4⟩ := second_yes a1 (by omega) q
          have C3 := Lib.hid c3
          have C4 := Lib.hid c4
          have hj2 : ¬ 9223372036854775807 < D.length + left.length := by omega
          clear c1 c2 c3 c4 hA hD hL q h0 h1 hy
          go_enter Try.func8, Try.ntmps8
          go_wp2_with fail
          refine (C1.out _).mono ?_; rintro e w1 ⟨rfl, b1⟩
          go_wp2_with fail
          refine (C2.out _).mono ?_; rintro e w2 ⟨rfl, b2⟩
          go_wp2_with fail
          refine (C3.out _).mono ?_; rintro e w3 ⟨rfl, b3⟩
          go_wp2_with fail
          refine (C4.out _).mono ?_; rintro e w4 ⟨rfl, b4⟩
          go_wp2_with fail
          refine (wired_any _).mono ?_; rintro e w5 ⟨rfl, b5⟩
          go_wp2_with fail
          go_ret
          exact ⟨rfl, up_trans (up_trans (up_trans (up_trans b1 b2) b3) b4) b5⟩
        · obtain ⟨g, G, c3⟩ := second_no a1 (by omega) q
          have C3 := Lib.hid c3
          clear c1 c2 c3 hA q h0 h1 hy
          go_enter Try.func8, Try.ntmps8
          go_wp2_with fail
          refine (C1.out _).mono ?_; rintro e w1 ⟨rfl, b1⟩
          go_wp2_with fail
          refine (C2.out _).mono ?_; rintro e w2 ⟨rfl, b2⟩
          go_wp2_with fail
          refine (C3.out _).mono ?_; rintro e w3 ⟨rfl, b3⟩
          go_wp2_with fail
          refine (wired_any _).mono ?_; rintro e w5 ⟨rfl, b5⟩
          go_wp2_with fail
          go_ret
          exact ⟨rfl, up_trans (up_trans (up_trans b1 b2) b3) b5⟩
      · obtain ⟨A, B, C, f, hA, c1, c2⟩ := first_no a0 a1 (by omega) (by omega) (by omega)
        have C1 := Lib.hid c1
        have C2 := Lib.hid c2
        have hj : ¬ 9223372036854775807 < A.length + a1.size := by omega
        have hy' : ¬ (a0.size : Int) ≤ 65536 := by omega
        have dy : decide ((a0.size : Int) ≤ 65536) = false := by simpa using hy'
        rcases q1 with q | q
        · obtain ⟨c, D, left, hD, hL, J, c3, c4⟩ := second_yes a1 (by omega) q
          have C3 := Lib.hid c3
          have C4 := Lib.hid c4
          have hj2 : ¬ 9223372036854775807 < D.length + left.length := by omega
          clear c1 c2 c3 c4 hA hD hL q h0 h1 hy
          go_enter Try.func8, Try.ntmps8
          go_wp2_with fail
          refine (C1.out _).mono ?_; rintro e w1 ⟨rfl, b1⟩
          go_wp2_with fail
          refine (C2.out _).mono ?_; rintro e w2 ⟨rfl, b2⟩
          go_wp2_with fail
          refine (C3.out _).mono ?_; rintro e w3 ⟨rfl, b3⟩
          go_wp2_with fail
          refine (C4.out _).mono ?_; rintro e w4 ⟨rfl, b4⟩
          go_wp2_with fail
          refine (wired_any _).mono ?_; rintro e w5 ⟨rfl, b5⟩
          go_wp2_with fail
          go_ret
          exact ⟨rfl, up_trans (up_trans (up_trans (up_trans b1 b2) b3) b4) b5⟩
        · obtain ⟨g, G, c3⟩ := second_no a1 (by omega) q
          have C3 := Lib.hid c3
          clear c1 c2 c3 hA q h0 h1 hy
          go_enter Try.func8, Try.ntmps8
          go_wp2_with fail
          refine (C1.out _).mono ?_; rintro e w1 ⟨rfl, b1⟩
          go_wp2_with fail
          refine (C2.out _).mono ?_; rintro e w2 ⟨rfl, b2⟩
          go_wp2_with fail
          refine (C3.out _).mono ?_; rintro e w3 ⟨rfl, b3⟩
          go_wp2_with fail
          refine (wired_any _).mono ?_; rintro e w5 ⟨rfl, b5⟩
          go_wp2_with fail
          go_ret
          exact ⟨rfl, up_trans (up_trans (up_trans b1 b2) b3) b5⟩
end Go.Proofs.Ytbafooofenpenaa
