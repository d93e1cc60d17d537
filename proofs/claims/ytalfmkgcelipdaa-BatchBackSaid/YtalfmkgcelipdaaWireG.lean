/- Fixed widths, taken: contracts of wire.TakeFixed and the document's own. -/
import Derived.Test.YtalfmkgcelipdaaWireE
import Derived.Test.YtalfmkgcelipdaaWireK
namespace Go.Proofs.Ytalfmkgcelipdaa
open Go.RowKit Wire

theorem tkf_no {l : List UInt8} {k : Int} (h : k < 1 ∨ 8 < k) : tkf l k = (0, [], 1) := by rw [tkf, if_pos h]
theorem tkf_short {l : List UInt8} {d : Nat} (h1 : 1 ≤ d) (h8 : d ≤ 8) (h : l.length < d) : tkf l (d : Int) = (0, [], 4) := by
  rw [tkf, if_neg (by omega), if_pos (by omega)]
theorem tkf_long {l : List UInt8} {d : Nat} (h1 : 1 ≤ d) (h8 : d ≤ 8) (h : d ≤ l.length) : tkf l (d : Int) = (be (l.take d), l.drop d, 0) := by
  rw [tkf, if_neg (by omega), if_neg (by omega)]; simp

theorem be_take (s : ByteArray) (j : Nat) (h : j < s.size) : be (s.data.toList.take (j + 1)) = 256 * be (s.data.toList.take j) + s[j].toNat := by
  rw [List.take_succ_eq_append_getElem (by simpa using h), be_snoc]; rfl
theorem be_take_lt (l : List UInt8) (j : Nat) (h : j ≤ 7) : be (l.take j) < 72057594037927936 := by
  have h1 := be_lt (l.take j)
  have h2 : (256 : Nat) ^ (l.take j).length ≤ 256 ^ 7 := Nat.pow_le_pow_right (by omega) (by rw [List.length_take]; omega)
  have : (256 : Nat) ^ 7 = 72057594037927936 := by decide
  omega
theorem or_byte (x : Nat) (h : x < 72057594037927936) (c : UInt8) : bits .or .u64 ((x : Int) * 256) (c.toNat : Int) = ((256 * x + c.toNat : Nat) : Int) := by
  have hc := c.toNat_lt
  have := u64_or_nat (x * 256) c.toNat (by omega) (by omega)
  rw [nat_join 8 (x * 256) c.toNat (by omega) hc] at this
  have e : ((x * 256 : Nat) : Int) = (x : Int) * 256 := by omega
  rw [e] at this
  rw [this, Nat.mul_comm]

set_option maxHeartbeats 800000 in
set_option maxRecDepth 100000 in
theorem takeFixed_any (s : ByteArray) (hs : s.size ≤ maxLen) (k : Int) (w : World) :
    Calls Try.prog 24 #[.string s, .int .i64 k] w fun e w' => e = .returned (.tuple #[.int .u64 ((tkf s.data.toList k).1 : Nat), .string ⟨(tkf s.data.toList k).2.1.toArray⟩, .int .i64 ((tkf s.data.toList k).2.2 : Nat)]) ∧ Below w.heap.size w w' := by
  by_cases h : 1 ≤ k ∧ k ≤ 8
  · obtain ⟨d, rfl⟩ : ∃ d : Nat, k = d := ⟨k.toNat, by omega⟩
    have W := wide_yes h.1 h.2
    by_cases hl : s.size < d
    · have R := Lib.hid (tkf_short (l := s.data.toList) (d := d) (by omega) (by omega) (by simpa using hl))
      have c := fun w => cuti_any s hs d (by omega) w
      rw [cut_short (by simpa using hl)] at c
      have C := Lib.hid c
      clear c h hl
      go_enter Try.func24, Try.ntmps24
      go_wp2_with (first | (go_at_call 41; refine (isWidth_any _ _).mono ?_; rintro e w' ⟨rfl, rfl⟩) | (go_at_call 47; refine (C.out _).mono ?_; rintro e w' ⟨rfl, hb⟩))
      go_ret3
      exact ⟨by rw [R.out]; rfl, hb⟩
    · have R := Lib.hid (tkf_long (l := s.data.toList) (d := d) (by omega) (by omega) (by simp; omega))
      have c := fun w => cuti_any s hs d (by omega) w
      rw [cut_long (by simp; omega)] at c
      have hts : (⟨(s.data.toList.take d).toArray⟩ : ByteArray).size = d := by
        show (s.data.toList.take d).toArray.size = d
        simp; omega
      have htl : (⟨(s.data.toList.take d).toArray⟩ : ByteArray).data.toList = s.data.toList.take d := by simp
      rw [← htl] at R
      simp only at c
      generalize (⟨(s.data.toList.take d).toArray⟩ : ByteArray) = t at *
      have C := Lib.hid c
      have HT := Lib.hid htl
      have HS := Lib.hid hts
      have d8 : d ≤ 8 := by omega
      clear c h hl htl
      unfold maxLen at hs
      have hts' : (t.size : Int) = (d : Int) := by omega
      clear hts
      go_enter Try.func24, Try.ntmps24
      go_wp2_with (first | (go_at_call 41; refine (isWidth_any _ _).mono ?_; rintro e w' ⟨rfl, rfl⟩) | (go_at_call 47; refine (C.out _).mono ?_; rintro e w' ⟨rfl, hb⟩))
      have H0 := Lib.hid (show be (t.data.toList.take 0) = 0 from rfl)
      go_loop [10, 11, 27] (fun n _ i => ∃ j : Nat, j ≤ d ∧ i = .int .i64 j ∧ n = .int .u64 (be (t.data.toList.take j) : Nat)) (fun _ _ i => d - (intOf i).toNat)
      case atStart => exact ⟨0, by omega, rfl, by rw [H0.out]; rfl⟩
      case round =>
        obtain ⟨j, hj, rfl, rfl⟩ := hrel
        clear H0
        by_cases hlt : j < d
        · have ht : j < t.size := by have := HS.out; omega
          have j0 : (0 : Int) ≤ (j : Int) := by omega
          have j1 : (j : Int) < (t.size : Int) := by omega
          have j2 : (j : Int) < (d : Int) := by omega
          have HX := Lib.hid (be_take t j ht)
          have hx := be_take_lt t.data.toList j (by omega)
          generalize be (t.data.toList.take j) = x at *
          have ho := or_byte x hx t[j]
          have hb := t[j].toNat_lt
          rw [← HX.out] at ho
          have hx' : (x : Int) * 256 ≤ 18446744073709551615 := by omega
          go_wp2_with fail
          go_round
          case rel => exact ⟨j + 1, by omega, by go_num, rfl⟩
          case measure => simp [intOf]; omega
        · obtain rfl : j = d := by omega
          have HA := Lib.hid (show t.data.toList.take j = t.data.toList by rw [List.take_of_length_le]; rw [HT.out, List.length_take]; omega)
          rw [HA.out]
          go_wp2_with fail
          go_ret3
          exact ⟨by rw [R.out]; rfl, hb⟩
  · have W := wide_no (k := k) (by omega)
    have R := Lib.hid (tkf_no (l := s.data.toList) (k := k) (by omega))
    clear h
    go_enter Try.func24, Try.ntmps24
    go_wp2_with (go_at_call 41; refine (isWidth_any _ _).mono ?_; rintro e w' ⟨rfl, rfl⟩)
    go_ret3
    exact ⟨by rw [R.out]; rfl, Below.refl _ _⟩

set_option maxHeartbeats 800000 in
set_option maxRecDepth 100000 in
theorem rtakeFixed_any (s : ByteArray) (hs : s.size ≤ maxLen) (k : Int) (w : World) :
    Calls Try.prog 15 #[.string s, .int .i64 k] w fun e w' => e = .returned (.tuple #[.int .u64 ((tkf s.data.toList k).1 : Nat), .string ⟨(tkf s.data.toList k).2.1.toArray⟩, .int .i64 ((tkf s.data.toList k).2.2 : Nat)]) ∧ Below w.heap.size w w' := by
  unfold maxLen at hs
  by_cases h1 : 1 ≤ k
  · by_cases h8 : k ≤ 8
    · obtain ⟨d, rfl⟩ : ∃ d : Nat, k = d := ⟨k.toNat, by omega⟩
      have d1 : ¬ (d : Int) < 1 := by omega
      have d2 : decide ((8 : Int) < (d : Int)) = false := by simp; omega
      have d3 : ¬ (8 : Int) < (d : Int) := by omega
      by_cases hl : s.size < d
      · have R := Lib.hid (tkf_short (l := s.data.toList) (d := d) (by omega) (by omega) (by simpa using hl))
        have hl' : (s.size : Int) < (d : Int) := by omega
        go_enter Try.func15, Try.ntmps15
        go_wp2_with fail
        go_ret3
        exact ⟨by rw [R.out]; rfl, Below.refl _ _⟩
      · have R := Lib.hid (tkf_long (l := s.data.toList) (d := d) (by omega) (by omega) (by simp; omega))
        have hl' : ¬ (s.size : Int) < (d : Int) := by omega
        have hl2 : (d : Int) ≤ (s.size : Int) := by omega
        have dd0 : (0 : Int) ≤ (d : Int) := by omega
        have E : Hid (Ending.returned (.tuple #[.int .u64 (be (s.data.toList.take d) : Nat), .string (s.extract d s.size), .int .i64 0]) = .returned (.tuple #[.int .u64 ((tkf s.data.toList (d : Int)).1 : Nat), .string ⟨(tkf s.data.toList (d : Int)).2.1.toArray⟩, .int .i64 ((tkf s.data.toList (d : Int)).2.2 : Nat)])) := Lib.hid (by
          rw [R.out, back_of]; rfl)
        clear R
        go_enter Try.func15, Try.ntmps15
        go_wp2_with fail
        have H0 := Lib.hid (show be (s.data.toList.take 0) = 0 from rfl)
        go_loop [7, 8] (fun n i => ∃ j : Nat, j ≤ d ∧ i = .int .i64 j ∧ n = .int .u64 (be (s.data.toList.take j) : Nat)) (fun _ i => d - (intOf i).toNat)
        case atStart => exact ⟨0, by omega, rfl, by rw [H0.out]; rfl⟩
        case round =>
          obtain ⟨j, hj, rfl, rfl⟩ := hrel
          clear H0
          by_cases hlt : j < d
          · have ht : j < s.size := by omega
            have j0 : (0 : Int) ≤ (j : Int) := by omega
            have j1 : (j : Int) < (s.size : Int) := by omega
            have j2 : (j : Int) < (d : Int) := by omega
            have HX := Lib.hid (be_take s j ht)
            have hx := be_take_lt s.data.toList j (by omega)
            generalize be (s.data.toList.take j) = x at *
            have hb := s[j].toNat_lt
            go_wp2_with fail
            go_round
            case rel => exact ⟨j + 1, by omega, by go_num, by rw [HX.out]; go_num⟩
            case measure => simp [intOf]; omega
          · obtain rfl : j = d := by omega
            go_wp2_with fail
            go_quiet (fail)
            go_wp2_with fail
            go_ret3
            exact ⟨E.out, below_drewN (Below.refl _ _) _⟩
    · have R := Lib.hid (tkf_no (l := s.data.toList) (k := k) (by omega))
      have d1 : decide (k < 1) = false := by simp; omega
      have d2 : (8 : Int) < k := by omega
      go_enter Try.func15, Try.ntmps15
      go_wp2_with fail
      go_ret3
      exact ⟨by rw [R.out]; rfl, Below.refl _ _⟩
  · have R := Lib.hid (tkf_no (l := s.data.toList) (k := k) (by omega))
    have d1 : k < 1 := by omega
    go_enter Try.func15, Try.ntmps15
    go_wp2_with fail
    go_ret3
    exact ⟨by rw [R.out]; rfl, Below.refl _ _⟩
end Go.Proofs.Ytalfmkgcelipdaa
