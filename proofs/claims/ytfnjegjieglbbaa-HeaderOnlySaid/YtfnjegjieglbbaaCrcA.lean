/- The sum of 32 bits: what crc's functions return, whatever the sum and the bytes, each as the plain function of PureCrc: contracts of halve, the closure of Add, Add, Start, End, Of. -/
import Derived.Test.YtfnjegjieglbbaaBase
import Derived.Test.YtfnjegjieglbbaaPureCrc
namespace Go.Proofs.Ytfnjegjieglbbaa
open Go.RowKit Crc

theorem u32_odd (n : Nat) (hn : n < 4294967296) (h : n % 2 = 1) : (bits BinOp.and IntKind.u32 (n : Int) 1 == 1) = true := by
  have := u32_and_nat n 1 hn (by omega)
  simp only [Int.cast_ofNat_Int] at this
  rw [this, nat_mask1, h]; rfl

theorem u32_even (n : Nat) (hn : n < 4294967296) (h : ¬ n % 2 = 1) : (bits BinOp.and IntKind.u32 (n : Int) 1 == 1) = false := by
  have := u32_and_nat n 1 hn (by omega)
  simp only [Int.cast_ofNat_Int] at this
  rw [this, nat_mask1, show n % 2 = 0 from by omega]; rfl

theorem u32_half_turned (n : Nat) (hn : n < 4294967296) : bits BinOp.xor IntKind.u32 ((n : Int) / 2) 3988292384 = ((n / 2 ^^^ 3988292384 : Nat) : Int) := by
  have := u32_xor_nat (n / 2) 3988292384 (by omega) (by omega)
  simpa using this

theorem halve_any (n : Nat) (hn : n < 4294967296) (w : World) :
    Calls Try.prog 53 #[.int .u32 n] w fun e w' => e = .returned (.int .u32 (hv n : Nat)) ∧ w = w' := by
  by_cases h : n % 2 = 1
  · have h1 := u32_odd n hn h
    have h2 := Lib.hid (u32_half_turned n hn)
    have h3 := Lib.hid (show hv n = n / 2 ^^^ 3988292384 from if_pos h)
    clear h
    go_enter Try.func53, Try.ntmps53
    go_wp2
    go_ret
    exact ⟨by rw [h3.out, ← h2.out]; rfl, rfl⟩
  · have h1 := u32_even n hn h
    have h3 := Lib.hid (show hv n = n / 2 from if_neg h)
    clear h
    go_enter Try.func53, Try.ntmps53
    go_wp2
    go_ret
    exact ⟨by rw [h3.out]; rfl, rfl⟩

theorem u32_xor_byte (n : Nat) (hn : n < 4294967296) (c : UInt8) : bits BinOp.xor IntKind.u32 (n : Int) (c.toNat : Int) = ((n ^^^ c.toNat : Nat) : Int) :=
  u32_xor_nat n c.toNat hn (byte_lt c)

set_option maxRecDepth 100000 in
theorem step_any (n : Nat) (hn : n < 4294967296) (c : UInt8) (w : World) :
    Calls Try.prog 52 #[.int .u8 c.toNat, .pointer (some ⟨w.heap.size, 0, none⟩)] (w.alloc (.cells #[.int .u32 n] 42)) fun e w' =>
      e = .returned (.tuple #[]) ∧ w.alloc (.cells #[.int .u32 (ad n c)] 42) = w' := by
  have hx := u32_xor_byte n hn c
  have hc := c.toNat_lt
  go_enter Try.func52, Try.ntmps52
  go_wp2_with fail
  clear hx
  have hX := Lib.hid (show hvs 0 (n ^^^ c.toNat) = n ^^^ c.toNat from rfl)
  have hL := fun k => hvs_lt k (xor_lt hn (byte_lt c))
  have hS := fun k => Lib.hid (show hvs (k + 1) (n ^^^ c.toNat) = hv (hvs k (n ^^^ c.toNat)) from rfl)
  have hE := Lib.hid (show ad n c = hvs 8 (n ^^^ c.toNat) from rfl)
  generalize n ^^^ c.toNat = m at *
  go_loopw [7] (fun i wr => ∃ k : Nat, k ≤ 8 ∧ i = .int .i64 k ∧ wr = w.alloc (.cells #[.int .u32 (hvs k m : Nat)] 42)) (fun i _ => 8 - (intOf i).toNat)
  case atStart => exact ⟨0, by omega, rfl, by rw [hX.out]⟩
  case round =>
    obtain ⟨k, hk, rfl, rfl⟩ := hrel
    have hk' := hL k
    by_cases hlt : k < 8
    · go_wp2_with (go_at_call 53; refine (halve_any _ hk' _).mono ?_; rintro e w' ⟨rfl, rfl⟩)
      go_roundw
      case rel => exact ⟨k + 1, by omega, by go_num, by rw [(hS k).out]⟩
      case measure => simp [intOf]; omega
    · obtain rfl : k = 8 := by omega
      go_wp2
      go_end0
      exact ⟨rfl, by rw [hE.out]⟩

set_option maxRecDepth 100000 in
theorem add_any (n : Nat) (hn : n < 4294967296) (s : ByteArray) (hs : s.size ≤ maxLen) (w : World) :
    Calls Try.prog 42 #[.int .u32 n, .string s] w fun e w' =>
      e = .returned (.int .u32 (adds n s.data.toList : Nat)) ∧ w.alloc (.cells #[.int .u32 (adds n s.data.toList : Nat)] 42) = w' := by
  unfold maxLen at hs
  have hmf : ∀ (fn : Fn) (first cap : Array Value) (w : World), (Instr.makeFunc fn first cap).run Try.prog w = .ok (.func fn first cap) w := fun _ _ _ _ => rfl
  go_enter Try.func42, Try.ntmps42
  go_wp2_with fail
  have hE := Lib.hid (show adds n s.data.toList = adds n (s.data.toList.take s.size) from by rw [List.take_of_length_le (by simp)])
  have hZ := Lib.hid (show adds n (s.data.toList.take 0) = n from rfl)
  have hL := fun k => adds_lt (s.data.toList.take k) hn
  clear hn
  go_loopw [10] (fun i wr => ∃ k : Nat, k ≤ s.size ∧ i = .int .i64 k ∧ wr = w.alloc (.cells #[.int .u32 (adds n (s.data.toList.take k) : Nat)] 42)) (fun i _ => s.size - (intOf i).toNat)
  case atStart => exact ⟨0, by omega, rfl, by rw [hZ.out]⟩
  case round =>
    obtain ⟨k, hk, rfl, rfl⟩ := hrel
    have hk' := hL k
    by_cases hlt : k < s.size
    · have hS := Lib.hid (adds_take_succ n s.data.toList k (by simpa using hlt))
      go_wp2_with (go_at_call 52; refine (step_any _ hk' _ _).mono ?_; rintro e w' ⟨rfl, rfl⟩)
      go_roundw
      case rel => exact ⟨k + 1, by omega, by go_num, by rw [hS.out]; rfl⟩
      case measure => simp [intOf]; omega
    · obtain rfl : k = s.size := by omega
      go_wp2
      go_ret
      exact ⟨by rw [hE.out]; rfl, by rw [hE.out]⟩

theorem start_any (w : World) : Calls Try.prog 43 #[] w fun e w' => e = .returned (.int .u32 4294967295) ∧ w = w' := by
  go_enter Try.func43, Try.ntmps43
  go_wp2
  go_ret
  exact ⟨rfl, rfl⟩

theorem u32_not (n : Nat) (hn : n < 4294967296) : bits BinOp.xor IntKind.u32 IntKind.u32.max (n : Int) = ((n ^^^ 4294967295 : Nat) : Int) := by
  have := u32_xor_nat 4294967295 n (by omega) hn
  rw [Nat.xor_comm] at this
  rw [← this]; rfl

theorem end_any (n : Nat) (hn : n < 4294967296) (w : World) : Calls Try.prog 41 #[.int .u32 n] w fun e w' => e = .returned (.int .u32 (n ^^^ 4294967295 : Nat)) ∧ w = w' := by
  have h1 := u32_not n hn
  have h2 : ¬ IntKind.u32.signed = true := by decide
  go_enter Try.func41, Try.ntmps41
  go_wp2
  go_ret
  exact ⟨rfl, rfl⟩

theorem of_any (s : ByteArray) (hs : s.size ≤ maxLen) (w : World) :
    Calls Try.prog 35 #[.string s] w fun e w' =>
      e = .returned (.int .u32 (sumOf s.data.toList : Nat)) ∧ w.alloc (.cells #[.int .u32 (adds 4294967295 s.data.toList : Nat)] 42) = w' := by
  go_enter Try.func35, Try.ntmps35
  go_wp2_with fail
  refine (start_any _).mono ?_; rintro e w' ⟨rfl, rfl⟩
  go_wp2_with fail
  refine (add_any 4294967295 (by omega) s hs _).mono ?_; rintro e w' ⟨rfl, rfl⟩
  go_wp2_with fail
  refine (end_any _ (adds_lt _ (by omega)) _).mono ?_; rintro e w' ⟨rfl, rfl⟩
  go_wp2_with fail
  go_ret
  exact ⟨rfl, rfl⟩

end Go.Proofs.Ytfnjegjieglbbaa
