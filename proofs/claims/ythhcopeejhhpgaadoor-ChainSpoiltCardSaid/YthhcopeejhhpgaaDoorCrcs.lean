/- The sum of 32 bits: what crc's functions return, whatever the sum and the bytes, each as the plain function of PureCrc: contracts of halve, the closure of Add, Add, Start, End, Of. -/
import Derived.Test.YthhcopeejhhpgaaDoorBase
import Derived.Test.YthhcopeejhhpgaaDoorPureCrc
namespace Go.Proofs.YthhcopeejhhpgaaDoor
open Go.RowKit Crc

theorem u32_odd (n : Nat) (hn : n < 4294967296) (h : n % 2 = 1) : (bits BinOp.and IntKind.u32 (n : Int) 1 == 1) = true := by
  have := u32_and_nat n 1 hn (by omega)
  simp only [Int.cast_ofNat_Int] at this
  rw [this, nat_mask1, h]; rfl

theorem u32_even (n : Nat) (hn : n < 4294967296) (h : ¬ n % 2 = 1) : (bits BinOp.and IntKind.u32 (n : Int) 1 == 1) = false := by
  have := u32_and_nat n 1 hn (by omega)
  simp only [Int.cast_ofNat_Int] at this
  rw [this, nat_mask1, show n % 2 = 0 from by omega]; rfl

theorem u32_half_turned (n : Nat) (hn : n < 4294967296) : bits BinOp.xor IntKind.u32 ((n : Int) / 2) 3988292384 = ((n / 2 ^^^ 3988292384 : Nat) : Int) := by
  have := u32_xor_nat (n / 2) 3988292384 (by omega) (by omega)
  simpa using this

theorem halve_any (n : Nat) (hn : n < 4294967296) (w : World) :
    Calls Tryd.prog 82 #[.int .u32 n] w fun e w' => e = .returned (.int .u32 (hv n : Nat)) ∧ w = w' := by
  by_cases h : n % 2 = 1
  · have h1 := u32_odd n hn h
    have h2 := Lib.hid (u32_half_turned n hn)
    have h3 := Lib.hid (show hv n = n / 2 ^^^ 3988292384 from if_pos h)
    clear h
    go_enter Tryd.func82, Tryd.ntmps82
    go_wp2
    go_ret
    exact ⟨by rw [h3.out, ← h2.out]; rfl, rfl⟩
  · have h1 := u32_even n hn h
    have h3 := Lib.hid (show hv n = n / 2 from if_neg h)
    clear h
    go_enter Tryd.func82, Tryd.ntmps82
    go_wp2
    go_ret
    exact ⟨by rw [h3.out]; rfl, rfl⟩

theorem u32_xor_byte (n : Nat) (hn : n < 4294967296) (c : UInt8) : bits BinOp.xor IntKind.u32 (n : Int) (c.toNat : Int) = ((n ^^^ c.toNat : Nat) : Int) :=
  u32_xor_nat n c.toNat hn (byte_lt c)

set_option maxRecDepth 100000 in
theorem step_any (n : Nat) (hn : n < 4294967296) (c : UInt8) (w : World) :
    Calls Tryd.prog 81 #[.int .u8 c.toNat, .pointer (some ⟨w.heap.size, 0, none⟩)] (w.alloc (.cells #[.int .u32 n] 65)) fun e w' =>
      e = .returned (.tuple #[]) ∧ w.alloc (.cells #[.int .u32 (ad n c)] 65) = w' := by
  have hx := u32_xor_byte n hn c
  have hc := c.toNat_lt
  go_enter Tryd.func81, Tryd.ntmps81
  go_wp2_with fail
  clear hx
  have hX := Lib.hid (show hvs 0 (n ^^^ c.toNat) = n ^^^ c.toNat from rfl)
  have hL := fun k => hvs_lt k (xor_lt hn (byte_lt c))
  have hS := fun k => Lib.hid (show hvs (k + 1) (n ^^^ c.toNat) = hv (hvs k (n ^^^ c.toNat)) from rfl)
  have hE := Lib.hid (show ad n c = hvs 8 (n ^^^ c.toNat) from rfl)
  generalize n ^^^ c.toNat = m at *
  go_loopw [7] (fun i wr => ∃ k : Nat, k ≤ 8 ∧ i = .int .i64 k ∧ wr = w.alloc (.cells #[.int .u32 (hvs k m : Nat)] 65)) (fun i _ => 8 - (intOf i).toNat)
  case atStart => exact ⟨0, by omega, rfl, by rw [hX.out]⟩
  case round =>
    obtain ⟨k, hk, rfl, rfl⟩ := hrel
    have hk' := hL k
    by_cases hlt : k < 8
    · go_wp2_with (go_at_call 82; refine (halve_any _ hk' _).mono ?_; rintro e w' ⟨rfl, rfl⟩)
      go_roundw
      case rel => exact ⟨k + 1, by omega, by go_num, by rw [(hS k).out]⟩
      case measure => simp [intOf]; omega
    · obtain rfl : k = 8 := by omega
      go_wp2
      go_end0
      exact ⟨rfl, by rw [hE.out]⟩

set_option maxRecDepth 100000 in
theorem add_any (n : Nat) (hn : n < 4294967296) (s : ByteArray) (hs : s.size ≤ maxLen) (w : World) :
    Calls Tryd.prog 66 #[.int .u32 n, .string s] w fun e w' =>
      e = .returned (.int .u32 (adds n s.data.toList : Nat)) ∧ w.alloc (.cells #[.int .u32 (adds n s.data.toList : Nat)] 65) = w' := by
  unfold maxLen at hs
  have hmf : ∀ (fn : Fn) (first cap : Array Value) (w : World), (Instr.makeFunc fn first cap).run Tryd.prog w = .ok (.func fn first cap) w := fun _ _ _ _ => rfl
  go_enter Tryd.func66, Tryd.ntmps66
  go_wp2_with fail
  have hE := Lib.hid (show adds n s.data.toList = adds n (s.data.toList.take s.size) from by rw [List.take_of_length_le (by simp)])
  have hZ := Lib.hid (show adds n (s.data.toList.take 0) = n from rfl)
  have hL := fun k => adds_lt (s.data.toList.take k) hn
  clear hn
  go_loopw [10] (fun i wr => ∃ k : Nat, k ≤ s.size ∧ i = .int .i64 k ∧ wr = w.alloc (.cells #[.int .u32 (adds n (s.data.toList.take k) : Nat)] 65)) (fun i _ => s.size - (intOf i).toNat)
  case atStart => exact ⟨0, by omega, rfl, by rw [hZ.out]⟩
  case round =>
    obtain ⟨k, hk, rfl, rfl⟩ := hrel
    have hk' := hL k
    by_cases hlt : k < s.size
    · have hS := Lib.hid (adds_take_succ n s.data.toList k (by simpa using hlt))
      go_wp2_with (go_at_call 81; refine (step_any _ hk' _ _).mono ?_; rintro e w' ⟨rfl, rfl⟩)
      go_roundw
      case rel => exact ⟨k + 1, by omega, by go_num, by rw [hS.out]; rfl⟩
      case measure => simp [intOf]; omega
    · obtain rfl : k = s.size := by omega
      go_wp2
      go_ret
      exact ⟨by rw [hE.out]; rfl, by rw [hE.out]⟩

theorem start_any (w : World) : Calls Tryd.prog 67 #[] w fun e w' => e = .returned (.int .u32 4294967295) ∧ w = w' := by
  go_enter Tryd.func67, Tryd.ntmps67
  go_wp2
  go_ret
  exact ⟨rfl, rfl⟩

theorem u32_not (n : Nat) (hn : n < 4294967296) : bits BinOp.xor IntKind.u32 IntKind.u32.max (n : Int) = ((n ^^^ 4294967295 : Nat) : Int) := by
  have := u32_xor_nat 4294967295 n (by omega) hn
  rw [Nat.xor_comm] at this
  rw [← this]; rfl

theorem end_any (n : Nat) (hn : n < 4294967296) (w : World) : Calls Tryd.prog 65 #[.int .u32 n] w fun e w' => e = .returned (.int .u32 (n ^^^ 4294967295 : Nat)) ∧ w = w' := by
  have h1 := u32_not n hn
  have h2 : ¬ IntKind.u32.signed = true := by decide
  go_enter Tryd.func65, Tryd.ntmps65
  go_wp2
  go_ret
  exact ⟨rfl, rfl⟩

theorem of_any (s : ByteArray) (hs : s.size ≤ maxLen) (w : World) :
    Calls Tryd.prog 39 #[.string s] w fun e w' =>
      e = .returned (.int .u32 (sumOf s.data.toList : Nat)) ∧ w.alloc (.cells #[.int .u32 (adds 4294967295 s.data.toList : Nat)] 65) = w' := by
  go_enter Tryd.func39, Tryd.ntmps39
  go_wp2_with fail
  refine (start_any _).mono ?_; rintro e w' ⟨rfl, rfl⟩
  go_wp2_with fail
  refine (add_any 4294967295 (by omega) s hs _).mono ?_; rintro e w' ⟨rfl, rfl⟩
  go_wp2_with fail
  refine (end_any _ (adds_lt _ (by omega)) _).mono ?_; rintro e w' ⟨rfl, rfl⟩
  go_wp2_with fail
  go_ret
  exact ⟨rfl, rfl⟩

end Go.Proofs.YthhcopeejhhpgaaDoor

/- The document's own answer for the sum of 32 bits returns the same plain functions: contracts of blackboxref01.Add and Of. -/
namespace Go.Proofs.YthhcopeejhhpgaaDoor
open Go.RowKit Crc

theorem hvs_hid (m : Nat) : Hid (hvs 0 m = m ∧ ∀ j, hvs (j + 1) m = hv (hvs j m)) := Lib.hid ⟨rfl, fun _ => rfl⟩

set_option maxRecDepth 100000 in
theorem refAdd_any (n : Nat) (hn : n < 4294967296) (s : ByteArray) (hs : s.size ≤ maxLen) (w : World) :
    Calls Tryd.prog 70 #[.int .u32 n, .string s] w fun e w' => e = .returned (.int .u32 (adds n s.data.toList : Nat)) ∧ w = w' := by
  unfold maxLen at hs
  have hE := Lib.hid (show adds n s.data.toList = adds n (s.data.toList.take s.size) from by rw [List.take_of_length_le (by simp)])
  have hZ := Lib.hid (show adds n (s.data.toList.take 0) = n from rfl)
  have hL := fun k => adds_lt (s.data.toList.take k) hn
  have h8 : ∀ (m : Nat) (c : UInt8), Hid (ad m c = hvs 8 (m ^^^ c.toNat)) := fun m c => Lib.hid rfl
  have h0 : ∀ m : Nat, Hid (hvs 0 m = m) := fun m => Lib.hid rfl
  go_enter Tryd.func70, Tryd.ntmps70
  go_wp2_with fail
  go_loop [0, 5] (fun t i => ∃ k : Nat, k ≤ s.size ∧ i = .int .i64 k ∧ t = .int .u32 (adds n (s.data.toList.take k) : Nat)) (fun _ i => s.size - (intOf i).toNat)
  case atStart => exact ⟨0, by omega, rfl, by rw [hZ.out]⟩
  case round =>
    obtain ⟨k, hk, rfl, rfl⟩ := hrel
    have hk' := hL k
    by_cases hlt : k < s.size
    · have hS := Lib.hid (adds_take_succ n s.data.toList k (by simpa using hlt))
      have hx := u32_xor_byte _ hk' s[k]
      have hX := xor_lt hk' (byte_lt s[k])
      have hb := s[k].toNat_lt
      have hA := Lib.hid (show ad (adds n (s.data.toList.take k)) (s.data.toList[k]'(by simpa using hlt)) = hvs 8 (adds n (s.data.toList.take k) ^^^ s[k].toNat) from rfl)
      go_wp2_with fail
      clear hx
      have hH := hvs_hid (adds n (s.data.toList.take k) ^^^ s[k].toNat)
      have hL8 := fun j => hvs_lt j hX
      generalize adds n (s.data.toList.take k) ^^^ s[k].toNat = m at *
      go_loop [0, 6] (fun t i => ∃ j : Nat, j ≤ 8 ∧ i = .int .i64 j ∧ t = .int .u32 (hvs j m : Nat)) (fun _ i => 8 - (intOf i).toNat)
      case atStart => exact ⟨0, by omega, rfl, by rw [hH.out.1]⟩
      case round =>
        obtain ⟨j, hj, rfl, rfl⟩ := hrel
        have hj' := hL8 j
        have hSt := Lib.hid (hH.out.2 j)
        by_cases hlt8 : j < 8
        · by_cases hodd : hvs j m % 2 = 1
          · have hT := Lib.hid (show hv (hvs j m) = hvs j m / 2 ^^^ 3988292384 from if_pos hodd)
            have hx2 := u32_half_turned _ hj'
            have hodd' : ((hvs j m : Nat) : Int) % 2 = 1 := by omega
            clear hodd
            generalize hvs j m = q at *
            go_wp2_with fail
            go_round
            case rel => exact ⟨j + 1, by omega, by go_num, by rw [hSt.out, hT.out]⟩
            case measure => simp [intOf]; omega
          · have hT := Lib.hid (show hv (hvs j m) = hvs j m / 2 from if_neg hodd)
            have hodd' : ((hvs j m : Nat) : Int) % 2 = 0 := by omega
            clear hodd
            generalize hvs j m = q at *
            go_wp2_with fail
            go_round
            case rel => exact ⟨j + 1, by omega, by go_num, by rw [hSt.out, hT.out]; rfl⟩
            case measure => simp [intOf]; omega
        · obtain rfl : j = 8 := by omega
          go_wp2_with fail
          go_round
          case rel => exact ⟨k + 1, by omega, by go_num, by rw [hS.out, hA.out]⟩
          case measure => simp [intOf]; omega
    · obtain rfl : k = s.size := by omega
      go_wp2
      go_ret
      exact ⟨by rw [hE.out]; rfl, rfl⟩

theorem refOf_any (s : ByteArray) (hs : s.size ≤ maxLen) (w : World) :
    Calls Tryd.prog 46 #[.string s] w fun e w' => e = .returned (.int .u32 (sumOf s.data.toList : Nat)) ∧ w = w' := by
  have hx := Lib.hid (u32_xor_nat (adds 4294967295 s.data.toList) 4294967295 (adds_lt _ (by omega)) (by omega))
  have hE := Lib.hid (show sumOf s.data.toList = adds 4294967295 s.data.toList ^^^ 4294967295 from rfl)
  go_enter Tryd.func46, Tryd.ntmps46
  go_wp2_with fail
  refine (refAdd_any 4294967295 (by omega) s hs _).mono ?_; rintro e w' ⟨rfl, rfl⟩
  go_wp2_with fail
  go_ret
  exact ⟨by rw [hE.out, ← hx.out]; rfl, rfl⟩

end Go.Proofs.YthhcopeejhhpgaaDoor
