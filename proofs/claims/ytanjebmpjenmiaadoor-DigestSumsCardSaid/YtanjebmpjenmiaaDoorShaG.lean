/- The padding: contract of digest.padding. -/
import Derived.Test.YtanjebmpjenmiaaDoorShaF
import Derived.Test.YtanjebmpjenmiaaDoorBytes
namespace Go.Proofs.YtanjebmpjenmiaaDoor
open Go.RowKit Word

attribute [local go_sem ↓] shl_nat shr_nat shl_lit shr_lit
attribute [local go_sem] wrap_add bits_xor bits_and bits_or wrap_less bits_not wrap_byte wrap_bt

theorem to_b8 (n : Nat) : IntKind.u8.wrap (n : Int) = (((UInt8.ofNat n).toNat : Nat) : Int) := by
  rw [IntKind.wrap_u8', UInt8.toNat_ofNat']; omega

def r64 (a k : Nat) : Nat := a / 2 ^ min k 64

theorem shr64_nat (a k : Nat) (yk : IntKind) : Op.shift .shr .u64 (a : Int) yk (k : Int) = pure (.int .u64 ((r64 a k : Nat) : Int)) := by
  have h : ¬ ((k : Int) < 0) := by omega
  have hp : (0 : Int) ≤ 2 ^ min k 64 := Int.le_of_lt (Int.pow_pos (by decide))
  have e : (a : Int).fdiv (2 ^ min k 64) = ((r64 a k : Nat) : Int) := by
    rw [Int.fdiv_eq_ediv_of_nonneg _ hp]; unfold r64
    simp
  simp [Op.shift, h, IntKind.bits, e]

/-- How many bytes 0 are needed. -/
def gap (len : Nat) : Nat := (119 - len % 64) % 64

/-- What is added at the end, with the first k of the eight bytes of the number of bits. -/
def padl (len n k : Nat) : List UInt8 := 128 :: List.replicate (gap len) 0 ++ (List.range k).map fun i => UInt8.ofNat (r64 (n * 8 % 18446744073709551616) (56 - 8 * i))

theorem padl_succ (len n k : Nat) : padl len n (k + 1) = padl len n k ++ [UInt8.ofNat (r64 (n * 8 % 18446744073709551616) (56 - 8 * k))] := by
  simp [padl, List.range_succ]

theorem padl_length (len n k : Nat) : (padl len n k).length = 1 + gap len + k := by simp [padl]; omega

theorem padl_zero (len n : Nat) : (bys (List.replicate (gap len + 9) 0)).set 0 (.int .u8 128) = bys (padl len n 0 ++ List.replicate 8 0) := by
  have e : List.replicate (gap len + 9) (0 : UInt8) = 0 :: (List.replicate (gap len) 0 ++ List.replicate 8 0) := by
    rw [List.replicate_append_replicate, show gap len + 9 = (gap len + 8) + 1 by omega, List.replicate_succ]
  rw [e]
  simp [bys, padl]

theorem has_one (w : World) (x : Nat) : Has (w.alloc (.cells #[.int .u8 ((x : Int) % 256)] 5)) w.heap.size 5 (bys [UInt8.ofNat x]) := by
  have : bys [UInt8.ofNat x] = [.int .u8 ((x : Int) % 256)] := by simp [bys]
  rw [this]
  exact Has.make w _ _

attribute [local go_sem ↓] shr64_nat
attribute [local go_sem] to_b8

set_option maxHeartbeats 800000 in
set_option maxRecDepth 100000 in
theorem dpad_any (s : St) (w : World) (hsz : s.rest.size ≤ 1000000) : Calls Tryd.prog 18 #[.agg s.cells.toArray] w fun e w' => e = .returned (.string ⟨(padl s.rest.size s.n 8).toArray⟩) ∧ Below w.heap.size w w' := by
  have h8 := s.cell8
  have h9 := s.cell9
  have z1 : (119 - (s.rest.size : Int) % 64) % 64 = ((gap s.rest.size : Nat) : Int) := by unfold gap; omega
  have z2 : (119 - (s.rest.size : Int)) % 64 = ((gap s.rest.size : Nat) : Int) := by unfold gap; omega
  have z3 : gap s.rest.size < 64 := by unfold gap; omega
  have m1 : ∀ w : World, (Instr.makeSlice 42 (.int .i64 (1 + (gap s.rest.size : Int))) (.int .i64 (1 + (gap s.rest.size : Int) + 8))).run Tryd.prog w = .ok (.slice (some ⟨w.heap.size, 0, none⟩) (gap s.rest.size + 1) (gap s.rest.size + 9)) (w.alloc (.cells (bys (List.replicate (gap s.rest.size + 9) 0)).toArray 5)) := by
    intro w
    have := run_make_bys (gap s.rest.size + 1) (gap s.rest.size + 9) (by omega) (by omega) w
    rw [← this]
    congr 3 <;> omega
  have m2 : (bys (List.replicate (gap s.rest.size + 9) 0))[0]? = some (.int .u8 0) := by simp [bys]
  have HP := Lib.hid (padl_zero s.rest.size s.n)
  go_enter Tryd.func18, Tryd.ntmps18
  go_wp2_with fail
  rw [HP.out]
  simp only [z1]
  clear m1 m2 z1 z2 h9
  have HM := Lib.hid (show ∀ k, padl s.rest.size s.n (k + 1) = padl s.rest.size s.n k ++ [UInt8.ofNat (r64 (s.n * 8 % 18446744073709551616) (56 - 8 * k))] from padl_succ _ _)
  have HN := Lib.hid (show ∀ k, (padl s.rest.size s.n k).length = 1 + gap s.rest.size + k from padl_length _ _)
  have o0 : OwnB (w.heap.size + 1) (.slice (some ⟨w.heap.size + 1, 0, none⟩) (gap s.rest.size + 1) (gap s.rest.size + 9)) (padl s.rest.size s.n 0) ((w.alloc (Obj.cells s.cells.toArray 26)).alloc (Obj.cells (bys (padl s.rest.size s.n 0 ++ List.replicate 8 0)).toArray 5)) := by
    have := OwnB.of_block (Nat.le_refl _) (Has.make2 w (Obj.cells s.cells.toArray 26) 5 (bys (padl s.rest.size s.n 0 ++ List.replicate 8 0))) (n := gap s.rest.size + 9) (by simp [padl_length]; omega) (by omega)
    rw [padl_length, show 1 + gap s.rest.size + 0 = gap s.rest.size + 1 by omega] at this
    exact this
  have em : IntKind.u64.wrap ((s.n : Int) * 8) = ((s.n * 8 % 18446744073709551616 : Nat) : Int) := by rw [IntKind.wrap_u64]; omega
  have HO := Lib.hid o0
  clear o0
  generalize s.n * 8 % 18446744073709551616 = m at *
  generalize hP : padl s.rest.size s.n = P at *
  have HPP := Lib.hid hP
  clear hP
  go_loopw [4, 5] (fun p i wr => ∃ k : Nat, k ≤ 8 ∧ i = .int .i64 (56 - 8 * (k : Int)) ∧ OwnB (w.heap.size + 1) p (P k) wr ∧ Has wr w.heap.size 26 s.cells ∧ Below w.heap.size w wr) (fun _ i _ => (intOf i + 8).toNat)
  case atStart => exact ⟨0, by omega, rfl, HO.out, (Has.make w _ _).alloc _, up_alloc (up_alloc (Below.refl _ _) _) _⟩
  case round =>
    clear HO HP
    obtain ⟨k, hk, rfl, hO, hA, hb⟩ := hrel
    by_cases hlt : k < 8
    · have q1 : (0 : Int) ≤ 56 - 8 * (k : Int) := by omega
      have q2 : 56 - 8 * (k : Int) = ((56 - 8 * k : Nat) : Int) := by omega
      have q3 : ((56 - 8 * k : Nat) : Int) ≤ 56 := by omega
      have c8 := hA.at s.cell8
      have HO := Lib.hid hO
      have HA := Lib.hid hA
      have HB := Lib.hid hb
      have HK := Lib.hid (HM.out k)
      have HL := Lib.hid (HN.out k)
      have HZ := Lib.hid hb.size
      clear hO hA hb h8
      go_wp2_with (at_builtin; refine wpList_push rfl (.tmp 24) (.tmp 31) rfl (w.heap.size + 1) _ (P k) (by rfl) (HO.out.alloc _) wr.heap.size 1 [UInt8.ofNat (r64 m (56 - 8 * k))] (by rfl) (has_one wr _) rfl (by omega) (by rw [HL.out]; omega) (by have := HA.out.lt; simp; omega) ?_; intro v' w' hO' hB')
      rw [← HK.out] at hO'
      go_roundw
      case rel =>
        exact ⟨k + 1, by omega, by rw [← q2]; congr 1; omega, hO', (HA.out.alloc _).below hB' (by omega), (up_alloc HB.out _).trans (hB'.mono (by omega))⟩
      case measure => simp [intOf]; omega
    · obtain rfl : k = 8 := by omega
      have ht := hO.text
      have HB := Lib.hid hb
      clear hO hA hb h8
      go_wp2_with fail
      go_ret
      exact ⟨by rw [HPP.out]; rfl, HB.out⟩
end Go.Proofs.YtanjebmpjenmiaaDoor
