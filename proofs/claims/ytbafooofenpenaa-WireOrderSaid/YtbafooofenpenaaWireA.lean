/- An int as a number, and back: contracts of wire.Sign, wire.Signed and the document's own. -/
import Derived.Test.YtbafooofenpenaaKit
import Derived.Test.YtbafooofenpenaaPureWire
namespace Go.Proofs.Ytbafooofenpenaa
open Go.RowKit Wire

theorem wf_u64 {n : Int} (h : (Lit.int .u64 n).wf = true) : ∃ k : Nat, n = k ∧ k < 18446744073709551616 := by
  have := bounds_u64 h
  exact ⟨n.toNat, by omega, by omega⟩

theorem ret_int {k : IntKind} {a b : Int} (h : a = b) : Ending.returned (.int k a) = .returned (.int k b) := by rw [h]

theorem i64_not (k : Int) (h1 : -9223372036854775808 ≤ k) (h2 : k ≤ 9223372036854775807) : bits .xor .i64 (-1) k = -k - 1 := by
  show IntKind.i64.wrap ((BitVec.ofInt 64 (-1) ^^^ BitVec.ofInt 64 k).toNat : Int) = _
  have e : BitVec.ofInt 64 (-1) ^^^ BitVec.ofInt 64 k = ~~~ BitVec.ofInt 64 k := BitVec.allOnes_xor
  rw [e, BitVec.toNat_not, BitVec.toNat_ofInt, IntKind.wrap_i64]
  omega

theorem or_one (n : Nat) (h : n < 9223372036854775808) : bits .or .u64 ((n : Int) * 2) 1 = ((2 * n + 1 : Nat) : Int) := by
  have := u64_or_nat (n * 2) 1 (by omega) (by omega)
  rw [nat_join 1 (n * 2) 1 (by omega) (by omega)] at this
  have e : ((n * 2 : Nat) : Int) = (n : Int) * 2 := by omega
  rw [e] at this
  rw [show (1 : Int) = ((1 : Nat) : Int) from rfl, this]
  omega

theorem and_one (n : Nat) (h : n < 18446744073709551616) : bits .and .u64 (n : Int) 1 = ((n % 2 : Nat) : Int) := by
  have := u64_and_nat n 1 h (by omega)
  rw [show (1 : Int) = ((1 : Nat) : Int) from rfl, this, Nat.and_one_is_mod]

theorem sign_any (k : Int) (h1 : -9223372036854775808 ≤ k) (h2 : k ≤ 9223372036854775807) (w : World) :
    Calls Try.prog 19 #[.int .i64 k] w fun e w' => e = .returned (.int .u64 (sg k : Nat)) ∧ w = w' := by
  by_cases h : k < 0
  · obtain ⟨n, rfl⟩ : ∃ n : Nat, k = -(n : Int) - 1 := ⟨(-k - 1).toNat, by omega⟩
    have b := i64_not (-(n : Int) - 1) h1 h2
    rw [show -(-(n : Int) - 1) - 1 = (n : Int) by omega] at b
    have o := or_one n (by omega)
    have n1 : (n : Int) ≤ 9223372036854775807 := by omega
    have n2 : (0 : Int) ≤ (n : Int) := by omega
    have H := Lib.hid (show bits .or .u64 (IntKind.u64.wrap (IntKind.u64.wrap (n : Int) * 2)) 1 = ((sg (-(n : Int) - 1) : Nat) : Int) by
      rw [IntWalk.u64_in (n : Int) (by omega), IntWalk.u64_in ((n : Int) * 2) (by omega), o]; unfold sg; rw [if_pos h]; omega)
    clear o
    go_enter Try.func19, Try.ntmps19
    go_wp2
    go_ret
    exact ⟨ret_int H.out, rfl⟩
  · have H := Lib.hid (show k * 2 = ((sg k : Nat) : Int) by unfold sg; rw [if_neg h]; omega)
    go_enter Try.func19, Try.ntmps19
    go_wp2
    go_ret
    exact ⟨ret_int H.out, rfl⟩

theorem rsign_any (k : Int) (h1 : -9223372036854775808 ≤ k) (h2 : k ≤ 9223372036854775807) (w : World) :
    Calls Try.prog 20 #[.int .i64 k] w fun e w' => e = .returned (.int .u64 (sg k : Nat)) ∧ w = w' := by
  by_cases h : k < 0
  · have H := Lib.hid (show IntKind.u64.wrap (IntKind.u64.wrap (2 * IntKind.u64.wrap (-IntKind.u64.wrap k)) - 1) = ((sg k : Nat) : Int) by
      rw [IntKind.wrap_u64, IntKind.wrap_u64, IntKind.wrap_u64, IntKind.wrap_u64]; unfold sg; rw [if_pos h]; omega)
    have h' : decide (0 ≤ k) = false := by simpa using h
    go_enter Try.func20, Try.ntmps20
    go_wp2
    go_ret
    exact ⟨ret_int H.out, rfl⟩
  · have H := Lib.hid (show 2 * k = ((sg k : Nat) : Int) by unfold sg; rw [if_neg h]; omega)
    go_enter Try.func20, Try.ntmps20
    go_wp2
    go_ret
    exact ⟨ret_int H.out, rfl⟩

theorem signed_any (n : Nat) (hn : n < 18446744073709551616) (w : World) :
    Calls Try.prog 21 #[.int .u64 (n : Nat)] w fun e w' => e = .returned (.int .i64 (sd n)) ∧ w = w' := by
  have a := and_one n hn
  have b := i64_not ((n : Int) / 2) (by omega) (by omega)
  by_cases h : n % 2 = 1
  · rw [h] at a
    have H := Lib.hid (show -((n : Int) / 2) - 1 = sd n by unfold sd; rw [if_pos h]; omega)
    go_enter Try.func21, Try.ntmps21
    go_wp2
    all_goals go_ret
    all_goals exact ⟨ret_int H.out, rfl⟩
  · rw [show n % 2 = 0 by omega] at a
    have H := Lib.hid (show (n : Int) / 2 = sd n by unfold sd; rw [if_neg h]; omega)
    go_enter Try.func21, Try.ntmps21
    go_wp2
    all_goals go_ret
    all_goals exact ⟨ret_int H.out, rfl⟩

theorem rsigned_any (n : Nat) (hn : n < 18446744073709551616) (w : World) :
    Calls Try.prog 22 #[.int .u64 (n : Nat)] w fun e w' => e = .returned (.int .i64 (sd n)) ∧ w = w' := by
  by_cases h : n % 2 = 1
  · have H := Lib.hid (show -1 - (n : Int) / 2 = sd n by unfold sd; rw [if_pos h]; omega)
    have c : ((n : Int) % 2 == 0) = false := by rw [beq_eq_false_iff_ne]; omega
    go_enter Try.func22, Try.ntmps22
    go_wp2
    all_goals go_ret
    all_goals exact ⟨ret_int H.out, rfl⟩
  · have H := Lib.hid (show (n : Int) / 2 = sd n by unfold sd; rw [if_neg h]; omega)
    have c : ((n : Int) % 2 == 0) = true := by rw [beq_iff_eq]; omega
    go_enter Try.func22, Try.ntmps22
    go_wp2
    all_goals go_ret
    all_goals exact ⟨ret_int H.out, rfl⟩

end Go.Proofs.Ytbafooofenpenaa
