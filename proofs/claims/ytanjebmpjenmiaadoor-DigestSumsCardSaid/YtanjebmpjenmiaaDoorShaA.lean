/- Words turned: contracts of bits.RotateLeft32 (at a number below 0) and digest.turned. -/
import Derived.Test.YtanjebmpjenmiaaDoorWord
namespace Go.Proofs.YtanjebmpjenmiaaDoor
open Go.RowKit Word

attribute [local go_sem ↓] shl_nat shr_nat shl_lit shr_lit
attribute [local go_sem] wrap_add bits_xor bits_and bits_or wrap_less bits_not

/-- A word turned to the right. -/
def rr (n k : Nat) : Nat := o32 (l32 n (32 - k)) (r32 n k)

theorem rotl_any (n k : Nat) (h1 : 1 ≤ k) (h2 : k ≤ 31) (w : World) :
    Calls Tryd.prog 35 #[.int .u32 n, .int .i64 (-(k : Int))] w fun e w' => e = .returned (.int .u32 (rr n k : Nat)) ∧ w = w' := by
  have e1 : bits BinOp.and IntKind.u64 (IntKind.u64.wrap (-(k : Int))) 31 = ((32 - k : Nat) : Int) := by
    have e : IntKind.u64.wrap (-(k : Int)) = ((18446744073709551616 - k : Nat) : Int) := by rw [IntKind.wrap_u64]; omega
    have := u64_and_nat (18446744073709551616 - k) 31 (by omega) (by omega)
    simp only [Int.cast_ofNat_Int] at this
    rw [e, this, nat_mask5]
    omega
  have e2 : IntKind.u64.wrap (32 - ((32 - k : Nat) : Int)) = (k : Int) := by rw [IntKind.wrap_u64]; omega
  have hj := Lib.hid (show rr n k = o32 (l32 n (32 - k)) (r32 n k) from rfl)
  generalize 32 - k = j at *
  go_enter Tryd.func35, Tryd.ntmps35
  go_wp2_with fail
  go_ret
  exact ⟨by rw [hj.out]; rfl, rfl⟩

/-- A word turned by each of some numbers, bit by bit against one another. -/
def rrs (n : Nat) (l : List Nat) : Nat := l.foldl (fun s k => x32 s (rr n k)) 0

theorem rrs_take_succ (n : Nat) (l : List Nat) (k : Nat) (h : k < l.length) : rrs n (l.take (k + 1)) = x32 (rrs n (l.take k)) (rr n l[k]) := by
  unfold rrs
  rw [List.take_succ_eq_append_getElem h, List.foldl_append]; rfl

set_option maxRecDepth 100000 in
theorem turned_any (n : Nat) (l : List Nat) (hl : l.length ≤ 10) (hr : ∀ k ∈ l, 1 ≤ k ∧ k ≤ 31) (g c : Nat) (w : World)
    (hc : ∀ j (h : j < l.length), w.cell? ⟨g, j, none⟩ = some (.int .i64 (l[j] : Nat))) :
    Calls Tryd.prog 29 #[.int .u32 n, .slice (some ⟨g, 0, none⟩) l.length c] w fun e w' => e = .returned (.int .u32 (rrs n l : Nat)) ∧ w = w' := by
  have hE := Lib.hid (show rrs n l = rrs n (l.take l.length) from by rw [List.take_length])
  have hZ := Lib.hid (show rrs n (l.take 0) = 0 from rfl)
  have HC := Lib.hid hc
  clear hc
  go_enter Tryd.func29, Tryd.ntmps29
  go_wp2_with fail
  go_loop [5, 7, 10] (fun s _ i => ∃ k : Nat, k ≤ l.length ∧ i = .int .i64 k ∧ s = .int .u32 (rrs n (l.take k) : Nat)) (fun _ _ i => l.length - (intOf i).toNat)
  case atStart => exact ⟨0, by omega, rfl, by rw [hZ.out]; rfl⟩
  case round =>
    obtain ⟨k, hk, rfl, rfl⟩ := hrel
    by_cases hlt : k < l.length
    · have hS := Lib.hid (rrs_take_succ n l k hlt)
      have hcell := HC.out k hlt
      obtain ⟨h1, h2⟩ := hr l[k] (List.getElem_mem hlt)
      generalize rrs n (l.take k) = s at *
      generalize l[k] = m at *
      go_wp2_with fail
      refine (rotl_any _ m h1 h2 _).mono ?_; rintro e w' ⟨rfl, rfl⟩
      go_wp2_with fail
      go_round
      case rel => exact ⟨k + 1, by omega, by go_num, by rw [hS.out]⟩
      case measure => simp [intOf]; omega
    · obtain rfl : k = l.length := by omega
      go_wp2
      go_ret
      exact ⟨by rw [hE.out]; rfl, rfl⟩

end Go.Proofs.YtanjebmpjenmiaaDoor
