/- A sum's bytes: contract of digest.bytesOf. -/
import Derived.Test.YtanjebmpjenmiaaDoorShaC
namespace Go.Proofs.YtanjebmpjenmiaaDoor
open Go.RowKit Word

attribute [local go_sem ↓] shl_nat shr_nat shl_lit shr_lit
attribute [local go_sem] wrap_add bits_xor bits_and bits_or wrap_less bits_not wrap_byte wrap_bt

theorem to_u8 (n : Nat) : IntKind.u8.wrap (n : Int) = ((n % 256 : Nat) : Int) := by
  rw [IntKind.wrap_u8']; omega

set_option maxRecDepth 100000 in
theorem bytesOf_any (v : W8) (w : World) :
    Calls Tryd.prog 16 #[.agg v.cells.toArray] w fun e w' => e = .returned (.agg (nums .u8 (outs v 32)).toArray) ∧ Below w.heap.size w w' := by
  go_enter Tryd.func16, Tryd.ntmps16
  go_wp2_with fail
  go_loopw [4, 5] (fun _ i wr => ∃ k : Nat, k ≤ 32 ∧ i = .int .i64 k ∧ Has wr w.heap.size 23 v.cells ∧ Has wr (w.heap.size + 1) 29 (nums .u8 (zeros 32)) ∧ Has wr (w.heap.size + 1 + 1) 29 (nums .u8 (outs v k ++ zeros (32 - k))) ∧ Below w.heap.size w wr) (fun _ i _ => 32 - (intOf i).toNat)
  case atStart => exact ⟨0, by omega, rfl, ((Has.make w _ _).alloc _).alloc _, (Has.make2 w _ _ (nums .u8 (zeros 32))).alloc _, Has.make3 w _ _ _ (nums .u8 (zeros 32)), up_alloc (up_alloc (up_alloc (Below.refl _ _) _) _) _⟩
  case round =>
    obtain ⟨k, hk, rfl, hA, hR, hW, hb⟩ := hrel
    by_cases hlt : k < 32
    · have e1 : (k : Int) / 4 = ((k / 4 : Nat) : Int) := by omega
      have e2 : 24 - (k : Int) % 4 * 8 = ((24 - k % 4 * 8 : Nat) : Int) := by omega
      have n1 : ((k / 4 : Nat) : Int) < 8 := by omega
      have hf := hW.free k
      have hc := hW.at (outs_at v k hlt)
      have hd := hA.at (i := k / 4) (v := .int .u32 ([v.a, v.b, v.c, v.d, v.e, v.f, v.g, v.h].getD (k / 4) 0 : Nat)) (by
        have h8 : k / 4 < 8 := by omega
        generalize k / 4 = j at h8
        match j, h8 with
        | 0, _ => rfl
        | 1, _ => rfl
        | 2, _ => rfl
        | 3, _ => rfl
        | 4, _ => rfl
        | 5, _ => rfl
        | 6, _ => rfl
        | 7, _ => rfl)
      have HZ := Lib.hid (outs_set v k hlt)
      generalize [v.a, v.b, v.c, v.d, v.e, v.f, v.g, v.h].getD (k / 4) 0 = x at *
      generalize k / 4 = j at *
      generalize 24 - k % 4 * 8 = sh at *
      have HA := Lib.hid hA
      have HR := Lib.hid hR
      have HW := Lib.hid hW
      have HB := Lib.hid hb
      clear hA hR hW hb
      go_wp2_with fail
      go_roundw
      case rel =>
        exact ⟨k + 1, by omega, by go_num, HA.out.other (p := ⟨w.heap.size + 1 + 1, k, none⟩) (by simp; omega) _, HR.out.other (p := ⟨w.heap.size + 1 + 1, k, none⟩) (by simp) _, (congrArg (Has _ (w.heap.size + 1 + 1) _) HZ.out).mp (HW.out.set k _), HB.out.setCell (p := ⟨w.heap.size + 1 + 1, k, none⟩) (by simp; omega) _⟩
      case measure => simp [intOf]; omega
    · obtain rfl : k = 32 := by omega
      have hu := Tryd.underlying29
      have hi : (Tryd.prog.info? 29).map (·.size) = some 32 := by kernel_rfl
      have HA := Lib.hid hA
      have HR := Lib.hid hR
      have HW := Lib.hid hW
      have HB := Lib.hid hb
      clear hA hR hW hb
      go_wp2_with (first
        | (refine wpList_load_row rfl 29 _ rfl (w.heap.size + 1 + 1) (by rfl) _ _ _ _ HW.out hu rfl (by rw [hi]; simp [nums, outs, zeros]) ?_)
        | (refine wpList_store_whole rfl 29 _ _ rfl (w.heap.size + 1) 29 (nums .u8 (zeros 32)) (nums .u8 (outs v 32)) (by rfl) (by rfl) HR.out (by simp [nums, outs, zeros]) (by rw [hi]; simp [nums, outs]) (nums_one _ _) ?_; intro w4 hF hO4))
      refine bodyPost_ret_by (results_cell_row Tryd.results16 _ _ _ _ _ _ _ (by rfl) hF hu rfl (by rw [hi]; simp [nums, outs])) rfl ⟨rfl, hO4.below (by omega) HB.out⟩
end Go.Proofs.YtanjebmpjenmiaaDoor
