/- A block's words: contract of digest.wordsOf. -/
import Derived.Test.YtanjebmpjenmiaaDoorShaA
import Derived.Test.YtanjebmpjenmiaaDoorMem
import Derived.Deep.QuietTactic
import Derived.BigQuiet
import Derived.BigRegion
import Derived.StillTailTactics
import Derived.Deep.RegionHeld3
namespace Go.Proofs.YtanjebmpjenmiaaDoor
open Go.RowKit Word

attribute [local go_sem ↓] shl_nat shr_nat shl_lit shr_lit
attribute [local go_sem] wrap_add bits_xor bits_and bits_or wrap_less bits_not wrap_byte wrap_bt

/-- The word of four bytes of a text, the highest byte first. -/
def word4 (l : List UInt8) (i : Nat) : Nat := o32 (o32 (o32 (l32 (bt l (4 * i)) 24) (l32 (bt l (4 * i + 1)) 16)) (l32 (bt l (4 * i + 2)) 8)) (bt l (4 * i + 3))

/-- The first k words of a text. -/
def firsts (s : List UInt8) (k : Nat) : List Nat := (List.range k).map (word4 s)

def zeros (n : Nat) : List Nat := List.replicate n 0

theorem zeros_cell (s : List UInt8) (k : Nat) (h : k < 16) : (nums .u32 (firsts s k ++ zeros (64 - k)))[k]? = some (.int .u32 0) := by
  have l : (firsts s k).length = k := by simp [firsts]
  rw [nums_at _ _ (by simp [zeros, l]; omega), List.getElem_append_right (by omega)]
  simp [zeros]

theorem zeros_set (s : List UInt8) (k : Nat) (h : k < 16) : (nums .u32 (firsts s k ++ zeros (64 - k))).set k (.int .u32 (word4 s k : Nat)) = nums .u32 (firsts s (k + 1) ++ zeros (64 - (k + 1))) := by
  have l : (firsts s k).length = k := by simp [firsts]
  have z : zeros (64 - k) = 0 :: zeros (64 - (k + 1)) := by
    unfold zeros
    rw [show 64 - k = (64 - (k + 1)) + 1 by omega, List.replicate_succ]
  have f : firsts s (k + 1) = firsts s k ++ [word4 s k] := by simp [firsts, List.range_succ]
  rw [z, f]
  unfold nums
  rw [List.map_append, List.set_append_right _ _ (by simp [l])]
  simp [l]

set_option maxRecDepth 100000 in
theorem wordsOf_any (s : ByteArray) (hs : s.size = 64) (w : World) :
    Calls Tryd.prog 28 #[.string s] w fun e w' => e = .returned (.agg (nums .u32 (firsts s.data.toList 16 ++ zeros 48)).toArray) ∧ Below w.heap.size w w' := by
  have hS := Lib.hid hs
  have h1 : s.size ≤ 64 := by omega
  have h2 : 64 ≤ s.size := by omega
  clear hs
  go_enter Tryd.func28, Tryd.ntmps28
  go_wp2_with fail
  go_loopw [4, 5] (fun _ i wr => ∃ k : Nat, k ≤ 16 ∧ i = .int .i64 k ∧ Has wr w.heap.size 49 (nums .u32 (zeros 64)) ∧ Has wr (w.heap.size + 1) 49 (nums .u32 (firsts s.data.toList k ++ zeros (64 - k))) ∧ Below w.heap.size w wr) (fun _ i _ => 16 - (intOf i).toNat)
  case atStart => exact ⟨0, by omega, rfl, (Has.make w _ _).alloc _, Has.make2 w _ _ _, up_alloc (up_alloc (Below.refl _ _) _) _⟩
  case round =>
    obtain ⟨k, hk, rfl, hr, hw, hb⟩ := hrel
    by_cases hlt : k < 16
    · have b0 : (4 : Int) * (k : Int) < (s.size : Int) := by omega
      have b1 : (4 : Int) * (k : Int) + 1 < (s.size : Int) := by omega
      have b2 : (4 : Int) * (k : Int) + 2 < (s.size : Int) := by omega
      have b3 : (4 : Int) * (k : Int) + 3 < (s.size : Int) := by omega
      have k0 : (0 : Int) ≤ (k : Int) := by omega
      have k1 : (k : Int) < 64 := by omega
      have e0 := IntWalk.i64_in (4 * (k : Int)) (by omega)
      have e1 := IntWalk.i64_in (4 * (k : Int) + 1) (by omega)
      have e2 := IntWalk.i64_in (4 * (k : Int) + 2) (by omega)
      have e3 := IntWalk.i64_in (4 * (k : Int) + 3) (by omega)
      have n0 : (0 : Int) ≤ 4 * (k : Int) := by omega
      have n1 : (0 : Int) ≤ 4 * (k : Int) + 1 := by omega
      have n2 : (0 : Int) ≤ 4 * (k : Int) + 2 := by omega
      have n3 : (0 : Int) ≤ 4 * (k : Int) + 3 := by omega
      have t0 : (4 * (k : Int)).toNat = 4 * k := by omega
      have t1 : (4 * (k : Int) + 1).toNat = 4 * k + 1 := by omega
      have t2 : (4 * (k : Int) + 2).toNat = 4 * k + 2 := by omega
      have t3 : (4 * (k : Int) + 3).toNat = 4 * k + 3 := by omega
      have hfree := hw.free k
      have hcell := hw.at (i := k) (v := .int .u32 0) (zeros_cell _ k hlt)
      have HR := Lib.hid hr
      have HW := Lib.hid hw
      clear hr hw
      go_wp2_with fail
      have g0 := bt_of s (4 * k) (by omega)
      have g1 := bt_of s (4 * k + 1) (by omega)
      have g2 := bt_of s (4 * k + 2) (by omega)
      have g3 := bt_of s (4 * k + 3) (by omega)
      go_still_tail 31, (by kernel_rfl)
      clear g0 g1 g2 g3 e0 e1 e2 e3 t0 t1 t2 t3 n0 n1 n2 n3
      change wpList _ _ _ _ _ wr.drew
      go_wp2_with fail
      go_roundw
      case rel =>
        refine ⟨k + 1, by omega, by go_num, (HR.out.other (p := ⟨_, _, none⟩) (by simp) _).drew, ?_, (hb.setCell (p := ⟨_, _, none⟩) (by simp) _).drew⟩
        have := (HW.out.set k (.int .u32 (word4 s.data.toList k : Nat))).drew
        rw [zeros_set _ k hlt] at this
        exact this
      case measure => simp [intOf]; omega
    · obtain rfl : k = 16 := by omega
      have hu := Tryd.underlying49
      have hi : (Tryd.prog.info? 49).map (·.size) = some 64 := by kernel_rfl
      go_wp2_with (first
        | (refine wpList_load_row rfl 49 _ rfl (w.heap.size + 1) (by rfl) _ _ _ _ hw hu rfl (by rw [hi]; simp [nums, firsts, zeros]) ?_)
        | (refine wpList_store_mid rfl 49 _ _ rfl w.heap.size 0 _ (by rfl) (by rfl) (hr.there 0 _ (by simp [nums, firsts, zeros])) (by rw [hi]; simp [nums, firsts, zeros]) (all_oneCell_toArray (nums_one _ _)) ?_))
      have hres := hr.setWhole (vs := nums .u32 (firsts s.data.toList 16 ++ zeros 48)) (by simp [nums, firsts, zeros])
      refine bodyPost_ret_by (results_cell_row Tryd.results28 _ _ _ _ _ _ _ (by rfl) hres hu rfl (by rw [hi]; simp [nums, firsts, zeros])) rfl ⟨rfl, below_setCells (Nat.le_refl _) _ _ hb⟩
end Go.Proofs.YtanjebmpjenmiaaDoor
