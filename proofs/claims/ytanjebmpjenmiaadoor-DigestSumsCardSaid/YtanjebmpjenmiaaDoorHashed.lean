/- The document's rows for the hash hold: what blackboxlaw02.hashed returns. -/
import Derived.Test.YtanjebmpjenmiaaDoorShaEval
import Derived.Test.YtanjebmpjenmiaaDoorReadA
namespace Go.Proofs.YtanjebmpjenmiaaDoor
open Go.RowKit Word

theorem outs_small (v : W8) (k : Nat) : ∀ n ∈ outs v k, n < 256 := by
  intro n hn
  obtain ⟨i, _, rfl⟩ := List.mem_map.1 hn
  exact Nat.mod_lt _ (by omega)

theorem sum_small (s : St) : ∀ n ∈ s.sum, n < 256 := outs_small _ _
theorem sum_length (s : St) : s.sum.length = 32 := outs_length _ _

/-- A call of Hex over a sum. -/
theorem dhex_sum (s : St) (w : World) : Calls Tryd.prog 14 #[.agg (nums .u8 s.sum).toArray] w fun e w' => e = .returned (.string ⟨(hexOf s.sum).toArray⟩) ∧ Below w.heap.size w w' :=
  dhex_any s.sum (sum_length s) (sum_small s) w

set_option maxHeartbeats 800000 in
set_option maxRecDepth 100000 in
theorem hashed_any (w : World) (hT : Tab w) : Calls Tryd.prog 6 #[] w fun e w' => e = .returned (.bool true) ∧ Below w.heap.size w w' := by
  have HT := Lib.hid hT
  clear hT
  have HG := Lib.hid (rdv_bad (bad_len [48, 48] (by simp)))
  have hi : (Tryd.prog.info? 29).map (·.size) = some 32 := by kernel_rfl
  have hzl : (nums .u8 (zeroes 32)).length = 32 := by simp [nums, zeroes]
  have HA := Lib.hid abc_hex
  have HN := Lib.hid none_hex
  have HM := Lib.hid (show (2 : Nat) ≤ maxLen by unfold maxLen; omega)
  go_enter Tryd.func6, Tryd.ntmps6
  go_wp2_with fail
  refine (dread_any ⟨#[48, 48]⟩ HM.out _).mono ?_; rintro e w1 ⟨rfl, hb1⟩
  rw [show (ByteArray.mk #[48, 48]).data.toList = [48, 48] from rfl, HG.out.1, HG.out.2]
  have HB1 := Lib.hid hb1
  clear hb1
  go_wp2_with (refine wpList_store_whole rfl 29 _ _ rfl w1.heap.size 29 (nums .u8 (zeroes 32)) (nums .u8 (zeroes 32)) (by rfl) (by rfl) (Has.make w1 _ _) (by rfl) (by rw [hi, hzl]) (nums_one _ _) ?_; intro w5 hF hO5)
  have HB5 := Lib.hid (hO5.below HB1.out.size (HB1.out.alloc HB1.out.size _))
  clear hF hO5
  refine (dof_any ⟨#[97, 98, 99]⟩ _ (tab_up HT.out HB5.out) (by decide)).mono ?_; rintro e w6 ⟨rfl, hb6⟩
  have HB6 := Lib.hid (HB5.out.trans (hb6.mono HB5.out.size))
  clear hb6
  go_wp2_with fail
  refine (dhex_sum _ _).mono ?_; rintro e w7 ⟨rfl, hb7⟩
  have HB7 := Lib.hid (HB6.out.trans (hb7.mono HB6.out.size))
  clear hb7
  rw [HA.out]
  go_wp2_with fail
  refine (dof_any ⟨#[]⟩ _ (tab_up HT.out HB7.out) (by decide)).mono ?_; rintro e w8 ⟨rfl, hb8⟩
  have HB8 := Lib.hid (HB7.out.trans (hb8.mono HB7.out.size))
  clear hb8
  go_wp2_with fail
  refine (dhex_sum _ _).mono ?_; rintro e w9 ⟨rfl, hb9⟩
  have HB9 := Lib.hid (HB8.out.trans (hb9.mono HB8.out.size))
  clear hb9
  rw [HN.out]
  go_wp2_with fail
  go_ret
  exact ⟨rfl, HB9.out⟩
end Go.Proofs.YtanjebmpjenmiaaDoor
