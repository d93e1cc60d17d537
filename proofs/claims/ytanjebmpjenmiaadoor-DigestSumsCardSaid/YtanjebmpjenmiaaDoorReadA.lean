/- A text, read as a sum: contract of digest.Read. -/
import Derived.Test.YtanjebmpjenmiaaDoorReadP
import Derived.Test.YtanjebmpjenmiaaDoorShelf
import Derived.Deep.QuietTactic
import Derived.BigQuiet
import Derived.Laws.ResultCell
import Derived.Deep.RegionHeld3
import Derived.Deep.DrawnRows
namespace Go.Proofs.YtanjebmpjenmiaaDoor
open Go.RowKit Word

theorem index_any (c : UInt8) (w : World) : Calls Tryd.prog 22 #[.string ⟨#[48, 49, 50, 51, 52, 53, 54, 55, 56, 57, 97, 98, 99, 100, 101, 102]⟩, .int .u8 (c.toNat : Int)] w fun e w' => e = .returned (.int .i64 (sv c)) ∧ w' = w := by
  have := Tryd.strings_IndexByte ⟨#[48, 49, 50, 51, 52, 53, 54, 55, 56, 57, 97, 98, 99, 100, 101, 102]⟩ (c.toNat : Int) w
  have e : Lib.indexByte (ByteArray.mk #[48, 49, 50, 51, 52, 53, 54, 55, 56, 57, 97, 98, 99, 100, 101, 102]).data.toList ((c.toNat : Int)).toNat.toUInt8 = sv c := by
    rw [Int.toNat_natCast]
    have : c.toNat.toUInt8 = c := by simp
    rw [this]
    exact sv_index c
  rw [e] at this
  exact this

/-- The results of a function that gives a sum and a number. -/
theorem results_sum {fn : Func} {p u : Tmp} (h : fn.results = #[.cell p 29, .tmp u]) (tmps : Array Value) (w : World) (g : Nat) (l : List Nat) (v : Value)
    (hp : tmps.getD p undef = .pointer (some ⟨g, 0, none⟩)) (hg : Has w g 29 (nums .u8 l)) (hl : l.length = 32) (hv : tmps.getD u undef = v) :
    (results fn tmps).run Tryd.prog w = .ok (.tuple #[.agg (nums .u8 l).toArray, v]) w := by
  have hi : (Tryd.prog.info? 29).map (·.size) = some (nums .u8 l).toArray.size := by simp only [List.size_toArray, nums_length, hl]; kernel_rfl
  rw [results_cell_tmp h, hp, hv]
  have := run_loadVar_row (P := Tryd.prog) w g 29 29 (nums .u8 l).toArray (0, 0) _ hg Tryd.underlying29 rfl hi
  simp [asAddr, this]

set_option maxHeartbeats 1600000 in
set_option maxRecDepth 100000 in
theorem dread_any (s : ByteArray) (hs : s.size ≤ maxLen) (w : World) : Calls Tryd.prog 12 #[.string s] w fun e w' => e = .returned (.tuple #[.agg (nums .u8 (rdv s.data.toList)).toArray, .int .i64 (rde s.data.toList)]) ∧ Below w.heap.size w w' := by
  unfold maxLen at hs
  have hi : (Tryd.prog.info? 29).map (·.size) = some 32 := by kernel_rfl
  have hu := Tryd.underlying29
  have hzl : (nums .u8 (zeroes 32)).length = 32 := by simp [nums, zeroes]
  by_cases h64 : s.size = 64
  · have ht : ((s.size : Int) != 64) = false := by simp [h64]
    have hsz : 64 ≤ s.size := by omega
    have hL : s.data.toList.length = 64 := by simpa using h64
    have HLen := Lib.hid hL
    have H64 := Lib.hid h64
    clear h64 hL
    go_enter Tryd.func12, Tryd.ntmps12
    go_wp2_with fail
    go_loopw [5, 6, 7, 12] (fun _ _ _ i wr => ∃ k : Nat, k ≤ 32 ∧ i = .int .i64 k ∧ Hid (∀ j, j < k → okAt s.data.toList j = true) ∧ Has wr w.heap.size 29 (nums .u8 (zeroes 32)) ∧ Has wr (w.heap.size + 1) 29 (nums .u8 (vals s.data.toList k ++ zeroes (32 - k))) ∧ Below w.heap.size w wr) (fun _ _ _ i _ => 32 - (intOf i).toNat)
    case atStart => exact ⟨0, by omega, rfl, Lib.hid (fun j hj => absurd hj (by omega)), (Has.make w _ _).alloc _, Has.make2 w _ _ _, up_alloc (up_alloc (Below.refl _ _) _) _⟩
    case round =>
      obtain ⟨k, hk, rfl, hok, hR, hW, hb⟩ := hrel
      have HR := Lib.hid hR
      have HW := Lib.hid hW
      have HB := Lib.hid hb
      clear hR hW hb
      by_cases hlt : k < 32
      · have b0 : (2 : Int) * (k : Int) < (s.size : Int) := by omega
        have b1 : (2 : Int) * (k : Int) + 1 < (s.size : Int) := by omega
        have k0 : (0 : Int) ≤ (k : Int) := by omega
        have k1 : (k : Int) < 32 := by omega
        have e0 := IntWalk.i64_in (2 * (k : Int)) (by omega)
        have e1 := IntWalk.i64_in (2 * (k : Int) + 1) (by omega)
        have n0 : (0 : Int) ≤ 2 * (k : Int) := by omega
        have n1 : (0 : Int) ≤ 2 * (k : Int) + 1 := by omega
        have t0 : (2 * (k : Int)).toNat = 2 * k := by omega
        have t1 : (2 * (k : Int) + 1).toNat = 2 * k + 1 := by omega
        have g0 : s[2 * k]'(by omega) = s.data.toList.getD (2 * k) 0 := by
          rw [List.getD_eq_getElem?_getD, List.getElem?_eq_getElem (by rw [HLen.out]; omega)]; rfl
        have g1 : s[2 * k + 1]'(by omega) = s.data.toList.getD (2 * k + 1) 0 := by
          rw [List.getD_eq_getElem?_getD, List.getElem?_eq_getElem (by rw [HLen.out]; omega)]; rfl
        have hOk := Lib.hid (show okAt s.data.toList k = (decide (0 ≤ sv (s.data.toList.getD (2 * k) 0)) && decide (0 ≤ sv (s.data.toList.getD (2 * k + 1) 0))) from rfl)
        have hVal := Lib.hid (show valAt s.data.toList k = 16 * (sv (s.data.toList.getD (2 * k) 0)).toNat + (sv (s.data.toList.getD (2 * k + 1) 0)).toNat from rfl)
        generalize s.data.toList.getD (2 * k) 0 = ca at *
        generalize s.data.toList.getD (2 * k + 1) 0 = cb at *
        have ga := sv_ge ca
        have gb := sv_ge cb
        have la := sv_lt ca
        have lb := sv_lt cb
        go_wp2_with fail
        go_quiet ((go_at_call 22; exact Calls.quiet_of_same (index_any _ _)))
        clear e0 e1 n0 n1 t0 t1 g0 g1 b0 b1
        by_cases ha : sv ca < 0
        · have d1 : decide (sv ca < 0) = true := by simpa using ha
          have HG := Lib.hid (rdv_bad (bad_at s.data.toList k hlt (by rw [hOk.out]; simp; omega)))
          replace HR := Lib.hid (HR.out.drewN nq)
          have HBn := Lib.hid (below_drewN HB.out nq)
          generalize wr.drewN nq = wq at *
          go_wp2_with (refine wpList_store_whole rfl 29 _ _ rfl w.heap.size 29 (nums .u8 (zeroes 32)) (nums .u8 (zeroes 32)) (by rfl) (by rfl) HR.out (by rfl) (by rw [hi, hzl]) (nums_one _ _) ?_; intro w5 hF hO5)
          refine bodyPost_ret_by (results_sum Tryd.results12 _ _ w.heap.size (zeroes 32) (.int .i64 3) (by rfl) hF (by simp [zeroes]) (by rfl)) rfl ⟨by rw [HG.out.1, HG.out.2], hO5.below (Nat.le_refl _) HBn.out⟩
        · by_cases hb : sv cb < 0
          · have d1 : decide (sv ca < 0) = false := by simpa using ha
            have d2 : decide (sv cb < 0) = true := by simpa using hb
            have HG := Lib.hid (rdv_bad (bad_at s.data.toList k hlt (by rw [hOk.out]; simp; omega)))
            replace HR := Lib.hid (HR.out.drewN nq)
            have HBn := Lib.hid (below_drewN HB.out nq)
            generalize wr.drewN nq = wq at *
            go_wp2_with (refine wpList_store_whole rfl 29 _ _ rfl w.heap.size 29 (nums .u8 (zeroes 32)) (nums .u8 (zeroes 32)) (by rfl) (by rfl) HR.out (by rfl) (by rw [hi, hzl]) (nums_one _ _) ?_; intro w5 hF hO5)
            refine bodyPost_ret_by (results_sum Tryd.results12 _ _ w.heap.size (zeroes 32) (.int .i64 3) (by rfl) hF (by simp [zeroes]) (by rfl)) rfl ⟨by rw [HG.out.1, HG.out.2], hO5.below (Nat.le_refl _) HBn.out⟩
          · have d1 : decide (sv ca < 0) = false := by simpa using ha
            have d2 : decide (sv cb < 0) = false := by simpa using hb
            have HOK := Lib.hid (show ∀ j, j < k + 1 → okAt s.data.toList j = true from fun j hj => by
              by_cases h : j < k
              · exact hok.out j h
              · obtain rfl : j = k := by omega
                rw [hOk.out]; simp; omega)
            have HVS := Lib.hid (vals_set s.data.toList k hlt)
            have x1 := HW.out.free k
            have x2 := HW.out.at (vals_at s.data.toList k hlt)
            obtain ⟨a, ea⟩ := Int.eq_ofNat_of_zero_le (show 0 ≤ sv ca by omega)
            obtain ⟨b, eb⟩ := Int.eq_ofNat_of_zero_le (show 0 ≤ sv cb by omega)
            rw [ea, eb] at hVal
            simp only [Int.toNat_natCast] at hVal
            rw [ea] at la ga ha d1
            rw [eb] at lb gb hb d2
            rw [ea, eb]
            clear ea eb hOk
            have s1 : Op.shift .shl .i64 (a : Int) .u64 4 = pure (.int .i64 ((a * 16 : Nat) : Int)) := by
              have : IntKind.i64.wrap ((a : Int) * 16) = ((a * 16 : Nat) : Int) := by rw [IntWalk.i64_in _ (by omega)]; omega
              simp [Op.shift, IntKind.bits, this]
            have s2 : bits .or .i64 ((a * 16 : Nat) : Int) (b : Int) = ((16 * a + b : Nat) : Int) := by
              have h16 : ∀ x : Fin 16, ∀ y : Fin 16, bits .or .i64 ((x.val * 16 : Nat) : Int) (y.val : Int) = ((16 * x.val + y.val : Nat) : Int) := by decide +kernel
              exact h16 ⟨a, by omega⟩ ⟨b, by omega⟩
            have s3 : IntKind.u8.wrap ((16 * a + b : Nat) : Int) = ((16 * a + b : Nat) : Int) := IntWalk.u8_in _ (by omega)
            rw [hVal.out] at HVS
            clear hVal
            generalize 16 * a + b = m at *
            generalize a * 16 = m2 at *
            replace HR := Lib.hid (HR.out.drewN nq)
            replace HW := Lib.hid (HW.out.drewN nq)
            replace x1 : (wr.drewN nq).frozen? ⟨w.heap.size + 1, k, none⟩ = false := HW.out.free k
            replace x2 := HW.out.at (vals_at s.data.toList k hlt)
            have HBn := Lib.hid (below_drewN HB.out nq)
            generalize wr.drewN nq = wq at *
            go_wp2_with fail
            go_roundw
            case rel =>
              exact ⟨k + 1, by omega, by go_num, HOK, HR.out.other (p := ⟨w.heap.size + 1, k, none⟩) (by simp) _, (congrArg (Has _ (w.heap.size + 1) _) HVS.out).mp (HW.out.set k _), HBn.out.setCell (p := ⟨w.heap.size + 1, k, none⟩) (by simp) _⟩
            case measure => simp [intOf]; omega
      · obtain rfl : k = 32 := by omega
        have HG := Lib.hid (rdv_good (good_of s.data.toList HLen.out (fun i hi => hok.out i hi)))
        go_wp2_with (first
          | (refine wpList_load_row rfl 29 _ rfl (w.heap.size + 1) (by rfl) _ _ _ _ HW.out hu rfl (by rw [hi]; simp [nums, vals_length, zeroes]) ?_)
          | (refine wpList_store_whole rfl 29 _ _ rfl w.heap.size 29 (nums .u8 (zeroes 32)) (nums .u8 (vals s.data.toList 32)) (by rfl) (by rfl) HR.out (by simp [nums, vals_length, zeroes]) (by rw [hi]; simp [nums, vals_length]) (nums_one _ _) ?_; intro w5 hF hO5))
        refine bodyPost_ret_by (results_sum Tryd.results12 _ _ w.heap.size (vals s.data.toList 32) (.int .i64 0) (by rfl) hF (vals_length _ _) (by rfl)) rfl ⟨by rw [HG.out.1, HG.out.2], hO5.below (Nat.le_refl _) HB.out⟩
  · have HG := Lib.hid (rdv_bad (bad_len s.data.toList (by simpa using h64)))
    have ht : ((s.size : Int) != 64) = true := by rw [bne_iff_ne]; omega
    clear h64
    go_enter Tryd.func12, Tryd.ntmps12
    go_wp2_with (refine wpList_store_whole rfl 29 _ _ rfl w.heap.size 29 (nums .u8 (zeroes 32)) (nums .u8 (zeroes 32)) (by rfl) (by rfl) ((Has.make w _ _).alloc _) (by rfl) (by rw [hi, hzl]) (nums_one _ _) ?_; intro w5 hF hO5)
    refine bodyPost_ret_by (results_sum Tryd.results12 _ _ w.heap.size (zeroes 32) (.int .i64 3) (by rfl) hF (by simp [zeroes]) (by rfl)) rfl ⟨by rw [HG.out.1, HG.out.2], hO5.below (Nat.le_refl _) (up_alloc (up_alloc (Below.refl _ _) _) _)⟩
end Go.Proofs.YtanjebmpjenmiaaDoor
