/- Sums: contracts of digest.End, Of, Two. -/
import Derived.Test.YtanjebmpjenmiaaDoorShaG
import Derived.Deep.RegionHeld3
import Derived.Deep.DrawnRows
namespace Go.Proofs.YtanjebmpjenmiaaDoor
open Go.RowKit Word

attribute [local go_sem ↓] Go.wp_at_zero Go.wp_at_succ

/-- The text that is added at the end. -/
def St.pad (s : St) : ByteArray := ⟨(padl s.rest.size s.n 8).toArray⟩

/-- The sum of a state. -/
def St.sum (s : St) : List Nat := outs (s.add s.pad).v 32

theorem St.pad_size (s : St) : s.pad.size ≤ 100 := by
  show (padl s.rest.size s.n 8).toArray.size ≤ 100
  have : gap s.rest.size < 64 := by unfold gap; omega
  simp [padl_length]; omega

/-- What a call that writes nothing old leaves of two blocks: the cells of a state, and a block of a sum. -/
theorem two_kept {w1 : World} {g h : Nat} {t u : TypeId} {s : St} {m : List Value} (hg : Has w1 g t s.cells) (hh : Has w1 h u m) (k : Nat) (hk : k = m.length) : ∀ W, Below w1.heap.size w1 W →
    W.cell? ⟨g, 0, none⟩ = some (.int .u32 (s.v.a : Nat)) ∧ W.cell? ⟨g, 1, none⟩ = some (.int .u32 (s.v.b : Nat)) ∧ W.cell? ⟨g, 2, none⟩ = some (.int .u32 (s.v.c : Nat)) ∧ W.cell? ⟨g, 3, none⟩ = some (.int .u32 (s.v.d : Nat)) ∧
    W.cell? ⟨g, 4, none⟩ = some (.int .u32 (s.v.e : Nat)) ∧ W.cell? ⟨g, 5, none⟩ = some (.int .u32 (s.v.f : Nat)) ∧ W.cell? ⟨g, 6, none⟩ = some (.int .u32 (s.v.g : Nat)) ∧ W.cell? ⟨g, 7, none⟩ = some (.int .u32 (s.v.h : Nat)) ∧
    W.cell? ⟨g, 8, none⟩ = some (.int .u64 (s.n : Nat)) ∧ W.cell? ⟨g, 9, none⟩ = some (.string s.rest) ∧ W.there h 0 k := fun W hb => by
  subst hk
  have H := hg.up hb
  exact ⟨H.at rfl, H.at rfl, H.at rfl, H.at rfl, H.at rfl, H.at rfl, H.at rfl, H.at rfl, H.at rfl, H.at rfl, (hh.up hb).there 0 _ (by omega)⟩

theorem two_kept_set {w1 : World} {g h : Nat} {t u : TypeId} {s : St} {m : List Value} (hg : Has w1 g t s.cells) (hh : Has w1 h u m) (hgh : g ≠ h) (vs : List Value) (hv : vs.length = m.length) (k : Nat) (hk : k = m.length) : ∀ W, Below w1.heap.size w1 W →
    (W.setCells h 0 vs).cell? ⟨g, 0, none⟩ = some (.int .u32 (s.v.a : Nat)) ∧ (W.setCells h 0 vs).cell? ⟨g, 1, none⟩ = some (.int .u32 (s.v.b : Nat)) ∧ (W.setCells h 0 vs).cell? ⟨g, 2, none⟩ = some (.int .u32 (s.v.c : Nat)) ∧ (W.setCells h 0 vs).cell? ⟨g, 3, none⟩ = some (.int .u32 (s.v.d : Nat)) ∧
    (W.setCells h 0 vs).cell? ⟨g, 4, none⟩ = some (.int .u32 (s.v.e : Nat)) ∧ (W.setCells h 0 vs).cell? ⟨g, 5, none⟩ = some (.int .u32 (s.v.f : Nat)) ∧ (W.setCells h 0 vs).cell? ⟨g, 6, none⟩ = some (.int .u32 (s.v.g : Nat)) ∧ (W.setCells h 0 vs).cell? ⟨g, 7, none⟩ = some (.int .u32 (s.v.h : Nat)) ∧
    (W.setCells h 0 vs).cell? ⟨g, 8, none⟩ = some (.int .u64 (s.n : Nat)) ∧ (W.setCells h 0 vs).cell? ⟨g, 9, none⟩ = some (.string s.rest) ∧ (W.setCells h 0 vs).there h 0 k := fun W hb => by
  subst hk
  have H := (hg.up hb).setOther hgh vs 0
  have H2 := (hh.up hb).setWhole hv
  exact ⟨H.at rfl, H.at rfl, H.at rfl, H.at rfl, H.at rfl, H.at rfl, H.at rfl, H.at rfl, H.at rfl, H.at rfl, H2.there 0 _ (by omega)⟩

theorem field_words (u : St) (w : World) : (Instr.field 26 (.agg u.cells.toArray) 0).run Tryd.prog w = .ok (.agg u.v.cells.toArray) w := by
  show (Instr.field 26 (.agg #[.int .u32 (u.v.a : Nat), .int .u32 (u.v.b : Nat), .int .u32 (u.v.c : Nat), .int .u32 (u.v.d : Nat), .int .u32 (u.v.e : Nat), .int .u32 (u.v.f : Nat), .int .u32 (u.v.g : Nat), .int .u32 (u.v.h : Nat), .int .u64 (u.n : Nat), .string u.rest]) 0).run Tryd.prog w = .ok (.agg #[.int .u32 (u.v.a : Nat), .int .u32 (u.v.b : Nat), .int .u32 (u.v.c : Nat), .int .u32 (u.v.d : Nat), .int .u32 (u.v.e : Nat), .int .u32 (u.v.f : Nat), .int .u32 (u.v.g : Nat), .int .u32 (u.v.h : Nat)]) w
  simp [Instr.field, asAgg, go_sem, run_underlying Tryd.underlying26]

set_option maxHeartbeats 800000 in
set_option maxRecDepth 100000 in
theorem dend_any (s : St) (w : World) (hT : Tab w) (hsz : s.rest.size ≤ 100000) : Calls Tryd.prog 7 #[.agg s.cells.toArray] w fun e w' => e = .returned (.agg (nums .u8 s.sum).toArray) ∧ Below w.heap.size w w' := by
  have HT := Lib.hid hT
  clear hT
  obtain ⟨O, hO⟩ : ∃ O, O = nums .u8 (outs (s.add s.pad).v 32) := ⟨_, rfl⟩
  have hl2 : O.length = 32 := by rw [hO]; simp [nums, outs_length]
  have hu2 := Tryd.underlying29
  have hi2 : (Tryd.prog.info? 29).map (·.size) = some O.length := by rw [hl2]; kernel_rfl
  have ho2 : ∀ v ∈ O, v.oneCell' = true := by rw [hO]; exact nums_one _ _
  have HBo := Lib.hid (show ∀ W : World, Calls Tryd.prog 16 #[.agg (s.add s.pad).v.cells.toArray] W fun e w' => e = .returned (.agg O.toArray) ∧ Below W.heap.size W w' from by rw [hO]; exact bytesOf_any _)
  have HO := Lib.hid (show s.sum = outs (s.add s.pad).v 32 from rfl)
  have HO2 := Lib.hid hO
  clear hO
  go_enter Tryd.func7, Tryd.ntmps7
  go_wp2_with fail
  obtain ⟨w1, hw1⟩ : ∃ w1, w1 = (w.alloc (Obj.cells s.cells.toArray 26)).alloc (Obj.cells (nums .u8 (zeros 32)).toArray 29) := ⟨_, rfl⟩
  have HA : Has w1 w.heap.size 26 s.cells := by rw [hw1]; exact (Has.make w _ _).alloc _
  have HR : Has w1 (w.heap.size + 1) 29 (nums .u8 (zeros 32)) := by rw [hw1]; exact Has.make2 w _ _ _
  have HB : Below w.heap.size w w1 := by rw [hw1]; exact up_alloc (up_alloc (Below.refl _ _) _) _
  refine (congrArg (Code.wp _ _ _ _) hw1).mp ?_
  have HK := Lib.hid (two_kept HA HR 32 (by simp [nums, zeros]))
  have HT1 := Lib.hid (show ∀ W, Below w1.heap.size w1 W → Tab W from fun W hb i hi => ((HB.trans (hb.mono HB.size)).cell (p := ⟨0, i, none⟩) (block_lt_of_cell (HT.out i hi))).trans (HT.out i hi))
  have hfw := field_words (s.add s.pad)
  have HPad := Lib.hid (show (⟨(padl s.rest.size s.n 8).toArray⟩ : ByteArray) = s.pad from rfl)
  have HPS := Lib.hid (s.pad_size)
  have HQ := Lib.hid (two_kept_set HA HR (by simp) O (by simp [nums, zeros, hl2]) 32 (by simp [nums, zeros]))
  have HR' := Lib.hid HR
  have HB' := Lib.hid HB
  clear hw1 HA HR HB
  go_region_held3 (fun W => W.cell? ⟨w.heap.size, 0, none⟩ = some (.int .u32 (s.v.a : Nat)) ∧ W.cell? ⟨w.heap.size, 1, none⟩ = some (.int .u32 (s.v.b : Nat)) ∧ W.cell? ⟨w.heap.size, 2, none⟩ = some (.int .u32 (s.v.c : Nat)) ∧ W.cell? ⟨w.heap.size, 3, none⟩ = some (.int .u32 (s.v.d : Nat)) ∧
    W.cell? ⟨w.heap.size, 4, none⟩ = some (.int .u32 (s.v.e : Nat)) ∧ W.cell? ⟨w.heap.size, 5, none⟩ = some (.int .u32 (s.v.f : Nat)) ∧ W.cell? ⟨w.heap.size, 6, none⟩ = some (.int .u32 (s.v.g : Nat)) ∧ W.cell? ⟨w.heap.size, 7, none⟩ = some (.int .u32 (s.v.h : Nat)) ∧
    W.cell? ⟨w.heap.size, 8, none⟩ = some (.int .u64 (s.n : Nat)) ∧ W.cell? ⟨w.heap.size, 9, none⟩ = some (.string s.rest) ∧ W.there (w.heap.size + 1) 0 32)
    (first | (with_reducible exact HK.out _ (Below.refl _ _).drew) | (with_reducible exact HK.out _ hba) | (with_reducible exact HK.out _ hbb) | (with_reducible exact HK.out _ hbc) | (with_reducible exact HQ.out _ hbc))
    (first
      | (go_at_call 18; refine (dpad_any s _ (by omega)).mono ?_; rintro e wa ⟨rfl, hba'⟩; have hba : Below w1.heap.size w1 wa := (Below.refl _ _).drew.trans hba'; clear hba')
      | (go_at_call 17; refine (dadd_any s s.pad _ (HT1.out _ hba) (by have := HPS.out; omega)).mono ?_; rintro e wb ⟨rfl, hbb'⟩;  have hbb : Below w1.heap.size w1 wb := hba.trans (hbb'.mono hba.size); clear hbb')
      | (go_at_call 16; refine (HBo.out _).mono ?_; rintro e wc ⟨rfl, hbc'⟩; have hbc : Below w1.heap.size w1 wc := hbb.trans (hbc'.mono hbb.size); clear hbc'))
  have hF := (HR'.out.up hbc).setWhole (vs := O) (by simp [nums, zeros, hl2])
  go_wp2_with fail
  refine bodyPost_ret_by (results_cell_row Tryd.results7 _ _ _ _ _ _ _ (by rfl) hF hu2 rfl (by rw [hi2]; simp)) rfl ⟨?_, below_setCells (by omega) _ _ (HB'.out.trans (hbc.mono HB'.out.size))⟩
  rw [HO.out, ← HO2.out]

theorem tab_up {w W : World} (h : Tab w) (hb : Below w.heap.size w W) : Tab W := fun i hi => (hb.cell (p := ⟨0, i, none⟩) (block_lt_of_cell (h i hi))).trans (h i hi)

theorem St.add_size (s : St) (b : ByteArray) : (s.add b).rest.size < 64 := by
  show ((s.rest ++ b).extract _ _).size < 64
  rw [ByteArray.size_extract]; omega

set_option maxHeartbeats 800000 in
theorem dof_any (t : ByteArray) (w : World) (hT : Tab w) (hsz : t.size ≤ 100000) : Calls Tryd.prog 9 #[.string t] w fun e w' => e = .returned (.agg (nums .u8 (St.start.add t).sum).toArray) ∧ Below w.heap.size w w' := by
  have HT := Lib.hid hT
  clear hT
  have hz1 := (St.start.add_size t)
  have hz2 : St.start.rest.size = 0 := rfl
  have HZ := Lib.hid hz2
  clear hz2
  have hu2 := Tryd.underlying29
  have hi2 : (Tryd.prog.info? 29).map (·.size) = some 32 := by kernel_rfl
  have hl : (nums .u8 (St.start.add t).sum).length = 32 := by simp [nums, St.sum, outs_length]
  have ho := nums_one .u8 (St.start.add t).sum
  go_enter Tryd.func9, Tryd.ntmps9
  go_wp2_with fail
  have HR := Lib.hid (Has.make w 29 (nums .u8 (zeros 32)))
  refine (dstart_any _).mono ?_; rintro e w1 ⟨rfl, hb1⟩
  replace HR := Lib.hid (HR.out.up hb1)
  have HB := Lib.hid ((up_alloc (Below.refl _ w) _).trans (hb1.mono (by simp)))
  clear hb1
  go_wp2_with fail
  refine (dadd_any St.start t _ (tab_up HT.out HB.out) (by rw [HZ.out]; omega)).mono ?_; rintro e w2 ⟨rfl, hb2⟩
  replace HR := Lib.hid (HR.out.up hb2)
  replace HB := Lib.hid (HB.out.trans (hb2.mono HB.out.size))
  clear hb2
  go_wp2_with fail
  refine (dend_any (St.start.add t) _ (tab_up HT.out HB.out) (by omega)).mono ?_; rintro e w3 ⟨rfl, hb3⟩
  replace HR := Lib.hid (HR.out.up hb3)
  replace HB := Lib.hid (HB.out.trans (hb3.mono HB.out.size))
  clear hb3
  generalize hO : nums .u8 (St.start.add t).sum = O at *
  have HO := Lib.hid hO
  clear hO
  go_wp2_with (refine wpList_store_whole rfl 29 _ _ rfl w.heap.size 29 (nums .u8 (zeros 32)) O (by rfl) (by rfl) HR.out (by rw [hl]; rfl) (by rw [hi2, hl]) ho ?_; intro w5 hF hO5)
  exact bodyPost_ret_by (results_cell_row Tryd.results9 _ _ _ _ _ _ _ (by rfl) hF hu2 rfl (by rw [hi2]; simp [hl])) rfl ⟨by rw [HO.out], hO5.below (Nat.le_refl _) HB.out⟩

set_option maxHeartbeats 800000 in
theorem dtwo_any (t u : ByteArray) (w : World) (hT : Tab w) (hsz : t.size ≤ 100000) (hsu : u.size ≤ 100000) : Calls Tryd.prog 11 #[.string t, .string u] w fun e w' => e = .returned (.agg (nums .u8 ((St.start.add t).add u).sum).toArray) ∧ Below w.heap.size w w' := by
  have HT := Lib.hid hT
  clear hT
  have hz1 := (St.start.add_size t)
  have hz3 := ((St.start.add t).add_size u)
  have hz2 : St.start.rest.size = 0 := rfl
  have HZ := Lib.hid hz2
  clear hz2
  have hu2 := Tryd.underlying29
  have hi2 : (Tryd.prog.info? 29).map (·.size) = some 32 := by kernel_rfl
  have hl : (nums .u8 ((St.start.add t).add u).sum).length = 32 := by simp [nums, St.sum, outs_length]
  have ho := nums_one .u8 ((St.start.add t).add u).sum
  go_enter Tryd.func11, Tryd.ntmps11
  go_wp2_with fail
  have HR := Lib.hid (Has.make w 29 (nums .u8 (zeros 32)))
  refine (dstart_any _).mono ?_; rintro e w1 ⟨rfl, hb1⟩
  replace HR := Lib.hid (HR.out.up hb1)
  have HB := Lib.hid ((up_alloc (Below.refl _ w) _).trans (hb1.mono (by simp)))
  clear hb1
  go_wp2_with fail
  refine (dadd_any St.start t _ (tab_up HT.out HB.out) (by rw [HZ.out]; omega)).mono ?_; rintro e w2 ⟨rfl, hb2⟩
  replace HR := Lib.hid (HR.out.up hb2)
  replace HB := Lib.hid (HB.out.trans (hb2.mono HB.out.size))
  clear hb2
  go_wp2_with fail
  refine (dadd_any (St.start.add t) u _ (tab_up HT.out HB.out) (by omega)).mono ?_; rintro e w4 ⟨rfl, hb4⟩
  replace HR := Lib.hid (HR.out.up hb4)
  replace HB := Lib.hid (HB.out.trans (hb4.mono HB.out.size))
  clear hb4
  go_wp2_with fail
  refine (dend_any ((St.start.add t).add u) _ (tab_up HT.out HB.out) (by omega)).mono ?_; rintro e w3 ⟨rfl, hb3⟩
  replace HR := Lib.hid (HR.out.up hb3)
  replace HB := Lib.hid (HB.out.trans (hb3.mono HB.out.size))
  clear hb3
  generalize hO : nums .u8 ((St.start.add t).add u).sum = O at *
  have HO := Lib.hid hO
  clear hO
  go_wp2_with (refine wpList_store_whole rfl 29 _ _ rfl w.heap.size 29 (nums .u8 (zeros 32)) O (by rfl) (by rfl) HR.out (by rw [hl]; rfl) (by rw [hi2, hl]) ho ?_; intro w5 hF hO5)
  exact bodyPost_ret_by (results_cell_row Tryd.results11 _ _ _ _ _ _ _ (by rfl) hF hu2 rfl (by rw [hi2]; simp [hl])) rfl ⟨by rw [HO.out], hO5.below (Nat.le_refl _) HB.out⟩

end Go.Proofs.YtanjebmpjenmiaaDoor
