/- The walk through an area's sectors: pieces, and its call next. -/
import Derived.Test.YtihajcjfppmfjaaArA
import Derived.Deep.RegionHeld3
import Derived.RegionTactic
namespace Go.Proofs.Ytihajcjfppmfjaa
open Go.RowKit Sec

theorem info_piece : (Try.prog.info? 55).map (·.size) = some 3 := by kernel_rfl

theorem results_piece {fn : Func} {p u : Tmp} (h : fn.results = #[.cell p 55, .tmp u]) (tmps : Array Value) (w : World) (g : Nat) (L : List Value) (v : Value)
    (hp : tmps.getD p undef = .pointer (some ⟨g, 0, none⟩)) (hg : Has w g 55 L) (hL : L.length = 3) (hv : tmps.getD u undef = v) :
    (results fn tmps).run Try.prog w = .ok (.tuple #[.agg L.toArray, v]) w := by
  have hi : (Try.prog.info? 55).map (·.size) = some L.toArray.size := by rw [List.size_toArray, hL, info_piece]
  rw [results_cell_tmp h, hp, hv]
  have := run_loadVar_row (P := Try.prog) w g 55 55 L.toArray (0, 0) _ hg Try.underlying55 rfl hi
  simp [asAddr, this]

/-- Numbers of a walk, as cells. -/
def wkc (f s p en : Nat) : List Value := [.int .i64 (f : Nat), .int .i64 (s : Nat), .int .i64 (p : Nat), .int .i64 (en : Nat)]
/-- .. of a piece. -/
def pcc (k lo hi : Nat) : List Value := [.int .i64 (k : Nat), .int .i64 (lo : Nat), .int .i64 (hi : Nat)]

/-- A walk at its end. -/
theorem next_end (g f s p en : Nat) (hp : en ≤ p) (w : World) (h : Has w g 70 (wkc f s p en)) :
    Calls Try.prog 30 #[.pointer (some ⟨g, 0, none⟩)] w fun e w' => e = .returned (.tuple #[.agg #[.int .i64 0, .int .i64 0, .int .i64 0], .bool false]) ∧ Below w.heap.size w w' := by
  have hp' : (en : Int) ≤ (p : Int) := by omega
  obtain ⟨w1, hw1⟩ : ∃ w1, w1 = w.alloc (.cells #[.int .i64 0, .int .i64 0, .int .i64 0] 55) := ⟨_, rfl⟩
  have hA : Has w1 w.heap.size 55 [.int .i64 0, .int .i64 0, .int .i64 0] := by rw [hw1]; exact Has.make w _ _
  have hG : Has w1 g 70 (wkc f s p en) := by rw [hw1]; exact h.alloc _
  have hB : Below w.heap.size w w1 := by rw [hw1]; exact up_alloc (Below.refl _ _) _
  have c2 := hG.at (i := 2) rfl
  have c3 := hG.at (i := 3) rfl
  have a0 := hA.at (i := 0) rfl
  have a1 := hA.at (i := 1) rfl
  have a2 := hA.at (i := 2) rfl
  have f0 := hA.free 0
  have f1 := hA.free 1
  have f2 := hA.free 2
  have HA := Lib.hid hA
  have HB := Lib.hid hB
  have HW := Lib.hid hw1
  clear h hp hA hG hB hw1
  go_enter Try.func30, Try.ntmps30
  go_wp2_with fail
  rw [← HW.out]
  go_quiet (fail)
  go_wp2_with fail
  refine bodyPost_ret_by (results_piece Try.results30 _ _ w.heap.size [.int .i64 0, .int .i64 0, .int .i64 0] (.bool false) (by rfl) ((((HA.out.drewN nq).set 0 (.int .i64 0)).set 1 (.int .i64 0)).set 2 (.int .i64 0)) rfl rfl) rfl ⟨rfl, ?_⟩
  exact (((below_drewN HB.out nq).setCell (p := ⟨w.heap.size, 0, none⟩) (Nat.le_refl _) _).setCell (p := ⟨w.heap.size, 1, none⟩) (Nat.le_refl _) _).setCell (p := ⟨w.heap.size, 2, none⟩) (Nat.le_refl _) _

set_option maxHeartbeats 8000000 in
/-- .. ahead of it. -/
theorem next_raw (g f s p en q k lo hi z pn : Nat) (hs : 0 < s) (hs2 : s ≤ 1024) (hf : f ≤ 4096) (hp : p < en) (he : en ≤ 4194304) (hq : p / s = q) (hk : f + q = k) (hlo : p % s = lo) (hhi : min s (lo + en - p) = hi) (hz : hi - lo = z) (hpn : p + z = pn) (w : World) (h : Has w g 70 (wkc f s p en)) :
    Calls Try.prog 30 #[.pointer (some ⟨g, 0, none⟩)] w fun e w' => e = .returned (.tuple #[.agg (pcc k lo hi).toArray, .bool true]) ∧
      Has w' g 70 (wkc f s pn en) ∧ Save (fun k => k = g) w w' := by
  have hp' : (p : Int) < (en : Int) := by omega
  have q1 := Nat.mod_lt p hs
  have q2 := Nat.div_le_self p s
  have hm : (p : Int) % (s : Int) = (lo : Int) := by rw [← hlo]; simp
  have hd : (p : Int) / (s : Int) = (q : Int) := by rw [← hq]; simp
  rw [hlo] at q1
  rw [hq] at q2
  have x1 : IntKind.i64.wrap (q : Int) = (q : Int) := IntWalk.i64_in _ (by omega)
  have x2 : IntKind.i64.wrap ((f : Int) + (q : Int)) = (k : Int) := by rw [IntWalk.i64_in _ (by omega)]; omega
  have x3 : IntKind.i64.wrap ((lo : Int) + (en : Int)) = (lo : Int) + (en : Int) := IntWalk.i64_in _ (by omega)
  have x4 : IntKind.i64.wrap ((lo : Int) + (en : Int) - (p : Int)) = (lo : Int) + (en : Int) - (p : Int) := IntWalk.i64_in _ (by omega)
  have x5 : (if (lo : Int) + (en : Int) - (p : Int) < (s : Int) then (lo : Int) + (en : Int) - (p : Int) else (s : Int)) = (hi : Int) := by split <;> omega
  have u1 : IntKind.i64.wrap ((hi : Int) - (lo : Int)) = (z : Int) := by rw [IntWalk.i64_in _ (by omega)]; omega
  have u2 : IntKind.i64.wrap ((p : Int) + (z : Int)) = (pn : Int) := by rw [IntWalk.i64_in _ (by omega)]; omega
  obtain ⟨w1, hw1⟩ : ∃ w1, w1 = w.alloc (.cells #[.int .i64 0, .int .i64 0, .int .i64 0] 55) := ⟨_, rfl⟩
  have hA : Has w1 w.heap.size 55 [.int .i64 0, .int .i64 0, .int .i64 0] := by rw [hw1]; exact Has.make w _ _
  have hG : Has w1 g 70 (wkc f s p en) := by rw [hw1]; exact h.alloc _
  have hB : Below w.heap.size w w1 := by rw [hw1]; exact up_alloc (Below.refl _ _) _
  have c0 := hG.at (i := 0) rfl
  have c1 := hG.at (i := 1) rfl
  have c2 := hG.at (i := 2) rfl
  have c3 := hG.at (i := 3) rfl
  have HA := Lib.hid hA
  have HG := Lib.hid hG
  have HB := Lib.hid hB
  have HW := Lib.hid hw1
  clear h hA hG hB hw1 hlo hq hhi hz hpn hk q1 q2 hs2 hf he
  go_enter Try.func30, Try.ntmps30
  go_wp2_with fail
  rw [← HW.out]
  go_quiet (fail)
  revert nq
  intro n1
  go_wp2_with fail
  go_quiet (fail)
  obtain ⟨w2, hw2⟩ : ∃ w2, w2 = (w1.drewN n1).drewN nq := ⟨_, rfl⟩
  rw [← hw2]
  have d0 : w2.cell? ⟨g, 0, none⟩ = some (.int .i64 (f : Nat)) := by rw [hw2]; exact c0
  have d1 : w2.cell? ⟨g, 1, none⟩ = some (.int .i64 (s : Nat)) := by rw [hw2]; exact c1
  have d2 : w2.cell? ⟨g, 2, none⟩ = some (.int .i64 (p : Nat)) := by rw [hw2]; exact c2
  have d3 : w2.cell? ⟨g, 3, none⟩ = some (.int .i64 (en : Nat)) := by rw [hw2]; exact c3
  have hG2 : Has w2 g 70 (wkc f s p en) := by rw [hw2]; exact (HG.out.drewN n1).drewN nq
  have HK := Lib.hid (show ∀ W, Below w2.heap.size w2 W → W.cell? ⟨g, 0, none⟩ = some (.int .i64 (f : Nat)) ∧ W.cell? ⟨g, 1, none⟩ = some (.int .i64 (s : Nat)) ∧ W.cell? ⟨g, 2, none⟩ = some (.int .i64 (p : Nat)) ∧ W.cell? ⟨g, 3, none⟩ = some (.int .i64 (en : Nat)) from fun W hb => ⟨(hG2.up hb).at rfl, (hG2.up hb).at rfl, (hG2.up hb).at rfl, (hG2.up hb).at rfl⟩)
  have hs1 : ¬ s = 0 := by omega
  have HG2 := Lib.hid hG2
  clear hG2
  have HW2 := Lib.hid hw2
  clear hw2 c0 c1 c2 c3
  go_wp2_with fail
  refine wp_region_held_drew (S := fun W => W.cell? ⟨g, 0, none⟩ = some (.int .i64 (f : Nat)) ∧ W.cell? ⟨g, 1, none⟩ = some (.int .i64 (s : Nat)) ∧ W.cell? ⟨g, 2, none⟩ = some (.int .i64 (p : Nat)) ∧ W.cell? ⟨g, 3, none⟩ = some (.int .i64 (en : Nat))) (by kernel_rfl) (HK.out _ (Below.refl _ _).drew) (fun hHeld => ?_)
  refine wpAnyH_take (i := 0) (v := ?_) rfl (by kernel_rfl) (by kernel_rfl) (by kernel_rfl) (fun _ _ _ h => h) (Or.inl ⟨by rfl, ?_⟩) (by assumption) ?_
  rotate_left
  · intro w hSw; (try dsimp only at hSw); go_simp; try with_reducible rfl
  try simp only [Act.put, List.getElem_toArray, List.getElem_cons_zero, List.setIfInBounds_toArray, List.set_cons_zero, List.set_cons_succ]
  refine wpAnyH_take (i := 1) (v := ?_) rfl (by kernel_rfl) (by kernel_rfl) (by kernel_rfl) (fun _ _ _ h => h) (Or.inl ⟨by rfl, ?_⟩) (by assumption) ?_
  rotate_left
  · intro w hSw; (try dsimp only at hSw); go_simp; try with_reducible rfl
  try simp only [Act.put, List.getElem_toArray, List.getElem_cons_zero, List.getElem_cons_succ, List.setIfInBounds_toArray, List.set_cons_zero, List.set_cons_succ]
  refine wpAnyH_take (i := 2) (v := ?_) rfl (by kernel_rfl) (by kernel_rfl) (by kernel_rfl) (fun _ _ _ h => h) (Or.inl ⟨by rfl, ?_⟩) (by assumption) ?_
  rotate_left
  · intro w hSw; (try dsimp only at hSw); go_simp; try with_reducible rfl
  try simp only [Act.put, List.getElem_toArray, List.getElem_cons_zero, List.getElem_cons_succ, List.setIfInBounds_toArray, List.set_cons_zero, List.set_cons_succ]
  refine wpAnyH_take (i := 3) (v := ?_) rfl (by kernel_rfl) (by kernel_rfl) (by kernel_rfl) (fun _ _ _ h => h) (Or.inl ⟨by rfl, ?_⟩) (by assumption) ?_
  rotate_left
  · intro w hSw; (try dsimp only at hSw); go_simp; try with_reducible rfl
  try simp only [Act.put, List.getElem_toArray, List.getElem_cons_zero, List.getElem_cons_succ, List.setIfInBounds_toArray, List.set_cons_zero, List.set_cons_succ]
  refine wpAnyH_take (i := 4) (v := ?_) rfl (by kernel_rfl) (by kernel_rfl) (by kernel_rfl) (fun _ _ _ h => h) (Or.inl ⟨by rfl, ?_⟩) (by assumption) ?_
  rotate_left
  · intro w hSw; (try dsimp only at hSw); go_simp; try with_reducible rfl
  try simp only [Act.put, List.getElem_toArray, List.getElem_cons_zero, List.getElem_cons_succ, List.setIfInBounds_toArray, List.set_cons_zero, List.set_cons_succ]
  refine wpAnyH_take (i := 5) (v := ?_) rfl (by kernel_rfl) (by kernel_rfl) (by kernel_rfl) (fun _ _ _ h => h) (Or.inl ⟨by rfl, ?_⟩) (by assumption) ?_
  rotate_left
  · intro w hSw; (try dsimp only at hSw); go_simp; try with_reducible rfl
  try simp only [Act.put, List.getElem_toArray, List.getElem_cons_zero, List.getElem_cons_succ, List.setIfInBounds_toArray, List.set_cons_zero, List.set_cons_succ]
  refine wpAnyH_take (i := 6) (v := ?_) rfl (by kernel_rfl) (by kernel_rfl) (by kernel_rfl) (fun _ _ _ h => h) (Or.inl ⟨by rfl, ?_⟩) (by assumption) ?_
  rotate_left
  · intro w hSw; (try dsimp only at hSw); go_simp; try with_reducible rfl
  try simp only [Act.put, List.getElem_toArray, List.getElem_cons_zero, List.getElem_cons_succ, List.setIfInBounds_toArray, List.set_cons_zero, List.set_cons_succ]
  refine wpAnyH_take (i := 7) (v := ?_) rfl (by kernel_rfl) (by kernel_rfl) (by kernel_rfl) (fun _ _ _ h => h) (Or.inl ⟨by rfl, ?_⟩) (by assumption) ?_
  rotate_left
  · intro w hSw; (try dsimp only at hSw); go_simp; try with_reducible rfl
  try simp only [Act.put, List.getElem_toArray, List.getElem_cons_zero, List.getElem_cons_succ, List.setIfInBounds_toArray, List.set_cons_zero, List.set_cons_succ]
  refine wpAnyH_take (i := 8) (v := ?_) rfl (by kernel_rfl) (by kernel_rfl) (by kernel_rfl) (fun _ _ _ h => h) (Or.inl ⟨by rfl, ?_⟩) (by assumption) ?_
  rotate_left
  · intro w hSw; (try dsimp only at hSw); go_simp; try with_reducible rfl
  try simp only [Act.put, List.getElem_toArray, List.getElem_cons_zero, List.getElem_cons_succ, List.setIfInBounds_toArray, List.set_cons_zero, List.set_cons_succ]
  refine wpAnyH_take (i := 9) (v := ?_) rfl (by kernel_rfl) (by kernel_rfl) (by kernel_rfl) (fun _ _ _ h => h) (Or.inl ⟨by rfl, ?_⟩) (by assumption) ?_
  rotate_left
  · intro w hSw; (try dsimp only at hSw); go_simp; try with_reducible rfl
  try simp only [Act.put, List.getElem_toArray, List.getElem_cons_zero, List.getElem_cons_succ, List.setIfInBounds_toArray, List.set_cons_zero, List.set_cons_succ]
  refine wpAnyH_take (i := 10) (v := ?_) rfl (by kernel_rfl) (by kernel_rfl) (by kernel_rfl) (fun _ _ _ h => h) (Or.inl ⟨by rfl, ?_⟩) (by assumption) ?_
  rotate_left
  · intro w hSw; (try dsimp only at hSw); go_simp; try with_reducible rfl
  try simp only [Act.put, List.getElem_toArray, List.getElem_cons_zero, List.getElem_cons_succ, List.setIfInBounds_toArray, List.set_cons_zero, List.set_cons_succ]
  refine wpAnyH_take (i := 11) (v := ?_) rfl (by kernel_rfl) (by kernel_rfl) (by kernel_rfl) (fun _ _ _ h => h) (Or.inl ⟨by rfl, ?_⟩) (by assumption) ?_
  rotate_left
  · intro w hSw; (try dsimp only at hSw); go_simp; try with_reducible rfl
  try simp only [Act.put, List.getElem_toArray, List.getElem_cons_zero, List.getElem_cons_succ, List.setIfInBounds_toArray, List.set_cons_zero, List.set_cons_succ]
  refine wpAnyH_take (i := 12) (v := ?_) rfl (by kernel_rfl) (by kernel_rfl) (by kernel_rfl) (fun _ _ _ h => h) (Or.inl ⟨by rfl, ?_⟩) (by assumption) ?_
  rotate_left
  · intro w hSw; (try dsimp only at hSw); go_simp; try with_reducible rfl
  try simp only [Act.put, List.getElem_toArray, List.getElem_cons_zero, List.getElem_cons_succ, List.setIfInBounds_toArray, List.set_cons_zero, List.set_cons_succ]
  refine wpAnyH_take (i := 13) (v := ?_) rfl (by kernel_rfl) (by kernel_rfl) (by kernel_rfl) (fun _ _ _ h => h) (Or.inl ⟨by rfl, ?_⟩) (by assumption) ?_
  rotate_left
  · intro w hSw; (try dsimp only at hSw); go_simp; try with_reducible rfl
  try simp only [Act.put, List.getElem_toArray, List.getElem_cons_zero, List.getElem_cons_succ, List.setIfInBounds_toArray, List.set_cons_zero, List.set_cons_succ]
  refine wpAnyH_take (i := 14) (v := ?_) rfl (by kernel_rfl) (by kernel_rfl) (by kernel_rfl) (fun _ _ _ h => h) (Or.inl ⟨by rfl, ?_⟩) (by assumption) ?_
  rotate_left
  · intro w hSw; (try dsimp only at hSw); go_simp; try with_reducible rfl
  try simp only [Act.put, List.getElem_toArray, List.getElem_cons_zero, List.getElem_cons_succ, List.setIfInBounds_toArray, List.set_cons_zero, List.set_cons_succ]
  refine wpAnyH_take (i := 15) (v := ?_) rfl (by kernel_rfl) (by kernel_rfl) (by kernel_rfl) (fun _ _ _ h => h) (Or.inl ⟨by rfl, ?_⟩) (by assumption) ?_
  rotate_left
  · intro w hSw; (try dsimp only at hSw); go_simp; try with_reducible rfl
  try simp only [Act.put, List.getElem_toArray, List.getElem_cons_zero, List.getElem_cons_succ, List.setIfInBounds_toArray, List.set_cons_zero, List.set_cons_succ]
  refine wpAnyH_take (i := 16) (v := ?_) rfl (by kernel_rfl) (by kernel_rfl) (by kernel_rfl) (fun _ _ _ h => h) (Or.inl ⟨by rfl, ?_⟩) (by assumption) ?_
  rotate_left
  · intro w hSw; (try dsimp only at hSw); go_simp; try with_reducible rfl
  try simp only [Act.put, List.getElem_toArray, List.getElem_cons_zero, List.getElem_cons_succ, List.setIfInBounds_toArray, List.set_cons_zero, List.set_cons_succ]
  refine wpAnyH_take (i := 17) (v := ?_) rfl (by kernel_rfl) (by kernel_rfl) (by kernel_rfl) (fun _ _ _ h => h) (Or.inl ⟨by rfl, ?_⟩) (by assumption) ?_
  rotate_left
  · intro w hSw; (try dsimp only at hSw); go_simp; try with_reducible rfl
  try simp only [Act.put, List.getElem_toArray, List.getElem_cons_zero, List.getElem_cons_succ, List.setIfInBounds_toArray, List.set_cons_zero, List.set_cons_succ]
  refine wpAnyH_take (i := 18) (v := ?_) rfl (by kernel_rfl) (by kernel_rfl) (by kernel_rfl) (fun _ _ _ h => h) (Or.inl ⟨by rfl, ?_⟩) (by assumption) ?_
  rotate_left
  · intro w hSw; (try dsimp only at hSw); go_simp; try with_reducible rfl
  try simp only [Act.put, List.getElem_toArray, List.getElem_cons_zero, List.getElem_cons_succ, List.setIfInBounds_toArray, List.set_cons_zero, List.set_cons_succ]
  refine wpAnyH_take (i := 19) (v := ?_) rfl (by kernel_rfl) (by kernel_rfl) (by kernel_rfl) (fun _ _ _ h => h) (Or.inl ⟨by rfl, ?_⟩) (by assumption) ?_
  rotate_left
  · intro w hSw; (try dsimp only at hSw); go_simp; try with_reducible rfl
  try simp only [Act.put, List.getElem_toArray, List.getElem_cons_zero, List.getElem_cons_succ, List.setIfInBounds_toArray, List.set_cons_zero, List.set_cons_succ]
  refine wpAnyH_take (i := 20) (v := ?_) rfl (by kernel_rfl) (by kernel_rfl) (by kernel_rfl) (fun _ _ _ h => h) (Or.inl ⟨by rfl, ?_⟩) (by assumption) ?_
  rotate_left
  · intro w hSw; (try dsimp only at hSw); go_simp; try with_reducible rfl
  try simp only [Act.put, List.getElem_toArray, List.getElem_cons_zero, List.getElem_cons_succ, List.setIfInBounds_toArray, List.set_cons_zero, List.set_cons_succ]
  refine wpAnyH_take (i := 21) (v := ?_) rfl (by kernel_rfl) (by kernel_rfl) (by kernel_rfl) (fun _ _ _ h => h) (Or.inl ⟨by rfl, ?_⟩) (by assumption) ?_
  rotate_left
  · intro w hSw; (try dsimp only at hSw); go_simp; try with_reducible rfl
  try simp only [Act.put, List.getElem_toArray, List.getElem_cons_zero, List.getElem_cons_succ, List.setIfInBounds_toArray, List.set_cons_zero, List.set_cons_succ]
  refine wpAnyH_take (i := 22) (v := ?_) rfl (by kernel_rfl) (by kernel_rfl) (by kernel_rfl) (fun _ _ _ h => h) (Or.inl ⟨by rfl, ?_⟩) (by assumption) ?_
  rotate_left
  · intro w hSw; (try dsimp only at hSw); go_simp; try with_reducible rfl
  try simp only [Act.put, List.getElem_toArray, List.getElem_cons_zero, List.getElem_cons_succ, List.setIfInBounds_toArray, List.set_cons_zero, List.set_cons_succ]
  refine wpAnyH_take (i := 23) (v := ?_) rfl (by kernel_rfl) (by kernel_rfl) (by kernel_rfl) (fun _ _ _ h => h) (Or.inl ⟨by rfl, ?_⟩) (by assumption) ?_
  rotate_left
  · intro w hSw; (try dsimp only at hSw); go_simp; try with_reducible rfl
  try simp only [Act.put, List.getElem_toArray, List.getElem_cons_zero, List.getElem_cons_succ, List.setIfInBounds_toArray, List.set_cons_zero, List.set_cons_succ]
  refine wpAnyH_take (i := 24) (v := ?_) rfl (by kernel_rfl) (by kernel_rfl) (by kernel_rfl) (fun _ _ _ h => h) (Or.inl ⟨by rfl, ?_⟩) (by assumption) ?_
  rotate_left
  · intro w hSw; (try dsimp only at hSw); go_simp; try with_reducible rfl
  try simp only [Act.put, List.getElem_toArray, List.getElem_cons_zero, List.getElem_cons_succ, List.setIfInBounds_toArray, List.set_cons_zero, List.set_cons_succ]
  refine wpAnyH_take (i := 25) (v := ?_) rfl (by kernel_rfl) (by kernel_rfl) (by kernel_rfl) (fun _ _ _ h => h) (Or.inl ⟨by rfl, ?_⟩) (by assumption) ?_
  rotate_left
  · intro w hSw; (try dsimp only at hSw); go_simp; try with_reducible rfl
  try simp only [Act.put, List.getElem_toArray, List.getElem_cons_zero, List.getElem_cons_succ, List.setIfInBounds_toArray, List.set_cons_zero, List.set_cons_succ]
  refine wpAnyH_take (i := 26) (v := ?_) rfl (by kernel_rfl) (by kernel_rfl) (by kernel_rfl) (fun _ _ _ h => h) (Or.inl ⟨by rfl, ?_⟩) (by assumption) ?_
  rotate_left
  · intro w hSw; (try dsimp only at hSw); go_simp; try with_reducible rfl
  try simp only [Act.put, List.getElem_toArray, List.getElem_cons_zero, List.getElem_cons_succ, List.setIfInBounds_toArray, List.set_cons_zero, List.set_cons_succ]
  refine wpAnyH_take (i := 27) (v := ?_) rfl (by kernel_rfl) (by kernel_rfl) (by kernel_rfl) (fun _ _ _ h => h) (Or.inl ⟨by rfl, ?_⟩) (by assumption) ?_
  rotate_left
  · intro w hSw; (try dsimp only at hSw); go_simp; try with_reducible rfl
  try simp only [Act.put, List.getElem_toArray, List.getElem_cons_zero, List.getElem_cons_succ, List.setIfInBounds_toArray, List.set_cons_zero, List.set_cons_succ]
  refine wpAnyH_take (i := 28) (v := ?_) rfl (by kernel_rfl) (by kernel_rfl) (by kernel_rfl) (fun _ _ _ h => h) (Or.inl ⟨by rfl, ?_⟩) (by assumption) ?_
  rotate_left
  · intro w hSw; (try dsimp only at hSw); go_simp; try with_reducible rfl
  try simp only [Act.put, List.getElem_toArray, List.getElem_cons_zero, List.getElem_cons_succ, List.setIfInBounds_toArray, List.set_cons_zero, List.set_cons_succ]
  refine wpAnyH_take (i := 29) (v := ?_) rfl (by kernel_rfl) (by kernel_rfl) (by kernel_rfl) (fun _ _ _ h => h) (Or.inl ⟨by rfl, ?_⟩) (by assumption) ?_
  rotate_left
  · intro w hSw; (try dsimp only at hSw); go_simp; try with_reducible rfl
  try simp only [Act.put, List.getElem_toArray, List.getElem_cons_zero, List.getElem_cons_succ, List.setIfInBounds_toArray, List.set_cons_zero, List.set_cons_succ]
  refine wpAnyH_take (i := 30) (v := ?_) rfl (by kernel_rfl) (by kernel_rfl) (by kernel_rfl) (fun _ _ _ h => h) (Or.inl ⟨by rfl, ?_⟩) (by assumption) ?_
  rotate_left
  · intro w hSw; (try dsimp only at hSw); go_simp; try with_reducible rfl
  try simp only [Act.put, List.getElem_toArray, List.getElem_cons_zero, List.getElem_cons_succ, List.setIfInBounds_toArray, List.set_cons_zero, List.set_cons_succ]
  refine wpAnyH_take (i := 31) (v := ?_) rfl (by kernel_rfl) (by kernel_rfl) (by kernel_rfl) (fun _ _ _ h => h) (Or.inl ⟨by rfl, ?_⟩) (by assumption) ?_
  rotate_left
  · intro w hSw; (try dsimp only at hSw); go_simp; try with_reducible rfl
  try simp only [Act.put, List.getElem_toArray, List.getElem_cons_zero, List.getElem_cons_succ, List.setIfInBounds_toArray, List.set_cons_zero, List.set_cons_succ]
  refine wpAnyH_ready (rs := [32]) (by kernel_rfl) (by simp) (AllReadyH.cons rfl (fun K hK => ?_) AllReadyH.nil)
  go_simp
  refine hK.out _ _ (HK.out _ (up_alloc (Below.refl _ _).drew _)) (fun hHeld => ?_)
  clear hK K
  try simp only [Act.put, List.getElem_toArray, List.getElem_cons_zero, List.getElem_cons_succ, List.setIfInBounds_toArray, List.set_cons_zero, List.set_cons_succ]
  refine wpAnyH_ready (rs := [33]) (by kernel_rfl) (by simp) (AllReadyH.cons rfl (fun K hK => ?_) AllReadyH.nil)
  go_simp
  refine hK.out _ _ (HK.out _ (up_alloc (Below.refl _ _).drew _)) (fun hHeld => ?_)
  clear hK K
  try simp only [Act.put, List.getElem_toArray, List.getElem_cons_zero, List.getElem_cons_succ]
  refine wpAnyH_done (by kernel_rfl) ?_ _
  skip
  obtain ⟨w3, hw3⟩ : ∃ w3, w3 = (w2.alloc (.cells #[.int .i64 (k : Nat), .int .i64 (lo : Nat), .int .i64 (hi : Nat)] 55)).drew := ⟨_, rfl⟩
  rw [← hw3]
  obtain ⟨b, hb⟩ : ∃ b, b = w2.heap.size := ⟨_, rfl⟩
  obtain ⟨r, hr⟩ : ∃ r, r = w.heap.size := ⟨_, rfl⟩
  rw [← hb, ← hr]
  have hwz : w.heap.size < w1.heap.size := HA.out.lt
  have hz2 : w2.heap.size = w1.heap.size := by rw [HW2.out]; rfl
  have hbr : b ≠ r := by omega
  have hgr : g ≠ r := HG.out.ne (by rw [hr]; exact HA.out) (by decide)
  have hgb : g ≠ b := by have := HG.out.lt; omega
  have hG3 : Has w3 g 70 (wkc f s p en) := by rw [hw3]; exact (HG2.out.alloc _).drew
  have hP3 : Has w3 b 55 (pcc k lo hi) := by rw [hw3, hb]; exact (Has.make w2 55 (pcc k lo hi)).drew
  have hR3 : Has w3 r 55 [.int .i64 0, .int .i64 0, .int .i64 0] := by
    rw [hw3, hr]
    exact ((show Has w2 _ _ _ by rw [HW2.out]; exact (HA.out.drewN n1).drewN nq).alloc _).drew
  have hB3 : Below w.heap.size w w3 := by
    rw [hw3]
    have h2 : Below w.heap.size w w2 := by rw [HW2.out]; exact below_drewN (below_drewN HB.out n1) nq
    exact (h2.alloc h2.size _).drew
  have e2 := hG3.at (i := 2) rfl
  have e3 := hG3.free 2
  have p0 := hP3.at (i := 0) rfl
  have p1 := hP3.at (i := 1) rfl
  have p2 := hP3.at (i := 2) rfl
  have r0 := hR3.at (i := 0) rfl
  have r1 := hR3.at (i := 1) rfl
  have r2 := hR3.at (i := 2) rfl
  have f0 := hR3.free 0
  have f1 := hR3.free 1
  have f2 := hR3.free 2
  have G3 := Lib.hid hG3
  have P3 := Lib.hid hP3
  have R3 := Lib.hid hR3
  have B3 := Lib.hid hB3
  have HR := Lib.hid hr
  have HB0 := Lib.hid hb
  clear hw3 d0 d1 d2 d3 HK hb hr hwz hz2 hG3 hP3 hR3 hB3 HA HB HG HG2
  go_wp2_with fail
  go_still_tail 11, (by kernel_rfl)
  change wpList _ _ _ _ _ w3.drew
  go_wp2_with fail
  have hR5 := ((((Save.one w3 g 2 (.int .i64 (pn : Nat))).has R3.out (fun e => hgr e.symm)).set 0 (.int .i64 (k : Nat))).set 1 (.int .i64 (lo : Nat))).set 2 (.int .i64 (hi : Nat))
  have hG5 := (Save.one _ r 2 (.int .i64 (hi : Nat))).has ((Save.one _ r 1 (.int .i64 (lo : Nat))).has ((Save.one _ r 0 (.int .i64 (k : Nat))).has (G3.out.set 2 (.int .i64 (pn : Nat))) hgr) hgr) hgr
  have hr : w.heap.size ≤ r := by rw [HR.out]; exact Nat.le_refl _
  refine bodyPost_ret_by (results_piece Try.results30 _ _ r (pcc k lo hi) (.bool true) (by rfl) hR5.drew rfl rfl) rfl ⟨rfl, hG5.drew, ?_⟩
  exact (((((Save.up (F := fun k => k = g) B3.out).setCell (p := ⟨g, 2, none⟩) (Or.inl rfl) _).setCell (p := ⟨r, 0, none⟩) (Or.inr hr) _).setCell (p := ⟨r, 1, none⟩) (Or.inr hr) _).setCell (p := ⟨r, 2, none⟩) (Or.inr hr) _).drew

/-- A walk that has come to a piece of n bytes from the place o on, behind j of them. -/
theorem next_piece (g f s o n j : Nat) (hs : 0 < s) (hs2 : s ≤ 1024) (hf : f ≤ 4096) (he : o + n ≤ 4194304) (h : pos s o n j < o + n) (w : World) (hg : Has w g 70 (wkc f s (pos s o n j) (o + n))) :
    Calls Try.prog 30 #[.pointer (some ⟨g, 0, none⟩)] w fun e w' =>
      e = .returned (.tuple #[.agg (pcc (f + (o / s + j)) (pos s o n j % s) (min s (pos s o n j % s + (o + n) - pos s o n j))).toArray, .bool true]) ∧ Has w' g 70 (wkc f s (pos s o n (j + 1)) (o + n)) ∧ Save (fun k => k = g) w w' := by
  rw [pos_step hs h, ← pos_mid hs h]
  exact next_raw g f s _ (o + n) _ _ _ _ _ _ hs hs2 hf h he rfl rfl rfl rfl rfl rfl w hg

/-- pieces: a walk, made. -/
theorem pieces_any {F : Nat → Prop} {w : World} {a d : Nat} {D : Dk} {f m : Nat} (h : Arr F w a d D f m) (o n : Nat) (ho : o + n ≤ 4194304) :
    Calls Try.prog 20 #[ap a, .int .i64 (o : Nat), .int .i64 (n : Nat)] w fun e w' => ∃ g, e = .returned (.func (.func 30) #[.pointer (some ⟨g, 0, none⟩)] #[]) ∧ w.heap.size ≤ g ∧ Has w' g 70 (wkc f D.size o (o + n)) ∧ Below w.heap.size w w' := by
  have C := Lib.hid (fun W (hb : Below w.heap.size w W) => (asize_any (h.up hb)).mono fun e w' ⟨he, k, hk⟩ => (show e = _ ∧ Below W.heap.size W w' from ⟨he, hk ▸ drewN_below k⟩))
  have HK := Lib.hid (show ∀ W, Below w.heap.size w W → W.cell? ⟨a, 1, none⟩ = some (.int .i64 (f : Nat)) from fun W hb => (h.hA.up hb).at rfl)
  have u1 : IntKind.i64.wrap ((o : Int) + (n : Int)) = ((o + n : Nat) : Int) := by rw [IntWalk.i64_in _ (by omega)]; omega
  obtain ⟨en, hen⟩ : ∃ en, en = o + n := ⟨_, rfl⟩
  rw [← hen] at u1 ⊢
  clear hen ho h
  go_enter Try.func20, Try.ntmps20
  go_wp2_with fail
  refine wp_region_held_drew (S := fun W => W.cell? ⟨a, 1, none⟩ = some (.int .i64 (f : Nat))) (by kernel_rfl) (HK.out _ (Below.refl _ _).drew) (fun hHeld => ?_)
  refine wpAnyH_take (i := 0) (v := ?_) rfl (by kernel_rfl) (by kernel_rfl) (by kernel_rfl) (fun _ _ _ h => h) (Or.inl ⟨by rfl, ?_⟩) (by assumption) ?_
  rotate_left
  · intro w hSw; (try dsimp only at hSw); go_simp; try with_reducible rfl
  try simp only [Act.put, List.getElem_toArray, List.getElem_cons_zero, List.setIfInBounds_toArray, List.set_cons_zero, List.set_cons_succ]
  refine wpAnyH_take (i := 1) (v := ?_) rfl (by kernel_rfl) (by kernel_rfl) (by kernel_rfl) (fun _ _ _ h => h) (Or.inl ⟨by rfl, ?_⟩) (by assumption) ?_
  rotate_left
  · intro w hSw; (try dsimp only at hSw); go_simp; try with_reducible rfl
  try simp only [Act.put, List.getElem_toArray, List.getElem_cons_zero, List.getElem_cons_succ, List.setIfInBounds_toArray, List.set_cons_zero, List.set_cons_succ]
  refine wpAnyH_take (i := 2) (v := ?_) rfl (by kernel_rfl) (by kernel_rfl) (by kernel_rfl) (fun _ _ _ h => h) (Or.inl ⟨by rfl, ?_⟩) (by assumption) ?_
  rotate_left
  · intro w hSw; (try dsimp only at hSw); go_simp; try with_reducible rfl
  try simp only [Act.put, List.getElem_toArray, List.getElem_cons_zero, List.getElem_cons_succ, List.setIfInBounds_toArray, List.set_cons_zero, List.set_cons_succ]
  refine wpAnyH_take (i := 3) (v := ?_) rfl (by kernel_rfl) (by kernel_rfl) (by kernel_rfl) (fun _ _ _ h => h) (Or.inl ⟨by rfl, ?_⟩) (by assumption) ?_
  rotate_left
  · intro w hSw; (try dsimp only at hSw); go_simp; try with_reducible rfl
  try simp only [Act.put, List.getElem_toArray, List.getElem_cons_zero, List.getElem_cons_succ, List.setIfInBounds_toArray, List.set_cons_zero, List.set_cons_succ]
  refine wpAnyH_take (i := 4) (v := ?_) rfl (by kernel_rfl) (by kernel_rfl) (by kernel_rfl) (fun _ _ _ h => h) (Or.inl ⟨by rfl, ?_⟩) (by assumption) ?_
  rotate_left
  · intro w hSw; (try dsimp only at hSw); go_simp; try with_reducible rfl
  try simp only [Act.put, List.getElem_toArray, List.getElem_cons_zero, List.getElem_cons_succ, List.setIfInBounds_toArray, List.set_cons_zero, List.set_cons_succ]
  refine wpAnyH_take (i := 6) (v := ?_) rfl (by kernel_rfl) (by kernel_rfl) (by kernel_rfl) (fun _ _ _ h => h) (Or.inl ⟨by rfl, ?_⟩) (by assumption) ?_
  rotate_left
  · intro w hSw; (try dsimp only at hSw); go_simp; try with_reducible rfl
  try simp only [Act.put, List.getElem_toArray, List.getElem_cons_zero, List.getElem_cons_succ, List.setIfInBounds_toArray, List.set_cons_zero, List.set_cons_succ]
  refine wpAnyH_take (i := 7) (v := ?_) rfl (by kernel_rfl) (by kernel_rfl) (by kernel_rfl) (fun _ _ _ h => h) (Or.inl ⟨by rfl, ?_⟩) (by assumption) ?_
  rotate_left
  · intro w hSw; (try dsimp only at hSw); go_simp; try with_reducible rfl
  try simp only [Act.put, List.getElem_toArray, List.getElem_cons_zero, List.getElem_cons_succ, List.setIfInBounds_toArray, List.set_cons_zero, List.set_cons_succ]
  refine wpAnyH_take (i := 8) (v := ?_) rfl (by kernel_rfl) (by kernel_rfl) (by kernel_rfl) (fun _ _ _ h => h) (Or.inl ⟨by rfl, ?_⟩) (by assumption) ?_
  rotate_left
  · intro w hSw; (try dsimp only at hSw); go_simp; try with_reducible rfl
  try simp only [Act.put, List.getElem_toArray, List.getElem_cons_zero, List.getElem_cons_succ, List.setIfInBounds_toArray, List.set_cons_zero, List.set_cons_succ]
  refine wpAnyH_take (i := 9) (v := ?_) rfl (by kernel_rfl) (by kernel_rfl) (by kernel_rfl) (fun _ _ _ h => h) (Or.inl ⟨by rfl, ?_⟩) (by assumption) ?_
  rotate_left
  · intro w hSw; (try dsimp only at hSw); go_simp; try with_reducible rfl
  try simp only [Act.put, List.getElem_toArray, List.getElem_cons_zero, List.getElem_cons_succ, List.setIfInBounds_toArray, List.set_cons_zero, List.set_cons_succ]
  refine wpAnyH_ready (rs := [5]) (by kernel_rfl) (by simp) (AllReadyH.cons rfl (fun K hK => ?_) AllReadyH.nil)
  go_simp
  refine (C.out _ (Below.refl _ _).drew).mono ?_; rintro e wn ⟨rfl, hbn'⟩
  have hbn : Below w.heap.size w wn := up_trans (Below.refl _ _).drew hbn'
  clear hbn'
  go_wp2_with fail
  refine hK.out _ _ (HK.out _ hbn) (fun hHeld => ?_)
  clear hK K
  try simp only [Act.put, List.getElem_toArray, List.getElem_cons_zero, List.getElem_cons_succ, List.setIfInBounds_toArray, List.set_cons_zero, List.set_cons_succ]
  refine wpAnyH_take (i := 10) (v := ?_) rfl (by kernel_rfl) (by kernel_rfl) (by kernel_rfl) (fun _ _ _ h => h) (Or.inl ⟨by rfl, ?_⟩) (by assumption) ?_
  rotate_left
  · intro w hSw; (try dsimp only at hSw); go_simp; try with_reducible rfl
  try simp only [Act.put, List.getElem_toArray, List.getElem_cons_zero, List.getElem_cons_succ, List.setIfInBounds_toArray, List.set_cons_zero, List.set_cons_succ]
  refine wpAnyH_ready (rs := [11]) (by kernel_rfl) (by simp) (AllReadyH.cons rfl (fun K hK => ?_) AllReadyH.nil)
  go_simp
  refine hK.out _ _ (HK.out _ (up_alloc hbn _)) (fun hHeld => ?_)
  clear hK K
  try simp only [Act.put, List.getElem_toArray, List.getElem_cons_zero, List.getElem_cons_succ, List.setIfInBounds_toArray, List.set_cons_zero, List.set_cons_succ]
  refine wpAnyH_take (i := 12) (v := ?_) rfl (by kernel_rfl) (by kernel_rfl) (by kernel_rfl) (fun _ _ _ h => h) (Or.inl ⟨by rfl, ?_⟩) (by assumption) ?_
  rotate_left
  · intro w hSw; (try dsimp only at hSw); go_simp; try with_reducible rfl
  try simp only [Act.put, List.getElem_toArray, List.getElem_cons_zero, List.getElem_cons_succ, List.setIfInBounds_toArray, List.set_cons_zero, List.set_cons_succ]
  refine wpAnyH_done (by kernel_rfl) ?_ _
  skip
  go_wp2_with fail
  go_ret
  exact ⟨wn.heap.size, rfl, hbn.size, Has.make wn _ (wkc f D.size o en), hbn.alloc hbn.size _⟩

end Go.Proofs.Ytihajcjfppmfjaa
