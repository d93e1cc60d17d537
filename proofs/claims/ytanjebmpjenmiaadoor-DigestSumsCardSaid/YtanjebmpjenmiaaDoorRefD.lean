/- The other side's block: contract of blackboxref02.block. -/
import Derived.Test.YtanjebmpjenmiaaDoorRefC
namespace Go.Proofs.YtanjebmpjenmiaaDoor
open Go.RowKit Word

attribute [local go_sem ↓] shl_nat shr_nat shl_lit shr_lit
attribute [local go_sem] wrap_add bits_xor bits_and bits_or wrap_less bits_not wrap_byte wrap_bt

/-- Eight words, the first k of them with those of another row added. -/
def W8.list (v : W8) : List Nat := [v.a, v.b, v.c, v.d, v.e, v.f, v.g, v.h]
def mix (u v : W8) (k : Nat) : List Nat := (List.range 8).map fun i => if i < k then p32 (u.list.getD i 0) (v.list.getD i 0) else u.list.getD i 0

theorem mix_zero (u v : W8) : nums .u32 (mix u v 0) = u.cells := rfl
theorem mix_eight (u v : W8) : nums .u32 (mix u v 8) = (v.plus u).cells := by
  have c : ∀ a b, p32 a b = p32 b a := fun a b => by unfold p32; rw [Nat.add_comm]
  show nums .u32 [p32 u.a v.a, p32 u.b v.b, p32 u.c v.c, p32 u.d v.d, p32 u.e v.e, p32 u.f v.f, p32 u.g v.g, p32 u.h v.h] = _
  rw [c u.a, c u.b, c u.c, c u.d, c u.e, c u.f, c u.g, c u.h]
  rfl
theorem mix_at (u v : W8) (k : Nat) (h : k < 8) : (nums .u32 (mix u v k))[k]? = some (.int .u32 (u.list.getD k 0 : Nat)) := by
  match k, h with
  | 0, _ => rfl
  | 1, _ => rfl
  | 2, _ => rfl
  | 3, _ => rfl
  | 4, _ => rfl
  | 5, _ => rfl
  | 6, _ => rfl
  | 7, _ => rfl
theorem mix_set (u v : W8) (k : Nat) (h : k < 8) : (nums .u32 (mix u v k)).set k (.int .u32 (p32 (u.list.getD k 0) (v.list.getD k 0) : Nat)) = nums .u32 (mix u v (k + 1)) := by
  match k, h with
  | 0, _ => rfl
  | 1, _ => rfl
  | 2, _ => rfl
  | 3, _ => rfl
  | 4, _ => rfl
  | 5, _ => rfl
  | 6, _ => rfl
  | 7, _ => rfl
theorem cells_at (v : W8) (k : Nat) (h : k < 8) : v.cells[k]? = some (.int .u32 (v.list.getD k 0 : Nat)) := by
  match k, h with
  | 0, _ => rfl
  | 1, _ => rfl
  | 2, _ => rfl
  | 3, _ => rfl
  | 4, _ => rfl
  | 5, _ => rfl
  | 6, _ => rfl
  | 7, _ => rfl

theorem W8.length (v : W8) : v.cells.length = 8 := rfl

theorem rnd_raw (a b c d e f g h k x : Nat) : rnd ⟨a, b, c, d, e, f, g, h⟩ k x =
    ⟨p32 (p32 (p32 (p32 (p32 h (x32 (x32 (rr e 6) (rr e 11)) (rr e 25))) (x32 (a32 e f) (a32 (n32 e) g))) k) x) (p32 (x32 (x32 (rr a 2) (rr a 13)) (rr a 22)) (x32 (x32 (a32 a b) (a32 a c)) (a32 b c))), a, b, c,
      p32 d (p32 (p32 (p32 (p32 h (x32 (x32 (rr e 6) (rr e 11)) (rr e 25))) (x32 (a32 e f) (a32 (n32 e) g))) k) x), e, f, g⟩ := by
  rw [rrs3, rrs3]; rfl

set_option maxHeartbeats 1600000 in
set_option maxRecDepth 100000 in
theorem block_any (v : W8) (s : ByteArray) (hs : s.size = 64) (w : World) :
    Calls Tryd.prog 26 #[.agg v.cells.toArray, .string s] w fun e w' => e = .returned (.agg (comp v s.data.toList).cells.toArray) ∧ Below w.heap.size w w' := by
  have hi8 : (Tryd.prog.info? 23).map (·.size) = some 8 := by kernel_rfl
  have hu8 := Tryd.underlying23
  go_enter Tryd.func26, Tryd.ntmps26
  go_wp2_with fail
  refine (words_any s hs _).mono ?_; rintro e w1 ⟨V, rfl, hO, hb1⟩
  have hA : Has w1 w.heap.size 23 v.cells := ((Has.make w 23 v.cells).alloc _).up hb1
  have hR : Has w1 (w.heap.size + 1) 23 (nums .u32 (zeros 8)) := (Has.make2 w _ 23 (nums .u32 (zeros 8))).up hb1
  have hB : Below w.heap.size w w1 := (up_alloc (up_alloc (Below.refl _ _) _) _).trans (hb1.mono (by simp; omega))
  have hz : w.heap.size + 2 ≤ w1.heap.size := by have := hb1.size; simp at this; omega
  clear hb1
  have hl : (sched s.data.toList 48).length = 64 := sched_length _ 48
  obtain ⟨gw, cap, hV, hgw, hcap, hcell⟩ := hO.opened (by omega)
  rw [hl] at hV hcap
  subst hV
  have HWD := Lib.hid (show ∀ j, j < 64 → w1.cell? ⟨gw, j, none⟩ = some (.int .u32 (wordAt s.data.toList j : Nat)) from fun j hj => hcell j _ (sched_cell _ _ _ (by omega)))
  have HA := Lib.hid hA
  have HR := Lib.hid hR
  clear hA hR hO hcell hl hgw
  go_wp2_with (first
    | (refine wpList_load_row rfl 23 _ rfl w.heap.size (by rfl) _ _ _ _ HA.out hu8 rfl (by rw [hi8]; rfl) ?_)
    | (refine wpList_store_whole rfl 23 _ _ rfl w1.heap.size 23 (nums .u32 (zeros 8)) v.cells (by rfl) (by rfl) (Has.make w1 _ _) (by rfl) (by rw [hi8]; rfl) (nums_one _ _) ?_; intro w2 hW hO))
  have hB2 := hO.below (B := w1.heap.size) (a := w1) (Nat.le_refl _) (up_alloc (Below.refl _ _) _)
  have HB2 := Lib.hid hB2
  have HW := Lib.hid hW
  clear hB2 hW hO
  go_loopw [7, 8, 9, 10, 11] (fun i _ _ _ _ wr => ∃ t : Nat, t ≤ 64 ∧ i = .int .i64 t ∧ Has wr w1.heap.size 23 (rounds v (wordAt s.data.toList) t).cells ∧ Below w1.heap.size w1 wr) (fun i _ _ _ _ _ => 64 - (intOf i).toNat)
  case atStart => exact ⟨0, by omega, rfl, HW.out, HB2.out⟩
  case round =>
    clear HB2 HW
    obtain ⟨t, ht, rfl, hW, hb⟩ := hrel
    have HW := Lib.hid hW
    have HB := Lib.hid hb
    clear hW hb
    have HN := Lib.hid (show rounds v (wordAt s.data.toList) (t + 1) = rnd (rounds v (wordAt s.data.toList) t) (kc t) (wordAt s.data.toList t) from rfl)
    generalize hu : rounds v (wordAt s.data.toList) t = u at *
    have HU := Lib.hid hu
    clear hu
    obtain ⟨ua, ub, uc, ud, ue, uf, ug, uh⟩ := u
    rw [rnd_raw] at HN
    by_cases hlt : t < 64
    · have c0 : wr.cell? ⟨w1.heap.size, 0, none⟩ = some (.int .u32 (ua : Nat)) := HW.out.at rfl
      have c1 : wr.cell? ⟨w1.heap.size, 1, none⟩ = some (.int .u32 (ub : Nat)) := HW.out.at rfl
      have c2 : wr.cell? ⟨w1.heap.size, 2, none⟩ = some (.int .u32 (uc : Nat)) := HW.out.at rfl
      have c3 : wr.cell? ⟨w1.heap.size, 3, none⟩ = some (.int .u32 (ud : Nat)) := HW.out.at rfl
      have c4 : wr.cell? ⟨w1.heap.size, 4, none⟩ = some (.int .u32 (ue : Nat)) := HW.out.at rfl
      have c5 : wr.cell? ⟨w1.heap.size, 5, none⟩ = some (.int .u32 (uf : Nat)) := HW.out.at rfl
      have c6 : wr.cell? ⟨w1.heap.size, 6, none⟩ = some (.int .u32 (ug : Nat)) := HW.out.at rfl
      have c7 : wr.cell? ⟨w1.heap.size, 7, none⟩ = some (.int .u32 (uh : Nat)) := HW.out.at rfl
      have cw : wr.cell? ⟨gw, t, none⟩ = some (.int .u32 (wordAt s.data.toList t : Nat)) := (HB.out.cell (p := ⟨gw, t, none⟩) (block_lt_of_cell (HWD.out t hlt))).trans (HWD.out t hlt)
      have t0 : (0 : Int) ≤ (t : Int) := by omega
      have t1 : (t : Int) < 64 := by omega
      have HC := Lib.hid (fun w => constant_any t hlt w)
      generalize wordAt s.data.toList t = wt at *
      generalize kc t = kt at *
      have HK := Lib.hid (show ∀ W, Below wr.heap.size wr W → W.cell? ⟨w1.heap.size, 5, none⟩ = some (.int .u32 (uf : Nat)) ∧ W.cell? ⟨w1.heap.size, 6, none⟩ = some (.int .u32 (ug : Nat)) ∧ W.cell? ⟨w1.heap.size, 7, none⟩ = some (.int .u32 (uh : Nat)) ∧ W.cell? ⟨gw, t, none⟩ = some (.int .u32 (wt : Nat)) from
        fun W h => ⟨(h.cell (p := ⟨w1.heap.size, 5, none⟩) (block_lt_of_cell c5)).trans c5, (h.cell (p := ⟨w1.heap.size, 6, none⟩) (block_lt_of_cell c6)).trans c6, (h.cell (p := ⟨w1.heap.size, 7, none⟩) (block_lt_of_cell c7)).trans c7, (h.cell (p := ⟨gw, t, none⟩) (block_lt_of_cell cw)).trans cw⟩)
      go_wp2_with fail
      clear c0 c1 c2 c3 c4 c5 c6 c7 cw
      refine wp_region_held_drew (S := fun W => W.cell? ⟨w1.heap.size, 5, none⟩ = some (.int .u32 (uf : Nat)) ∧ W.cell? ⟨w1.heap.size, 6, none⟩ = some (.int .u32 (ug : Nat)) ∧ W.cell? ⟨w1.heap.size, 7, none⟩ = some (.int .u32 (uh : Nat)) ∧ W.cell? ⟨gw, t, none⟩ = some (.int .u32 (wt : Nat))) (by kernel_rfl) (HK.out _ (Below.refl _ _).drew) (fun hHeld => ?_)
      refine wpAnyH_take (i := 0) (v := ?_) rfl (by kernel_rfl) (by kernel_rfl) (by kernel_rfl) (fun _ _ _ h => h) (Or.inl ⟨by rfl, ?_⟩) (by assumption) ?_
      rotate_left
      · intro w hSw; (try dsimp only at hSw); go_simp; try with_reducible rfl
      try simp only [Act.put, List.getElem_toArray, List.getElem_cons_zero, List.setIfInBounds_toArray, List.set_cons_zero, List.set_cons_succ]
      refine wpAnyH_take (i := 1) (v := ?_) rfl (by kernel_rfl) (by kernel_rfl) (by kernel_rfl) (fun _ _ _ h => h) (Or.inl ⟨by rfl, ?_⟩) (by assumption) ?_
      rotate_left
      · intro w hSw; (try dsimp only at hSw); go_simp; try with_reducible rfl
      try simp only [Act.put, List.getElem_toArray, List.getElem_cons_zero, List.getElem_cons_succ, List.setIfInBounds_toArray, List.set_cons_zero, List.set_cons_succ]
      refine wpAnyH_take (i := 2) (v := ?_) rfl (by kernel_rfl) (by kernel_rfl) (by kernel_rfl) (fun _ _ _ h => h) (Or.inl ⟨by rfl, ?_⟩) (by assumption) ?_
      rotate_left
      · intro w hSw; (try dsimp only at hSw); go_simp; try with_reducible rfl
      try simp only [Act.put, List.getElem_toArray, List.getElem_cons_zero, List.getElem_cons_succ, List.setIfInBounds_toArray, List.set_cons_zero, List.set_cons_succ]
      refine wpAnyH_take (i := 4) (v := ?_) rfl (by kernel_rfl) (by kernel_rfl) (by kernel_rfl) (fun _ _ _ h => h) (Or.inl ⟨by rfl, ?_⟩) (by assumption) ?_
      rotate_left
      · intro w hSw; (try dsimp only at hSw); go_simp; try with_reducible rfl
      try simp only [Act.put, List.getElem_toArray, List.getElem_cons_zero, List.getElem_cons_succ, List.setIfInBounds_toArray, List.set_cons_zero, List.set_cons_succ]
      refine wpAnyH_take (i := 7) (v := ?_) rfl (by kernel_rfl) (by kernel_rfl) (by kernel_rfl) (fun _ _ _ h => h) (Or.inl ⟨by rfl, ?_⟩) (by assumption) ?_
      rotate_left
      · intro w hSw; (try dsimp only at hSw); go_simp; try with_reducible rfl
      try simp only [Act.put, List.getElem_toArray, List.getElem_cons_zero, List.getElem_cons_succ, List.setIfInBounds_toArray, List.set_cons_zero, List.set_cons_succ]
      refine wpAnyH_take (i := 11) (v := ?_) rfl (by kernel_rfl) (by kernel_rfl) (by kernel_rfl) (fun _ _ _ h => h) (Or.inl ⟨by rfl, ?_⟩) (by assumption) ?_
      rotate_left
      · intro w hSw; (try dsimp only at hSw); go_simp; try with_reducible rfl
      try simp only [Act.put, List.getElem_toArray, List.getElem_cons_zero, List.getElem_cons_succ, List.setIfInBounds_toArray, List.set_cons_zero, List.set_cons_succ]
      refine wpAnyH_take (i := 12) (v := ?_) rfl (by kernel_rfl) (by kernel_rfl) (by kernel_rfl) (fun _ _ _ h => h) (Or.inl ⟨by rfl, ?_⟩) (by assumption) ?_
      rotate_left
      · intro w hSw; (try dsimp only at hSw); go_simp; try with_reducible rfl
      try simp only [Act.put, List.getElem_toArray, List.getElem_cons_zero, List.getElem_cons_succ, List.setIfInBounds_toArray, List.set_cons_zero, List.set_cons_succ]
      refine wpAnyH_take (i := 13) (v := ?_) rfl (by kernel_rfl) (by kernel_rfl) (by kernel_rfl) (fun _ _ _ h => h) (Or.inl ⟨by rfl, ?_⟩) (by assumption) ?_
      rotate_left
      · intro w hSw; (try dsimp only at hSw); go_simp; try with_reducible rfl
      try simp only [Act.put, List.getElem_toArray, List.getElem_cons_zero, List.getElem_cons_succ, List.setIfInBounds_toArray, List.set_cons_zero, List.set_cons_succ]
      refine wpAnyH_take (i := 14) (v := ?_) rfl (by kernel_rfl) (by kernel_rfl) (by kernel_rfl) (fun _ _ _ h => h) (Or.inl ⟨by rfl, ?_⟩) (by assumption) ?_
      rotate_left
      · intro w hSw; (try dsimp only at hSw); go_simp; try with_reducible rfl
      try simp only [Act.put, List.getElem_toArray, List.getElem_cons_zero, List.getElem_cons_succ, List.setIfInBounds_toArray, List.set_cons_zero, List.set_cons_succ]
      refine wpAnyH_take (i := 15) (v := ?_) rfl (by kernel_rfl) (by kernel_rfl) (by kernel_rfl) (fun _ _ _ h => h) (Or.inl ⟨by rfl, ?_⟩) (by assumption) ?_
      rotate_left
      · intro w hSw; (try dsimp only at hSw); go_simp; try with_reducible rfl
      try simp only [Act.put, List.getElem_toArray, List.getElem_cons_zero, List.getElem_cons_succ, List.setIfInBounds_toArray, List.set_cons_zero, List.set_cons_succ]
      refine wpAnyH_take (i := 16) (v := ?_) rfl (by kernel_rfl) (by kernel_rfl) (by kernel_rfl) (fun _ _ _ h => h) (Or.inl ⟨by rfl, ?_⟩) (by assumption) ?_
      rotate_left
      · intro w hSw; (try dsimp only at hSw); go_simp; try with_reducible rfl
      try simp only [Act.put, List.getElem_toArray, List.getElem_cons_zero, List.getElem_cons_succ, List.setIfInBounds_toArray, List.set_cons_zero, List.set_cons_succ]
      refine wpAnyH_take (i := 17) (v := ?_) rfl (by kernel_rfl) (by kernel_rfl) (by kernel_rfl) (fun _ _ _ h => h) (Or.inl ⟨by rfl, ?_⟩) (by assumption) ?_
      rotate_left
      · intro w hSw; (try dsimp only at hSw); go_simp; try with_reducible rfl
      try simp only [Act.put, List.getElem_toArray, List.getElem_cons_zero, List.getElem_cons_succ, List.setIfInBounds_toArray, List.set_cons_zero, List.set_cons_succ]
      refine wpAnyH_take (i := 18) (v := ?_) rfl (by kernel_rfl) (by kernel_rfl) (by kernel_rfl) (fun _ _ _ h => h) (Or.inl ⟨by rfl, ?_⟩) (by assumption) ?_
      rotate_left
      · intro w hSw; (try dsimp only at hSw); go_simp; try with_reducible rfl
      try simp only [Act.put, List.getElem_toArray, List.getElem_cons_zero, List.getElem_cons_succ, List.setIfInBounds_toArray, List.set_cons_zero, List.set_cons_succ]
      refine wpAnyH_take (i := 19) (v := ?_) rfl (by kernel_rfl) (by kernel_rfl) (by kernel_rfl) (fun _ _ _ h => h) (Or.inl ⟨by rfl, ?_⟩) (by assumption) ?_
      rotate_left
      · intro w hSw; (try dsimp only at hSw); go_simp; try with_reducible rfl
      try simp only [Act.put, List.getElem_toArray, List.getElem_cons_zero, List.getElem_cons_succ, List.setIfInBounds_toArray, List.set_cons_zero, List.set_cons_succ]
      refine wpAnyH_take (i := 20) (v := ?_) rfl (by kernel_rfl) (by kernel_rfl) (by kernel_rfl) (fun _ _ _ h => h) (Or.inl ⟨by rfl, ?_⟩) (by assumption) ?_
      rotate_left
      · intro w hSw; (try dsimp only at hSw); go_simp; try with_reducible rfl
      try simp only [Act.put, List.getElem_toArray, List.getElem_cons_zero, List.getElem_cons_succ, List.setIfInBounds_toArray, List.set_cons_zero, List.set_cons_succ]
      refine wpAnyH_take (i := 22) (v := ?_) rfl (by kernel_rfl) (by kernel_rfl) (by kernel_rfl) (fun _ _ _ h => h) (Or.inl ⟨by rfl, ?_⟩) (by assumption) ?_
      rotate_left
      · intro w hSw; (try dsimp only at hSw); go_simp; try with_reducible rfl
      try simp only [Act.put, List.getElem_toArray, List.getElem_cons_zero, List.getElem_cons_succ, List.setIfInBounds_toArray, List.set_cons_zero, List.set_cons_succ]
      refine wpAnyH_take (i := 25) (v := ?_) rfl (by kernel_rfl) (by kernel_rfl) (by kernel_rfl) (fun _ _ _ h => h) (Or.inl ⟨by rfl, ?_⟩) (by assumption) ?_
      rotate_left
      · intro w hSw; (try dsimp only at hSw); go_simp; try with_reducible rfl
      try simp only [Act.put, List.getElem_toArray, List.getElem_cons_zero, List.getElem_cons_succ, List.setIfInBounds_toArray, List.set_cons_zero, List.set_cons_succ]
      refine wpAnyH_take (i := 26) (v := ?_) rfl (by kernel_rfl) (by kernel_rfl) (by kernel_rfl) (fun _ _ _ h => h) (Or.inl ⟨by rfl, ?_⟩) (by assumption) ?_
      rotate_left
      · intro w hSw; (try dsimp only at hSw); go_simp; try with_reducible rfl
      try simp only [Act.put, List.getElem_toArray, List.getElem_cons_zero, List.getElem_cons_succ, List.setIfInBounds_toArray, List.set_cons_zero, List.set_cons_succ]
      refine wpAnyH_take (i := 27) (v := ?_) rfl (by kernel_rfl) (by kernel_rfl) (by kernel_rfl) (fun _ _ _ h => h) (Or.inl ⟨by rfl, ?_⟩) (by assumption) ?_
      rotate_left
      · intro w hSw; (try dsimp only at hSw); go_simp; try with_reducible rfl
      try simp only [Act.put, List.getElem_toArray, List.getElem_cons_zero, List.getElem_cons_succ, List.setIfInBounds_toArray, List.set_cons_zero, List.set_cons_succ]
      refine wpAnyH_take (i := 28) (v := ?_) rfl (by kernel_rfl) (by kernel_rfl) (by kernel_rfl) (fun _ _ _ h => h) (Or.inl ⟨by rfl, ?_⟩) (by assumption) ?_
      rotate_left
      · intro w hSw; (try dsimp only at hSw); go_simp; try with_reducible rfl
      try simp only [Act.put, List.getElem_toArray, List.getElem_cons_zero, List.getElem_cons_succ, List.setIfInBounds_toArray, List.set_cons_zero, List.set_cons_succ]
      refine wpAnyH_ready (rs := [3]) (by kernel_rfl) (by simp) (AllReadyH.cons rfl (fun K hK => ?_) AllReadyH.nil)
      go_simp
      refine (turn_b ue 6 (by omega) (by omega) _).mono ?_; rintro e wn ⟨rfl, hbn'⟩
      have hbn : Below wr.heap.size wr wn := (Below.refl _ _).drew.trans hbn'
      clear hbn'
      go_wp2_with fail
      refine hK.out _ _ (HK.out _ hbn) (fun hHeld => ?_)
      clear hK K
      try simp only [Act.put, List.getElem_toArray, List.getElem_cons_zero, List.getElem_cons_succ, List.setIfInBounds_toArray, List.set_cons_zero, List.set_cons_succ]
      refine wpAnyH_ready (rs := [5]) (by kernel_rfl) (by simp) (AllReadyH.cons rfl (fun K hK => ?_) AllReadyH.nil)
      go_simp
      refine (turn_b ue 11 (by omega) (by omega) _).mono ?_; rintro e wn ⟨rfl, hbn'⟩
      replace hbn := below_nx hbn hbn'
      clear hbn'
      go_wp2_with fail
      refine hK.out _ _ (HK.out _ hbn) (fun hHeld => ?_)
      clear hK K
      try simp only [Act.put, List.getElem_toArray, List.getElem_cons_zero, List.getElem_cons_succ, List.setIfInBounds_toArray, List.set_cons_zero, List.set_cons_succ]
      refine wpAnyH_take (i := 6) (v := ?_) rfl (by kernel_rfl) (by kernel_rfl) (by kernel_rfl) (fun _ _ _ h => h) (Or.inl ⟨by rfl, ?_⟩) (by assumption) ?_
      rotate_left
      · intro w hSw; (try dsimp only at hSw); go_simp; try with_reducible rfl
      try simp only [Act.put, List.getElem_toArray, List.getElem_cons_zero, List.getElem_cons_succ, List.setIfInBounds_toArray, List.set_cons_zero, List.set_cons_succ]
      refine wpAnyH_ready (rs := [8]) (by kernel_rfl) (by simp) (AllReadyH.cons rfl (fun K hK => ?_) AllReadyH.nil)
      go_simp
      refine (turn_b ue 25 (by omega) (by omega) _).mono ?_; rintro e wn ⟨rfl, hbn'⟩
      replace hbn := below_nx hbn hbn'
      clear hbn'
      go_wp2_with fail
      refine hK.out _ _ (HK.out _ hbn) (fun hHeld => ?_)
      clear hK K
      try simp only [Act.put, List.getElem_toArray, List.getElem_cons_zero, List.getElem_cons_succ, List.setIfInBounds_toArray, List.set_cons_zero, List.set_cons_succ]
      refine wpAnyH_take (i := 9) (v := ?_) rfl (by kernel_rfl) (by kernel_rfl) (by kernel_rfl) (fun _ _ _ h => h) (Or.inl ⟨by rfl, ?_⟩) (by assumption) ?_
      rotate_left
      · intro w hSw; (try dsimp only at hSw); go_simp; try with_reducible rfl
      try simp only [Act.put, List.getElem_toArray, List.getElem_cons_zero, List.getElem_cons_succ, List.setIfInBounds_toArray, List.set_cons_zero, List.set_cons_succ]
      refine wpAnyH_take (i := 10) (v := ?_) rfl (by kernel_rfl) (by kernel_rfl) (by kernel_rfl) (fun _ _ _ h => h) (Or.inl ⟨by rfl, ?_⟩) (by assumption) ?_
      rotate_left
      · intro w hSw; (try dsimp only at hSw); go_simp; try with_reducible rfl
      try simp only [Act.put, List.getElem_toArray, List.getElem_cons_zero, List.getElem_cons_succ, List.setIfInBounds_toArray, List.set_cons_zero, List.set_cons_succ]
      refine wpAnyH_take (i := 21) (v := ?_) rfl (by kernel_rfl) (by kernel_rfl) (by kernel_rfl) (fun _ _ _ h => h) (Or.inl ⟨by rfl, ?_⟩) (by assumption) ?_
      rotate_left
      · intro w hSw; (try dsimp only at hSw); go_simp; try with_reducible rfl
      try simp only [Act.put, List.getElem_toArray, List.getElem_cons_zero, List.getElem_cons_succ, List.setIfInBounds_toArray, List.set_cons_zero, List.set_cons_succ]
      refine wpAnyH_ready (rs := [23]) (by kernel_rfl) (by simp) (AllReadyH.cons rfl (fun K hK => ?_) AllReadyH.nil)
      go_simp
      refine (HC.out _).mono ?_; rintro e wn ⟨rfl, hbn'⟩
      replace hbn := below_nx hbn hbn'
      clear hbn'
      go_wp2_with fail
      refine hK.out _ _ (HK.out _ hbn) (fun hHeld => ?_)
      clear hK K
      try simp only [Act.put, List.getElem_toArray, List.getElem_cons_zero, List.getElem_cons_succ, List.setIfInBounds_toArray, List.set_cons_zero, List.set_cons_succ]
      refine wpAnyH_take (i := 24) (v := ?_) rfl (by kernel_rfl) (by kernel_rfl) (by kernel_rfl) (fun _ _ _ h => h) (Or.inl ⟨by rfl, ?_⟩) (by assumption) ?_
      rotate_left
      · intro w hSw; (try dsimp only at hSw); go_simp; try with_reducible rfl
      try simp only [Act.put, List.getElem_toArray, List.getElem_cons_zero, List.getElem_cons_succ, List.setIfInBounds_toArray, List.set_cons_zero, List.set_cons_succ]
      refine wpAnyH_take (i := 29) (v := ?_) rfl (by kernel_rfl) (by kernel_rfl) (by kernel_rfl) (fun _ _ _ h => h) (Or.inl ⟨by rfl, ?_⟩) (by assumption) ?_
      rotate_left
      · intro w hSw; (try dsimp only at hSw); go_simp; try with_reducible rfl
      try simp only [Act.put, List.getElem_toArray, List.getElem_cons_zero, List.getElem_cons_succ, List.setIfInBounds_toArray, List.set_cons_zero, List.set_cons_succ]
      refine wpAnyH_take (i := 30) (v := ?_) rfl (by kernel_rfl) (by kernel_rfl) (by kernel_rfl) (fun _ _ _ h => h) (Or.inl ⟨by rfl, ?_⟩) (by assumption) ?_
      rotate_left
      · intro w hSw; (try dsimp only at hSw); go_simp; try with_reducible rfl
      try simp only [Act.put, List.getElem_toArray, List.getElem_cons_zero, List.getElem_cons_succ, List.setIfInBounds_toArray, List.set_cons_zero, List.set_cons_succ]
      refine wpAnyH_done (by kernel_rfl) ?_ _
      have hW := HW.out.up hbn
      have hb := HB.out.trans (hbn.mono HB.out.size)
      clear HK hbn hHeld HW HB
      have c0 : wn.cell? ⟨w1.heap.size, 0, none⟩ = some (.int .u32 (ua : Nat)) := hW.at rfl
      have c1 : wn.cell? ⟨w1.heap.size, 1, none⟩ = some (.int .u32 (ub : Nat)) := hW.at rfl
      have c2 : wn.cell? ⟨w1.heap.size, 2, none⟩ = some (.int .u32 (uc : Nat)) := hW.at rfl
      have c3 : wn.cell? ⟨w1.heap.size, 3, none⟩ = some (.int .u32 (ud : Nat)) := hW.at rfl
      have c5 : wn.cell? ⟨w1.heap.size, 5, none⟩ = some (.int .u32 (uf : Nat)) := hW.at rfl
      have c6 : wn.cell? ⟨w1.heap.size, 6, none⟩ = some (.int .u32 (ug : Nat)) := hW.at rfl
      have HW := Lib.hid hW
      have HB := Lib.hid hb
      clear hW hb
      go_wp2_with fail
      have HK := Lib.hid (show ∀ W, Below wn.heap.size wn W → W.cell? ⟨w1.heap.size, 1, none⟩ = some (.int .u32 (ub : Nat)) ∧ W.cell? ⟨w1.heap.size, 2, none⟩ = some (.int .u32 (uc : Nat)) from
        fun W h => ⟨(h.cell (p := ⟨w1.heap.size, 1, none⟩) (block_lt_of_cell c1)).trans c1, (h.cell (p := ⟨w1.heap.size, 2, none⟩) (block_lt_of_cell c2)).trans c2⟩)
      clear c0 c1 c2 c3 c5 c6
      refine wp_region_held_drew (S := fun W => W.cell? ⟨w1.heap.size, 1, none⟩ = some (.int .u32 (ub : Nat)) ∧ W.cell? ⟨w1.heap.size, 2, none⟩ = some (.int .u32 (uc : Nat))) (by kernel_rfl) (HK.out _ (Below.refl _ _).drew) (fun hHeld => ?_)
      refine wpAnyH_take (i := 0) (v := ?_) rfl (by kernel_rfl) (by kernel_rfl) (by kernel_rfl) (fun _ _ _ h => h) (Or.inl ⟨by rfl, ?_⟩) (by assumption) ?_
      rotate_left
      · intro w hSw; (try dsimp only at hSw); go_simp; try with_reducible rfl
      try simp only [Act.put, List.getElem_toArray, List.getElem_cons_zero, List.setIfInBounds_toArray, List.set_cons_zero, List.set_cons_succ]
      refine wpAnyH_take (i := 2) (v := ?_) rfl (by kernel_rfl) (by kernel_rfl) (by kernel_rfl) (fun _ _ _ h => h) (Or.inl ⟨by rfl, ?_⟩) (by assumption) ?_
      rotate_left
      · intro w hSw; (try dsimp only at hSw); go_simp; try with_reducible rfl
      try simp only [Act.put, List.getElem_toArray, List.getElem_cons_zero, List.getElem_cons_succ, List.setIfInBounds_toArray, List.set_cons_zero, List.set_cons_succ]
      refine wpAnyH_take (i := 5) (v := ?_) rfl (by kernel_rfl) (by kernel_rfl) (by kernel_rfl) (fun _ _ _ h => h) (Or.inl ⟨by rfl, ?_⟩) (by assumption) ?_
      rotate_left
      · intro w hSw; (try dsimp only at hSw); go_simp; try with_reducible rfl
      try simp only [Act.put, List.getElem_toArray, List.getElem_cons_zero, List.getElem_cons_succ, List.setIfInBounds_toArray, List.set_cons_zero, List.set_cons_succ]
      refine wpAnyH_take (i := 8) (v := ?_) rfl (by kernel_rfl) (by kernel_rfl) (by kernel_rfl) (fun _ _ _ h => h) (Or.inl ⟨by rfl, ?_⟩) (by assumption) ?_
      rotate_left
      · intro w hSw; (try dsimp only at hSw); go_simp; try with_reducible rfl
      try simp only [Act.put, List.getElem_toArray, List.getElem_cons_zero, List.getElem_cons_succ, List.setIfInBounds_toArray, List.set_cons_zero, List.set_cons_succ]
      refine wpAnyH_take (i := 9) (v := ?_) rfl (by kernel_rfl) (by kernel_rfl) (by kernel_rfl) (fun _ _ _ h => h) (Or.inl ⟨by rfl, ?_⟩) (by assumption) ?_
      rotate_left
      · intro w hSw; (try dsimp only at hSw); go_simp; try with_reducible rfl
      try simp only [Act.put, List.getElem_toArray, List.getElem_cons_zero, List.getElem_cons_succ, List.setIfInBounds_toArray, List.set_cons_zero, List.set_cons_succ]
      refine wpAnyH_take (i := 10) (v := ?_) rfl (by kernel_rfl) (by kernel_rfl) (by kernel_rfl) (fun _ _ _ h => h) (Or.inl ⟨by rfl, ?_⟩) (by assumption) ?_
      rotate_left
      · intro w hSw; (try dsimp only at hSw); go_simp; try with_reducible rfl
      try simp only [Act.put, List.getElem_toArray, List.getElem_cons_zero, List.getElem_cons_succ, List.setIfInBounds_toArray, List.set_cons_zero, List.set_cons_succ]
      refine wpAnyH_take (i := 11) (v := ?_) rfl (by kernel_rfl) (by kernel_rfl) (by kernel_rfl) (fun _ _ _ h => h) (Or.inl ⟨by rfl, ?_⟩) (by assumption) ?_
      rotate_left
      · intro w hSw; (try dsimp only at hSw); go_simp; try with_reducible rfl
      try simp only [Act.put, List.getElem_toArray, List.getElem_cons_zero, List.getElem_cons_succ, List.setIfInBounds_toArray, List.set_cons_zero, List.set_cons_succ]
      refine wpAnyH_take (i := 12) (v := ?_) rfl (by kernel_rfl) (by kernel_rfl) (by kernel_rfl) (fun _ _ _ h => h) (Or.inl ⟨by rfl, ?_⟩) (by assumption) ?_
      rotate_left
      · intro w hSw; (try dsimp only at hSw); go_simp; try with_reducible rfl
      try simp only [Act.put, List.getElem_toArray, List.getElem_cons_zero, List.getElem_cons_succ, List.setIfInBounds_toArray, List.set_cons_zero, List.set_cons_succ]
      refine wpAnyH_take (i := 13) (v := ?_) rfl (by kernel_rfl) (by kernel_rfl) (by kernel_rfl) (fun _ _ _ h => h) (Or.inl ⟨by rfl, ?_⟩) (by assumption) ?_
      rotate_left
      · intro w hSw; (try dsimp only at hSw); go_simp; try with_reducible rfl
      try simp only [Act.put, List.getElem_toArray, List.getElem_cons_zero, List.getElem_cons_succ, List.setIfInBounds_toArray, List.set_cons_zero, List.set_cons_succ]
      refine wpAnyH_take (i := 14) (v := ?_) rfl (by kernel_rfl) (by kernel_rfl) (by kernel_rfl) (fun _ _ _ h => h) (Or.inl ⟨by rfl, ?_⟩) (by assumption) ?_
      rotate_left
      · intro w hSw; (try dsimp only at hSw); go_simp; try with_reducible rfl
      try simp only [Act.put, List.getElem_toArray, List.getElem_cons_zero, List.getElem_cons_succ, List.setIfInBounds_toArray, List.set_cons_zero, List.set_cons_succ]
      refine wpAnyH_take (i := 15) (v := ?_) rfl (by kernel_rfl) (by kernel_rfl) (by kernel_rfl) (fun _ _ _ h => h) (Or.inl ⟨by rfl, ?_⟩) (by assumption) ?_
      rotate_left
      · intro w hSw; (try dsimp only at hSw); go_simp; try with_reducible rfl
      try simp only [Act.put, List.getElem_toArray, List.getElem_cons_zero, List.getElem_cons_succ, List.setIfInBounds_toArray, List.set_cons_zero, List.set_cons_succ]
      refine wpAnyH_take (i := 16) (v := ?_) rfl (by kernel_rfl) (by kernel_rfl) (by kernel_rfl) (fun _ _ _ h => h) (Or.inl ⟨by rfl, ?_⟩) (by assumption) ?_
      rotate_left
      · intro w hSw; (try dsimp only at hSw); go_simp; try with_reducible rfl
      try simp only [Act.put, List.getElem_toArray, List.getElem_cons_zero, List.getElem_cons_succ, List.setIfInBounds_toArray, List.set_cons_zero, List.set_cons_succ]
      refine wpAnyH_take (i := 17) (v := ?_) rfl (by kernel_rfl) (by kernel_rfl) (by kernel_rfl) (fun _ _ _ h => h) (Or.inl ⟨by rfl, ?_⟩) (by assumption) ?_
      rotate_left
      · intro w hSw; (try dsimp only at hSw); go_simp; try with_reducible rfl
      try simp only [Act.put, List.getElem_toArray, List.getElem_cons_zero, List.getElem_cons_succ, List.setIfInBounds_toArray, List.set_cons_zero, List.set_cons_succ]
      refine wpAnyH_take (i := 18) (v := ?_) rfl (by kernel_rfl) (by kernel_rfl) (by kernel_rfl) (fun _ _ _ h => h) (Or.inl ⟨by rfl, ?_⟩) (by assumption) ?_
      rotate_left
      · intro w hSw; (try dsimp only at hSw); go_simp; try with_reducible rfl
      try simp only [Act.put, List.getElem_toArray, List.getElem_cons_zero, List.getElem_cons_succ, List.setIfInBounds_toArray, List.set_cons_zero, List.set_cons_succ]
      refine wpAnyH_take (i := 19) (v := ?_) rfl (by kernel_rfl) (by kernel_rfl) (by kernel_rfl) (fun _ _ _ h => h) (Or.inl ⟨by rfl, ?_⟩) (by assumption) ?_
      rotate_left
      · intro w hSw; (try dsimp only at hSw); go_simp; try with_reducible rfl
      try simp only [Act.put, List.getElem_toArray, List.getElem_cons_zero, List.getElem_cons_succ, List.setIfInBounds_toArray, List.set_cons_zero, List.set_cons_succ]
      refine wpAnyH_take (i := 20) (v := ?_) rfl (by kernel_rfl) (by kernel_rfl) (by kernel_rfl) (fun _ _ _ h => h) (Or.inl ⟨by rfl, ?_⟩) (by assumption) ?_
      rotate_left
      · intro w hSw; (try dsimp only at hSw); go_simp; try with_reducible rfl
      try simp only [Act.put, List.getElem_toArray, List.getElem_cons_zero, List.getElem_cons_succ, List.setIfInBounds_toArray, List.set_cons_zero, List.set_cons_succ]
      refine wpAnyH_take (i := 21) (v := ?_) rfl (by kernel_rfl) (by kernel_rfl) (by kernel_rfl) (fun _ _ _ h => h) (Or.inl ⟨by rfl, ?_⟩) (by assumption) ?_
      rotate_left
      · intro w hSw; (try dsimp only at hSw); go_simp; try with_reducible rfl
      try simp only [Act.put, List.getElem_toArray, List.getElem_cons_zero, List.getElem_cons_succ, List.setIfInBounds_toArray, List.set_cons_zero, List.set_cons_succ]
      refine wpAnyH_take (i := 22) (v := ?_) rfl (by kernel_rfl) (by kernel_rfl) (by kernel_rfl) (fun _ _ _ h => h) (Or.inl ⟨by rfl, ?_⟩) (by assumption) ?_
      rotate_left
      · intro w hSw; (try dsimp only at hSw); go_simp; try with_reducible rfl
      try simp only [Act.put, List.getElem_toArray, List.getElem_cons_zero, List.getElem_cons_succ, List.setIfInBounds_toArray, List.set_cons_zero, List.set_cons_succ]
      refine wpAnyH_ready (rs := [1]) (by kernel_rfl) (by simp) (AllReadyH.cons rfl (fun K hK => ?_) AllReadyH.nil)
      go_simp
      refine (turn_b ua 2 (by omega) (by omega) _).mono ?_; rintro e wm ⟨rfl, hbm'⟩
      have hbm : Below wn.heap.size wn wm := (Below.refl _ _).drew.trans hbm'
      clear hbm'
      go_wp2_with fail
      refine hK.out _ _ (HK.out _ hbm) (fun hHeld => ?_)
      clear hK K
      try simp only [Act.put, List.getElem_toArray, List.getElem_cons_zero, List.getElem_cons_succ, List.setIfInBounds_toArray, List.set_cons_zero, List.set_cons_succ]
      refine wpAnyH_ready (rs := [3]) (by kernel_rfl) (by simp) (AllReadyH.cons rfl (fun K hK => ?_) AllReadyH.nil)
      go_simp
      refine (turn_b ua 13 (by omega) (by omega) _).mono ?_; rintro e wm ⟨rfl, hbm'⟩
      replace hbm := below_nx hbm hbm'
      clear hbm'
      go_wp2_with fail
      refine hK.out _ _ (HK.out _ hbm) (fun hHeld => ?_)
      clear hK K
      try simp only [Act.put, List.getElem_toArray, List.getElem_cons_zero, List.getElem_cons_succ, List.setIfInBounds_toArray, List.set_cons_zero, List.set_cons_succ]
      refine wpAnyH_take (i := 4) (v := ?_) rfl (by kernel_rfl) (by kernel_rfl) (by kernel_rfl) (fun _ _ _ h => h) (Or.inl ⟨by rfl, ?_⟩) (by assumption) ?_
      rotate_left
      · intro w hSw; (try dsimp only at hSw); go_simp; try with_reducible rfl
      try simp only [Act.put, List.getElem_toArray, List.getElem_cons_zero, List.getElem_cons_succ, List.setIfInBounds_toArray, List.set_cons_zero, List.set_cons_succ]
      refine wpAnyH_ready (rs := [6]) (by kernel_rfl) (by simp) (AllReadyH.cons rfl (fun K hK => ?_) AllReadyH.nil)
      go_simp
      refine (turn_b ua 22 (by omega) (by omega) _).mono ?_; rintro e wm ⟨rfl, hbm'⟩
      replace hbm := below_nx hbm hbm'
      clear hbm'
      go_wp2_with fail
      refine hK.out _ _ (HK.out _ hbm) (fun hHeld => ?_)
      clear hK K
      try simp only [Act.put, List.getElem_toArray, List.getElem_cons_zero, List.getElem_cons_succ, List.setIfInBounds_toArray, List.set_cons_zero, List.set_cons_succ]
      refine wpAnyH_take (i := 7) (v := ?_) rfl (by kernel_rfl) (by kernel_rfl) (by kernel_rfl) (fun _ _ _ h => h) (Or.inl ⟨by rfl, ?_⟩) (by assumption) ?_
      rotate_left
      · intro w hSw; (try dsimp only at hSw); go_simp; try with_reducible rfl
      try simp only [Act.put, List.getElem_toArray, List.getElem_cons_zero, List.getElem_cons_succ, List.setIfInBounds_toArray, List.set_cons_zero, List.set_cons_succ]
      refine wpAnyH_take (i := 23) (v := ?_) rfl (by kernel_rfl) (by kernel_rfl) (by kernel_rfl) (fun _ _ _ h => h) (Or.inl ⟨by rfl, ?_⟩) (by assumption) ?_
      rotate_left
      · intro w hSw; (try dsimp only at hSw); go_simp; try with_reducible rfl
      try simp only [Act.put, List.getElem_toArray, List.getElem_cons_zero, List.getElem_cons_succ, List.setIfInBounds_toArray, List.set_cons_zero, List.set_cons_succ]
      refine wpAnyH_take (i := 24) (v := ?_) rfl (by kernel_rfl) (by kernel_rfl) (by kernel_rfl) (fun _ _ _ h => h) (Or.inl ⟨by rfl, ?_⟩) (by assumption) ?_
      rotate_left
      · intro w hSw; (try dsimp only at hSw); go_simp; try with_reducible rfl
      try simp only [Act.put, List.getElem_toArray, List.getElem_cons_zero, List.getElem_cons_succ, List.setIfInBounds_toArray, List.set_cons_zero, List.set_cons_succ]
      refine wpAnyH_done (by kernel_rfl) ?_ _
      have hW := HW.out.up hbm
      have hb := HB.out.trans (hbm.mono HB.out.size)
      clear HK hbm hHeld HW HB
      have c1 : wm.cell? ⟨w1.heap.size, 1, none⟩ = some (.int .u32 (ub : Nat)) := hW.at rfl
      have c2 : wm.cell? ⟨w1.heap.size, 2, none⟩ = some (.int .u32 (uc : Nat)) := hW.at rfl
      have c3 : wm.cell? ⟨w1.heap.size, 3, none⟩ = some (.int .u32 (ud : Nat)) := hW.at rfl
      have c5 : wm.cell? ⟨w1.heap.size, 5, none⟩ = some (.int .u32 (uf : Nat)) := hW.at rfl
      have c6 : wm.cell? ⟨w1.heap.size, 6, none⟩ = some (.int .u32 (ug : Nat)) := hW.at rfl
      have HW := Lib.hid hW
      have HB := Lib.hid hb
      clear hW hb
      generalize hone : p32 (p32 (p32 (p32 uh (x32 (x32 (rr ue 6) (rr ue 11)) (rr ue 25))) (x32 (a32 ue uf) (a32 (n32 ue) ug))) kt) wt = one at *
      generalize htwo : p32 (x32 (x32 (rr ua 2) (rr ua 13)) (rr ua 22)) (x32 (x32 (a32 ua ub) (a32 ua uc)) (a32 ub uc)) = two at *
      have HN1 := Lib.hid (show rounds v (wordAt s.data.toList) (t + 1) = ⟨p32 one two, ua, ub, uc, p32 ud one, ue, uf, ug⟩ from HN.out)
      clear hone htwo HN
      go_wp2_with (refine wpList_store_whole rfl 23 _ _ rfl w1.heap.size 23 (W8.mk ua ub uc ud ue uf ug uh).cells (W8.mk (p32 one two) ua ub uc (p32 ud one) ue uf ug).cells (by rfl) (by rfl) HW.out (by rw [W8.length, W8.length]) (by rw [hi8, W8.length]) (nums_one _ _) ?_; intro w4 hW4 hO4)
      go_roundw
      case rel =>
        exact ⟨t + 1, by omega, by go_num, by rw [HN1.out]; exact hW4, hO4.below (Nat.le_refl _) HB.out⟩
      case measure => simp [intOf]; omega
    · obtain rfl : t = 64 := by omega
      clear HN HWD hlt
      have hW0 : Has wr w1.heap.size 23 (nums .u32 (mix ⟨ua, ub, uc, ud, ue, uf, ug, uh⟩ v 0)) := HW.out
      have HCm := Lib.hid (show comp v s.data.toList = v.plus ⟨ua, ub, uc, ud, ue, uf, ug, uh⟩ by unfold comp; rw [HU.out])
      clear HW HU
      generalize W8.mk ua ub uc ud ue uf ug uh = u at *
      have HW0 := Lib.hid hW0
      clear hW0
      go_wp2_with fail
      simp only [Int.cast_ofNat_Int]
      go_loopw [12] (fun i wx => ∃ k : Nat, k ≤ 8 ∧ i = .int .i64 k ∧ Has wx w1.heap.size 23 (nums .u32 (mix u v k)) ∧ Below w1.heap.size w1 wx) (fun i _ => 8 - (intOf i).toNat)
      case atStart => exact ⟨0, by omega, rfl, HW0.out, HB.out⟩
      case round =>
        clear HW0 HB
        obtain ⟨k, hk, rfl, hW, hb⟩ := hrel
        by_cases hlt : k < 8
        · have x1 := hW.at (mix_at u v k hlt)
          have x2 := (HA.out.up hb).at (cells_at v k hlt)
          have x3 := hW.free k
          have HZ := Lib.hid (mix_set u v k hlt)
          generalize u.list.getD k 0 = x at *
          generalize v.list.getD k 0 = y at *
          have k0 : (0 : Int) ≤ (k : Int) := by omega
          have k1 : (k : Int) < 8 := by omega
          have HW := Lib.hid hW
          have HB := Lib.hid hb
          clear hW hb
          go_wp2_with fail
          go_still_tail 9, (by kernel_rfl)
          change wpList _ _ _ _ _ wr.drew
          go_wp2_with fail
          go_roundw
          case rel =>
            exact ⟨k + 1, by omega, by go_num, (congrArg (Has _ w1.heap.size _) HZ.out).mp ((HW.out.set k _).drew), (HB.out.setCell (p := ⟨w1.heap.size, k, none⟩) (Nat.le_refl _) _).drew⟩
          case measure => simp [intOf]; omega
        · obtain rfl : k = 8 := by omega
          rw [mix_eight] at hW
          have HW := Lib.hid hW
          have HR2 := Lib.hid (HR.out.up hb)
          have HB := Lib.hid (hB.trans (hb.mono hB.size))
          clear hW hb
          go_wp2_with (first
            | (refine wpList_load_row rfl 23 _ rfl w1.heap.size (by rfl) _ _ _ _ HW.out hu8 rfl (by rw [hi8, List.size_toArray, W8.length]) ?_)
            | (refine wpList_store_whole rfl 23 _ _ rfl (w.heap.size + 1) 23 (nums .u32 (zeros 8)) (v.plus u).cells (by rfl) (by rfl) HR2.out (by rw [W8.length]; rfl) (by rw [hi8, W8.length]) (nums_one _ _) ?_; intro w4 hF hO4))
          refine bodyPost_ret_by (results_cell_row Tryd.results26 _ _ _ _ _ _ _ (by rfl) hF hu8 rfl (by rw [hi8, List.size_toArray, W8.length])) rfl ⟨?_, hO4.below (by omega) HB.out⟩
          rw [HCm.out]
end Go.Proofs.YtanjebmpjenmiaaDoor
