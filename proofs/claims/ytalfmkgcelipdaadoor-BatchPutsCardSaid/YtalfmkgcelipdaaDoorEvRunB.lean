/- Rows of events: contracts of event.Run and the document's own. -/
import Derived.Test.YtalfmkgcelipdaaDoorEvRunA
namespace Go.Proofs.YtalfmkgcelipdaaDoor
open Go.RowKit Wire Evt

theorem ev_at {w : World} {g o : Nat} {l : List Ev} (h : EvAt w g o l) {k : Nat} {x : Ev} (hx : l[k]? = some x) :
    w.cell? ⟨g, o + k * 6, none⟩ = some (.int .u64 (x.seq : Nat)) ∧ w.cell? ⟨g, o + k * 6 + 1, none⟩ = some (.int .i64 x.tick) ∧ w.cell? ⟨g, o + k * 6 + 2, none⟩ = some (.int .i64 x.part) ∧ w.cell? ⟨g, o + k * 6 + 3, none⟩ = some (.int .i64 x.kind) ∧ w.cell? ⟨g, o + k * 6 + 4, none⟩ = some (.int .i64 x.a) ∧ w.cell? ⟨g, o + k * 6 + 5, none⟩ = some (.int .i64 x.b) :=
  ⟨h k x hx 0 _ rfl, h k x hx 1 _ rfl, h k x hx 2 _ rfl, h k x hx 3 _ rfl, h k x hx 4 _ rfl, h k x hx 5 _ rfl⟩

set_option maxHeartbeats 16000000 in
set_option maxRecDepth 100000 in
theorem run_any (A : Option Addr) (l : List Ev) (cap : Nat) (hn : l.length ≤ 140737488355327) (hcap : l.length ≤ cap) (hs : ∀ x ∈ l, x.seq < 18446744073709551616) (w : World) (hA : EvSl w A l) :
    Calls Tryd.prog 16 #[.slice A l.length cap] w fun e w' => e = .returned (.bool (runL l)) ∧ Below w.heap.size w w' := by
  have HA := Lib.hid hA
  have HS := Lib.hid hs
  have HE := Lib.hid (show runL (l.take 0) = true from rfl)
  have HF := Lib.hid (show l.take l.length = l from List.take_length)
  clear hA hs
  obtain ⟨n, hN⟩ : ∃ n, n = l.length := ⟨_, rfl⟩
  rw [← hN] at hn hcap HF ⊢
  replace hN := Lib.hid hN
  go_enter Tryd.func16, Tryd.ntmps16
  go_wp2_with fail
  go_loopw [7] (fun i wr => ∃ k : Nat, k ≤ n ∧ i = .int .i64 k ∧ Hid (runL (l.take k) = true) ∧ Hid (Below w.heap.size w wr)) (fun i _ => n - (intOf i).toNat)
  case atStart => exact ⟨0, by omega, rfl, HE, Lib.hid (Below.refl _ _)⟩
  case round =>
    obtain ⟨k, hk, rfl, hE, hB⟩ := hrel
    clear HE
    by_cases hlt : k < n
    · obtain ⟨x, hx⟩ : ∃ x, l[k]? = some x := ⟨_, List.getElem?_eq_getElem (by rw [← hN.out]; exact hlt)⟩
      have hxs := HS.out x (List.mem_of_getElem? hx)
      obtain ⟨g, o, rfl, hev⟩ := (HA.out.up hB.out) (by rw [← hN.out]; omega)
      obtain ⟨c0, c1, c2, c3, c4, c5⟩ := ev_at hev hx
      have HV := Lib.hid hev
      have HX := Lib.hid hx
      have hkc : (k : Int) ≤ (cap : Int) := by omega
      have hk0 : (0 : Int) ≤ (k : Int) := by omega
      clear hev hx
      obtain ⟨s, t, p, kd, a, b⟩ := x
      simp only at c0 c1 c2 c3 c4 c5 hxs
      have i1 := fun w => is_any s t p kd a b w
      cases hok : isE t p kd a b with
      | false =>
        rw [hok] at i1
        have I := Lib.hid i1
        have HR := Lib.hid (step_bad HX.out hok)
        clear i1 hok
        go_wp2_with fail
        have hX := Has.make wr 50 [.int .u64 (s : Nat), .int .i64 t, .int .i64 p, .int .i64 kd, .int .i64 a, .int .i64 b]
        have b1 := up_alloc (Below.refl wr.heap.size wr) (Obj.cells #[.int .u64 (s : Nat), .int .i64 t, .int .i64 p, .int .i64 kd, .int .i64 a, .int .i64 b] 50)
        generalize hw1 : World.alloc wr _ = w1
        have hX1 : Has w1 wr.heap.size 50 [.int .u64 (s : Nat), .int .i64 t, .int .i64 p, .int .i64 kd, .int .i64 a, .int .i64 b] := by rw [← hw1]; exact hX
        have b1 : Hid (Below wr.heap.size wr w1) := Lib.hid (by rw [← hw1]; exact b1)
        have HK := Lib.hid (show ∀ W, Below w1.heap.size w1 W → W.cell? ⟨wr.heap.size, 0, none⟩ = some (.int .u64 (s : Nat)) ∧ W.cell? ⟨wr.heap.size, 1, none⟩ = some (.int .i64 t) ∧ W.cell? ⟨wr.heap.size, 2, none⟩ = some (.int .i64 p) ∧ W.cell? ⟨wr.heap.size, 3, none⟩ = some (.int .i64 kd) ∧ W.cell? ⟨wr.heap.size, 4, none⟩ = some (.int .i64 a) ∧ W.cell? ⟨wr.heap.size, 5, none⟩ = some (.int .i64 b) from fun W h => ⟨(hX1.up h).at rfl, (hX1.up h).at rfl, (hX1.up h).at rfl, (hX1.up h).at rfl, (hX1.up h).at rfl, (hX1.up h).at rfl⟩)
        clear hX hX1 hw1 c0 c1 c2 c3 c4 c5
        refine wp_region_held_drew (S := fun W => W.cell? ⟨wr.heap.size, 0, none⟩ = some (.int .u64 (s : Nat)) ∧ W.cell? ⟨wr.heap.size, 1, none⟩ = some (.int .i64 t) ∧ W.cell? ⟨wr.heap.size, 2, none⟩ = some (.int .i64 p) ∧ W.cell? ⟨wr.heap.size, 3, none⟩ = some (.int .i64 kd) ∧ W.cell? ⟨wr.heap.size, 4, none⟩ = some (.int .i64 a) ∧ W.cell? ⟨wr.heap.size, 5, none⟩ = some (.int .i64 b)) (by kernel_rfl) (HK.out _ (Below.refl _ _).drew) (fun hHeld => ?_)
        refine wpAnyH_take (i := 0) (v := ?_) rfl (by kernel_rfl) (by kernel_rfl) (by kernel_rfl) (fun _ _ _ h => h) (Or.inl ⟨by rfl, ?_⟩) (by assumption) ?_
        rotate_left
        · intro w hSw; (try dsimp only at hSw); go_simp; try with_reducible rfl
        try simp only [Act.put, List.getElem_toArray, List.getElem_cons_zero, List.setIfInBounds_toArray, List.set_cons_zero, List.set_cons_succ]
        refine wpAnyH_ready (rs := [1]) (by kernel_rfl) (by simp) (AllReadyH.cons rfl (fun K hK => ?_) AllReadyH.nil)
        go_simp
        refine (I.out _).mono ?_; rintro e wn ⟨rfl, hbn'⟩
        have hbn : Below w1.heap.size w1 wn := up_trans (Below.refl _ _).drew hbn'
        clear hbn'
        go_wp2_with fail
        refine hK.out _ _ (HK.out _ hbn) (fun hHeld => ?_)
        clear hK K
        try simp only [Act.put, List.getElem_toArray, List.getElem_cons_zero, List.getElem_cons_succ, List.setIfInBounds_toArray, List.set_cons_zero, List.set_cons_succ]
        refine wpAnyH_take (i := 2) (v := ?_) rfl (by kernel_rfl) (by kernel_rfl) (by kernel_rfl) (fun _ _ _ h => h) (Or.inl ⟨by rfl, ?_⟩) (by assumption) ?_
        rotate_left
        · intro w hSw; (try dsimp only at hSw); go_simp; try with_reducible rfl
        try simp only [Act.put, List.getElem_toArray, List.getElem_cons_zero, List.getElem_cons_succ, List.setIfInBounds_toArray, List.set_cons_zero, List.set_cons_succ]
        refine wpAnyH_take (i := 3) (v := ?_) rfl (by kernel_rfl) (by kernel_rfl) (by kernel_rfl) (fun _ _ _ h => h) (Or.inl ⟨by rfl, ?_⟩) (by assumption) ?_
        rotate_left
        · intro w hSw; (try dsimp only at hSw); go_simp; try with_reducible rfl
        try simp only [Act.put, List.getElem_toArray, List.getElem_cons_zero, List.getElem_cons_succ, List.setIfInBounds_toArray, List.set_cons_zero, List.set_cons_succ]
        refine wpAnyH_take (i := 4) (v := undef) rfl (by kernel_rfl) (by kernel_rfl) (by kernel_rfl) (fun _ _ _ h => h) (Or.inr ⟨by rfl, rfl⟩) (by assumption) ?_
        try simp only [Act.put, List.getElem_toArray, List.getElem_cons_zero, List.getElem_cons_succ, List.setIfInBounds_toArray, List.set_cons_zero, List.set_cons_succ]
        refine wpAnyH_take (i := 5) (v := undef) rfl (by kernel_rfl) (by kernel_rfl) (by kernel_rfl) (fun _ _ _ h => h) (Or.inr ⟨by rfl, rfl⟩) (by assumption) ?_
        try simp only [Act.put, List.getElem_toArray, List.getElem_cons_zero, List.getElem_cons_succ, List.setIfInBounds_toArray, List.set_cons_zero, List.set_cons_succ]
        refine wpAnyH_take (i := 6) (v := undef) rfl (by kernel_rfl) (by kernel_rfl) (by kernel_rfl) (fun _ _ _ h => h) (Or.inr ⟨by rfl, rfl⟩) (by assumption) ?_
        try simp only [Act.put, List.getElem_toArray, List.getElem_cons_zero, List.getElem_cons_succ, List.setIfInBounds_toArray, List.set_cons_zero, List.set_cons_succ]
        refine wpAnyH_take (i := 7) (v := undef) rfl (by kernel_rfl) (by kernel_rfl) (by kernel_rfl) (fun _ _ _ h => h) (Or.inr ⟨by rfl, rfl⟩) (by assumption) ?_
        try simp only [Act.put, List.getElem_toArray, List.getElem_cons_zero, List.getElem_cons_succ, List.setIfInBounds_toArray, List.set_cons_zero, List.set_cons_succ]
        refine wpAnyH_take (i := 8) (v := undef) rfl (by kernel_rfl) (by kernel_rfl) (by kernel_rfl) (fun _ _ _ h => h) (Or.inr ⟨by rfl, rfl⟩) (by assumption) ?_
        try simp only [Act.put, List.getElem_toArray, List.getElem_cons_zero, List.getElem_cons_succ, List.setIfInBounds_toArray, List.set_cons_zero, List.set_cons_succ]
        refine wpAnyH_take (i := 9) (v := undef) rfl (by kernel_rfl) (by kernel_rfl) (by kernel_rfl) (fun _ _ _ h => h) (Or.inr ⟨by rfl, rfl⟩) (by assumption) ?_
        try simp only [Act.put, List.getElem_toArray, List.getElem_cons_zero, List.getElem_cons_succ, List.setIfInBounds_toArray, List.set_cons_zero, List.set_cons_succ]
        refine wpAnyH_take (i := 10) (v := undef) rfl (by kernel_rfl) (by kernel_rfl) (by kernel_rfl) (fun _ _ _ h => h) (Or.inr ⟨by rfl, rfl⟩) (by assumption) ?_
        try simp only [Act.put, List.getElem_toArray, List.getElem_cons_zero, List.getElem_cons_succ, List.setIfInBounds_toArray, List.set_cons_zero, List.set_cons_succ]
        refine wpAnyH_take (i := 11) (v := ?_) rfl (by kernel_rfl) (by kernel_rfl) (by kernel_rfl) (fun _ _ _ h => h) (Or.inl ⟨by rfl, ?_⟩) (by assumption) ?_
        rotate_left
        · intro w hSw; (try dsimp only at hSw); go_simp; try with_reducible rfl
        try simp only [Act.put, List.getElem_toArray, List.getElem_cons_zero, List.getElem_cons_succ, List.setIfInBounds_toArray, List.set_cons_zero, List.set_cons_succ]
        refine wpAnyH_done (by kernel_rfl) ?_ _
        go_wp2_with fail
        go_ret
        exact ⟨by rw [HR.out]; rfl, up_trans hB.out (up_trans b1.out hbn)⟩
      | true =>
        rw [hok] at i1
        have I := Lib.hid i1
        have HO := Lib.hid (show Ev.ok ⟨s, t, p, kd, a, b⟩ = true from hok)
        clear i1 hok
        cases ho : onB (lastOf none (l.take k)) s with
        | false =>
          have HR := Lib.hid (step_off HX.out ho)
          have j0 := fun w h => runsOn_at (show k < l.length by rw [← hN.out]; exact hlt) (show l.length ≤ 140737488355327 by rw [← hN.out]; exact hn) g o k s hxs t p kd a b w h
          rw [ho] at j0
          have j1 := Lib.hid j0
          clear j0 ho
          go_wp2_with fail
          have hX := Has.make wr 50 [.int .u64 (s : Nat), .int .i64 t, .int .i64 p, .int .i64 kd, .int .i64 a, .int .i64 b]
          have b1 := up_alloc (Below.refl wr.heap.size wr) (Obj.cells #[.int .u64 (s : Nat), .int .i64 t, .int .i64 p, .int .i64 kd, .int .i64 a, .int .i64 b] 50)
          generalize hw1 : World.alloc wr _ = w1
          have hX1 : Has w1 wr.heap.size 50 [.int .u64 (s : Nat), .int .i64 t, .int .i64 p, .int .i64 kd, .int .i64 a, .int .i64 b] := by rw [← hw1]; exact hX
          have b1 : Hid (Below wr.heap.size wr w1) := Lib.hid (by rw [← hw1]; exact b1)
          have HK := Lib.hid (show ∀ W, Below w1.heap.size w1 W → W.cell? ⟨wr.heap.size, 0, none⟩ = some (.int .u64 (s : Nat)) ∧ W.cell? ⟨wr.heap.size, 1, none⟩ = some (.int .i64 t) ∧ W.cell? ⟨wr.heap.size, 2, none⟩ = some (.int .i64 p) ∧ W.cell? ⟨wr.heap.size, 3, none⟩ = some (.int .i64 kd) ∧ W.cell? ⟨wr.heap.size, 4, none⟩ = some (.int .i64 a) ∧ W.cell? ⟨wr.heap.size, 5, none⟩ = some (.int .i64 b) from fun W h => ⟨(hX1.up h).at rfl, (hX1.up h).at rfl, (hX1.up h).at rfl, (hX1.up h).at rfl, (hX1.up h).at rfl, (hX1.up h).at rfl⟩)
          clear hX hX1 hw1 c0 c1 c2 c3 c4 c5
          have J := Lib.hid (fun W (h : Below w1.heap.size w1 W) => j1.out W (HV.out.up (up_trans b1.out h)))
          clear j1
          refine wp_region_held_drew (S := fun W => W.cell? ⟨wr.heap.size, 0, none⟩ = some (.int .u64 (s : Nat)) ∧ W.cell? ⟨wr.heap.size, 1, none⟩ = some (.int .i64 t) ∧ W.cell? ⟨wr.heap.size, 2, none⟩ = some (.int .i64 p) ∧ W.cell? ⟨wr.heap.size, 3, none⟩ = some (.int .i64 kd) ∧ W.cell? ⟨wr.heap.size, 4, none⟩ = some (.int .i64 a) ∧ W.cell? ⟨wr.heap.size, 5, none⟩ = some (.int .i64 b)) (by kernel_rfl) (HK.out _ (Below.refl _ _).drew) (fun hHeld => ?_)
          refine wpAnyH_take (i := 0) (v := ?_) rfl (by kernel_rfl) (by kernel_rfl) (by kernel_rfl) (fun _ _ _ h => h) (Or.inl ⟨by rfl, ?_⟩) (by assumption) ?_
          rotate_left
          · intro w hSw; (try dsimp only at hSw); go_simp; try with_reducible rfl
          try simp only [Act.put, List.getElem_toArray, List.getElem_cons_zero, List.setIfInBounds_toArray, List.set_cons_zero, List.set_cons_succ]
          refine wpAnyH_ready (rs := [1]) (by kernel_rfl) (by simp) (AllReadyH.cons rfl (fun K hK => ?_) AllReadyH.nil)
          go_simp
          refine (I.out _).mono ?_; rintro e wn ⟨rfl, hbn'⟩
          have hbn : Below w1.heap.size w1 wn := up_trans (Below.refl _ _).drew hbn'
          clear hbn'
          go_wp2_with fail
          refine hK.out _ _ (HK.out _ hbn) (fun hHeld => ?_)
          clear hK K
          try simp only [Act.put, List.getElem_toArray, List.getElem_cons_zero, List.getElem_cons_succ, List.setIfInBounds_toArray, List.set_cons_zero, List.set_cons_succ]
          refine wpAnyH_take (i := 2) (v := ?_) rfl (by kernel_rfl) (by kernel_rfl) (by kernel_rfl) (fun _ _ _ h => h) (Or.inl ⟨by rfl, ?_⟩) (by assumption) ?_
          rotate_left
          · intro w hSw; (try dsimp only at hSw); go_simp; try with_reducible rfl
          try simp only [Act.put, List.getElem_toArray, List.getElem_cons_zero, List.getElem_cons_succ, List.setIfInBounds_toArray, List.set_cons_zero, List.set_cons_succ]
          refine wpAnyH_take (i := 3) (v := ?_) rfl (by kernel_rfl) (by kernel_rfl) (by kernel_rfl) (fun _ _ _ h => h) (Or.inl ⟨by rfl, ?_⟩) (by assumption) ?_
          rotate_left
          · intro w hSw; (try dsimp only at hSw); go_simp; try with_reducible rfl
          try simp only [Act.put, List.getElem_toArray, List.getElem_cons_zero, List.getElem_cons_succ, List.setIfInBounds_toArray, List.set_cons_zero, List.set_cons_succ]
          refine wpAnyH_take (i := 4) (v := ?_) rfl (by kernel_rfl) (by kernel_rfl) (by kernel_rfl) (fun _ _ _ h => h) (Or.inl ⟨by rfl, ?_⟩) (by assumption) ?_
          rotate_left
          · intro w hSw; (try dsimp only at hSw); go_simp; try with_reducible rfl
          try simp only [Act.put, List.getElem_toArray, List.getElem_cons_zero, List.getElem_cons_succ, List.setIfInBounds_toArray, List.set_cons_zero, List.set_cons_succ]
          refine wpAnyH_take (i := 5) (v := ?_) rfl (by kernel_rfl) (by kernel_rfl) (by kernel_rfl) (fun _ _ _ h => h) (Or.inl ⟨by rfl, ?_⟩) (by assumption) ?_
          rotate_left
          · intro w hSw; (try dsimp only at hSw); go_simp; try with_reducible rfl
          try simp only [Act.put, List.getElem_toArray, List.getElem_cons_zero, List.getElem_cons_succ, List.setIfInBounds_toArray, List.set_cons_zero, List.set_cons_succ]
          refine wpAnyH_take (i := 6) (v := ?_) rfl (by kernel_rfl) (by kernel_rfl) (by kernel_rfl) (fun _ _ _ h => h) (Or.inl ⟨by rfl, ?_⟩) (by assumption) ?_
          rotate_left
          · intro w hSw; (try dsimp only at hSw); go_simp; try with_reducible rfl
          try simp only [Act.put, List.getElem_toArray, List.getElem_cons_zero, List.getElem_cons_succ, List.setIfInBounds_toArray, List.set_cons_zero, List.set_cons_succ]
          refine wpAnyH_take (i := 7) (v := ?_) rfl (by kernel_rfl) (by kernel_rfl) (by kernel_rfl) (fun _ _ _ h => h) (Or.inl ⟨by rfl, ?_⟩) (by assumption) ?_
          rotate_left
          · intro w hSw; (try dsimp only at hSw); go_simp; try with_reducible rfl
          try simp only [Act.put, List.getElem_toArray, List.getElem_cons_zero, List.getElem_cons_succ, List.setIfInBounds_toArray, List.set_cons_zero, List.set_cons_succ]
          refine wpAnyH_take (i := 8) (v := ?_) rfl (by kernel_rfl) (by kernel_rfl) (by kernel_rfl) (fun _ _ _ h => h) (Or.inl ⟨by rfl, ?_⟩) (by assumption) ?_
          rotate_left
          · intro w hSw; (try dsimp only at hSw); go_simp; try with_reducible rfl
          try simp only [Act.put, List.getElem_toArray, List.getElem_cons_zero, List.getElem_cons_succ, List.setIfInBounds_toArray, List.set_cons_zero, List.set_cons_succ]
          refine wpAnyH_ready (rs := [9]) (by kernel_rfl) (by simp) (AllReadyH.cons rfl (fun K hK => ?_) AllReadyH.nil)
          go_simp
          refine (J.out _ hbn).mono ?_; rintro e wn ⟨rfl, hbn'⟩
          replace hbn : Below w1.heap.size w1 wn := up_trans hbn hbn'
          clear hbn'
          go_wp2_with fail
          refine hK.out _ _ (HK.out _ hbn) (fun hHeld => ?_)
          clear hK K
          try simp only [Act.put, List.getElem_toArray, List.getElem_cons_zero, List.getElem_cons_succ, List.setIfInBounds_toArray, List.set_cons_zero, List.set_cons_succ]
          refine wpAnyH_take (i := 10) (v := ?_) rfl (by kernel_rfl) (by kernel_rfl) (by kernel_rfl) (fun _ _ _ h => h) (Or.inl ⟨by rfl, ?_⟩) (by assumption) ?_
          rotate_left
          · intro w hSw; (try dsimp only at hSw); go_simp; try with_reducible rfl
          try simp only [Act.put, List.getElem_toArray, List.getElem_cons_zero, List.getElem_cons_succ, List.setIfInBounds_toArray, List.set_cons_zero, List.set_cons_succ]
          refine wpAnyH_take (i := 11) (v := ?_) rfl (by kernel_rfl) (by kernel_rfl) (by kernel_rfl) (fun _ _ _ h => h) (Or.inl ⟨by rfl, ?_⟩) (by assumption) ?_
          rotate_left
          · intro w hSw; (try dsimp only at hSw); go_simp; try with_reducible rfl
          try simp only [Act.put, List.getElem_toArray, List.getElem_cons_zero, List.getElem_cons_succ, List.setIfInBounds_toArray, List.set_cons_zero, List.set_cons_succ]
          refine wpAnyH_done (by kernel_rfl) ?_ _
          go_wp2_with fail
          go_ret
          exact ⟨by rw [HR.out]; rfl, up_trans hB.out (up_trans b1.out hbn)⟩
        | true =>
          have HR := Lib.hid (step_on HX.out hE.out HO.out ho)
          have j0 := fun w h => runsOn_at (show k < l.length by rw [← hN.out]; exact hlt) (show l.length ≤ 140737488355327 by rw [← hN.out]; exact hn) g o k s hxs t p kd a b w h
          rw [ho] at j0
          have j1 := Lib.hid j0
          clear j0 ho
          go_wp2_with fail
          have hX := Has.make wr 50 [.int .u64 (s : Nat), .int .i64 t, .int .i64 p, .int .i64 kd, .int .i64 a, .int .i64 b]
          have b1 := up_alloc (Below.refl wr.heap.size wr) (Obj.cells #[.int .u64 (s : Nat), .int .i64 t, .int .i64 p, .int .i64 kd, .int .i64 a, .int .i64 b] 50)
          generalize hw1 : World.alloc wr _ = w1
          have hX1 : Has w1 wr.heap.size 50 [.int .u64 (s : Nat), .int .i64 t, .int .i64 p, .int .i64 kd, .int .i64 a, .int .i64 b] := by rw [← hw1]; exact hX
          have b1 : Hid (Below wr.heap.size wr w1) := Lib.hid (by rw [← hw1]; exact b1)
          have HK := Lib.hid (show ∀ W, Below w1.heap.size w1 W → W.cell? ⟨wr.heap.size, 0, none⟩ = some (.int .u64 (s : Nat)) ∧ W.cell? ⟨wr.heap.size, 1, none⟩ = some (.int .i64 t) ∧ W.cell? ⟨wr.heap.size, 2, none⟩ = some (.int .i64 p) ∧ W.cell? ⟨wr.heap.size, 3, none⟩ = some (.int .i64 kd) ∧ W.cell? ⟨wr.heap.size, 4, none⟩ = some (.int .i64 a) ∧ W.cell? ⟨wr.heap.size, 5, none⟩ = some (.int .i64 b) from fun W h => ⟨(hX1.up h).at rfl, (hX1.up h).at rfl, (hX1.up h).at rfl, (hX1.up h).at rfl, (hX1.up h).at rfl, (hX1.up h).at rfl⟩)
          clear hX hX1 hw1 c0 c1 c2 c3 c4 c5
          have J := Lib.hid (fun W (h : Below w1.heap.size w1 W) => j1.out W (HV.out.up (up_trans b1.out h)))
          clear j1
          refine wp_region_held_drew (S := fun W => W.cell? ⟨wr.heap.size, 0, none⟩ = some (.int .u64 (s : Nat)) ∧ W.cell? ⟨wr.heap.size, 1, none⟩ = some (.int .i64 t) ∧ W.cell? ⟨wr.heap.size, 2, none⟩ = some (.int .i64 p) ∧ W.cell? ⟨wr.heap.size, 3, none⟩ = some (.int .i64 kd) ∧ W.cell? ⟨wr.heap.size, 4, none⟩ = some (.int .i64 a) ∧ W.cell? ⟨wr.heap.size, 5, none⟩ = some (.int .i64 b)) (by kernel_rfl) (HK.out _ (Below.refl _ _).drew) (fun hHeld => ?_)
          refine wpAnyH_take (i := 0) (v := ?_) rfl (by kernel_rfl) (by kernel_rfl) (by kernel_rfl) (fun _ _ _ h => h) (Or.inl ⟨by rfl, ?_⟩) (by assumption) ?_
          rotate_left
          · intro w hSw; (try dsimp only at hSw); go_simp; try with_reducible rfl
          try simp only [Act.put, List.getElem_toArray, List.getElem_cons_zero, List.setIfInBounds_toArray, List.set_cons_zero, List.set_cons_succ]
          refine wpAnyH_ready (rs := [1]) (by kernel_rfl) (by simp) (AllReadyH.cons rfl (fun K hK => ?_) AllReadyH.nil)
          go_simp
          refine (I.out _).mono ?_; rintro e wn ⟨rfl, hbn'⟩
          have hbn : Below w1.heap.size w1 wn := up_trans (Below.refl _ _).drew hbn'
          clear hbn'
          go_wp2_with fail
          refine hK.out _ _ (HK.out _ hbn) (fun hHeld => ?_)
          clear hK K
          try simp only [Act.put, List.getElem_toArray, List.getElem_cons_zero, List.getElem_cons_succ, List.setIfInBounds_toArray, List.set_cons_zero, List.set_cons_succ]
          refine wpAnyH_take (i := 2) (v := ?_) rfl (by kernel_rfl) (by kernel_rfl) (by kernel_rfl) (fun _ _ _ h => h) (Or.inl ⟨by rfl, ?_⟩) (by assumption) ?_
          rotate_left
          · intro w hSw; (try dsimp only at hSw); go_simp; try with_reducible rfl
          try simp only [Act.put, List.getElem_toArray, List.getElem_cons_zero, List.getElem_cons_succ, List.setIfInBounds_toArray, List.set_cons_zero, List.set_cons_succ]
          refine wpAnyH_take (i := 3) (v := ?_) rfl (by kernel_rfl) (by kernel_rfl) (by kernel_rfl) (fun _ _ _ h => h) (Or.inl ⟨by rfl, ?_⟩) (by assumption) ?_
          rotate_left
          · intro w hSw; (try dsimp only at hSw); go_simp; try with_reducible rfl
          try simp only [Act.put, List.getElem_toArray, List.getElem_cons_zero, List.getElem_cons_succ, List.setIfInBounds_toArray, List.set_cons_zero, List.set_cons_succ]
          refine wpAnyH_take (i := 4) (v := ?_) rfl (by kernel_rfl) (by kernel_rfl) (by kernel_rfl) (fun _ _ _ h => h) (Or.inl ⟨by rfl, ?_⟩) (by assumption) ?_
          rotate_left
          · intro w hSw; (try dsimp only at hSw); go_simp; try with_reducible rfl
          try simp only [Act.put, List.getElem_toArray, List.getElem_cons_zero, List.getElem_cons_succ, List.setIfInBounds_toArray, List.set_cons_zero, List.set_cons_succ]
          refine wpAnyH_take (i := 5) (v := ?_) rfl (by kernel_rfl) (by kernel_rfl) (by kernel_rfl) (fun _ _ _ h => h) (Or.inl ⟨by rfl, ?_⟩) (by assumption) ?_
          rotate_left
          · intro w hSw; (try dsimp only at hSw); go_simp; try with_reducible rfl
          try simp only [Act.put, List.getElem_toArray, List.getElem_cons_zero, List.getElem_cons_succ, List.setIfInBounds_toArray, List.set_cons_zero, List.set_cons_succ]
          refine wpAnyH_take (i := 6) (v := ?_) rfl (by kernel_rfl) (by kernel_rfl) (by kernel_rfl) (fun _ _ _ h => h) (Or.inl ⟨by rfl, ?_⟩) (by assumption) ?_
          rotate_left
          · intro w hSw; (try dsimp only at hSw); go_simp; try with_reducible rfl
          try simp only [Act.put, List.getElem_toArray, List.getElem_cons_zero, List.getElem_cons_succ, List.setIfInBounds_toArray, List.set_cons_zero, List.set_cons_succ]
          refine wpAnyH_take (i := 7) (v := ?_) rfl (by kernel_rfl) (by kernel_rfl) (by kernel_rfl) (fun _ _ _ h => h) (Or.inl ⟨by rfl, ?_⟩) (by assumption) ?_
          rotate_left
          · intro w hSw; (try dsimp only at hSw); go_simp; try with_reducible rfl
          try simp only [Act.put, List.getElem_toArray, List.getElem_cons_zero, List.getElem_cons_succ, List.setIfInBounds_toArray, List.set_cons_zero, List.set_cons_succ]
          refine wpAnyH_take (i := 8) (v := ?_) rfl (by kernel_rfl) (by kernel_rfl) (by kernel_rfl) (fun _ _ _ h => h) (Or.inl ⟨by rfl, ?_⟩) (by assumption) ?_
          rotate_left
          · intro w hSw; (try dsimp only at hSw); go_simp; try with_reducible rfl
          try simp only [Act.put, List.getElem_toArray, List.getElem_cons_zero, List.getElem_cons_succ, List.setIfInBounds_toArray, List.set_cons_zero, List.set_cons_succ]
          refine wpAnyH_ready (rs := [9]) (by kernel_rfl) (by simp) (AllReadyH.cons rfl (fun K hK => ?_) AllReadyH.nil)
          go_simp
          refine (J.out _ hbn).mono ?_; rintro e wn ⟨rfl, hbn'⟩
          replace hbn : Below w1.heap.size w1 wn := up_trans hbn hbn'
          clear hbn'
          go_wp2_with fail
          refine hK.out _ _ (HK.out _ hbn) (fun hHeld => ?_)
          clear hK K
          try simp only [Act.put, List.getElem_toArray, List.getElem_cons_zero, List.getElem_cons_succ, List.setIfInBounds_toArray, List.set_cons_zero, List.set_cons_succ]
          refine wpAnyH_take (i := 10) (v := ?_) rfl (by kernel_rfl) (by kernel_rfl) (by kernel_rfl) (fun _ _ _ h => h) (Or.inl ⟨by rfl, ?_⟩) (by assumption) ?_
          rotate_left
          · intro w hSw; (try dsimp only at hSw); go_simp; try with_reducible rfl
          try simp only [Act.put, List.getElem_toArray, List.getElem_cons_zero, List.getElem_cons_succ, List.setIfInBounds_toArray, List.set_cons_zero, List.set_cons_succ]
          refine wpAnyH_take (i := 11) (v := ?_) rfl (by kernel_rfl) (by kernel_rfl) (by kernel_rfl) (fun _ _ _ h => h) (Or.inl ⟨by rfl, ?_⟩) (by assumption) ?_
          rotate_left
          · intro w hSw; (try dsimp only at hSw); go_simp; try with_reducible rfl
          try simp only [Act.put, List.getElem_toArray, List.getElem_cons_zero, List.getElem_cons_succ, List.setIfInBounds_toArray, List.set_cons_zero, List.set_cons_succ]
          refine wpAnyH_done (by kernel_rfl) ?_ _
          go_wp2_with fail
          go_roundw
          case rel => exact ⟨k + 1, by omega, by go_num, Lib.hid HR.out, Lib.hid (up_trans hB.out (up_trans b1.out hbn))⟩
          case measure => simp [intOf]; omega
    · obtain rfl : k = n := by omega
      have HR := Lib.hid (show runL l = true by rw [← HF.out]; exact hE.out)
      go_wp2_with fail
      go_ret
      exact ⟨by rw [HR.out]; rfl, hB.out⟩

end Go.Proofs.YtalfmkgcelipdaaDoor
