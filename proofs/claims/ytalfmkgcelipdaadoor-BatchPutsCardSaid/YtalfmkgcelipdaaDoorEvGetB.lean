/- An event of bytes: the contract of event.Get. -/
import Derived.Test.YtalfmkgcelipdaaDoorEvGetA
import Derived.Test.YtalfmkgcelipdaaDoorBase
import Derived.RegionTactic
import Derived.ChangeAlike
import Derived.Lib.Hide
namespace Go.Proofs.YtalfmkgcelipdaaDoor
open Go.RowKit Wire Evt

/-- What event.Get answers. -/
def ans (x : Evt.Told) : Value := .tuple #[.agg #[.int .u64 (x.seq : Nat), .int .i64 x.tick, .int .i64 x.part, .int .i64 x.kind, .int .i64 x.a, .int .i64 x.b], .int .i64 (x.err : Nat)]

theorem text_no {s : ByteArray} (h : 0 < s.size) : s.toList.isEmpty = false := by
  rw [ByteArray.toList_eq]
  cases h' : s.data.toList with
  | nil => have h1 : s.data.toList.length = s.size := by simp
           rw [h', List.length_nil] at h1; omega
  | cons a l => rfl
theorem text_yes {s : ByteArray} (h : s.size = 0) : s.toList = [] := by
  rw [ByteArray.toList_eq]
  apply List.length_eq_zero_iff.1
  simpa using h
theorem text_list (l : List UInt8) : (⟨l.toArray⟩ : ByteArray).size = l.length := by
  show l.toArray.size = _
  simp

theorem Has.make4 (w : World) (o p q : Obj) (t : TypeId) (l : List Value) : Has ((((w.alloc o).alloc p).alloc q).alloc (.cells l.toArray t)) (w.heap.size + 1 + 1 + 1) t l := by
  have := heap_alloc2_new ((w.alloc o).alloc p) q (.cells l.toArray t)
  rwa [show ((w.alloc o).alloc p).heap.size = w.heap.size + 1 + 1 by simp] at this

theorem closure_st (r : List UInt8) (hr : r.length ≤ 140737488355327) (i gf gr : Nat) (hne : gf ≠ gr) (w : World) (hF : Has w gf 29 [.int .i64 ((st r i).2 : Nat)]) (hR : Has w gr 9 [.string ⟨(st r i).1.toArray⟩]) :
    Calls Tryd.prog 80 #[.pointer (some ⟨gf, 0, none⟩), .pointer (some ⟨gr, 0, none⟩)] w fun e w' => e = .returned (.int .u64 (vl r i : Nat)) ∧ Has w' gf 29 [.int .i64 ((st r (i + 1)).2 : Nat)] ∧ Has w' gr 9 [.string ⟨(st r (i + 1)).1.toArray⟩] ∧ Only2 w w' gf gr :=
  closure_any (st r i) (Nat.le_trans (st_len r i) hr) gf gr hne w hF hR

theorem small_vl (r : List UInt8) (i : Nat) (w : World) : Calls Tryd.prog 81 #[.int .u64 (vl r i : Nat)] w fun e w' => e = .returned (.int .i64 (sm (vl r i))) ∧ w = w' := small_any _ (vl_lt r i) w

/-- Where event.Get stands: four blocks of its own. -/
structure Mem4 (w w1 : World) (r : List UInt8) (i g0 gr gf gx : Nat) (x : List Value) : Prop where
  G : Has w1 g0 50 [.int .u64 0, .int .i64 0, .int .i64 0, .int .i64 0, .int .i64 0, .int .i64 0]
  R : Has w1 gr 9 [.string ⟨(st r i).1.toArray⟩]
  F : Has w1 gf 29 [.int .i64 ((st r i).2 : Nat)]
  X : Has w1 gx 50 x
  B : Below w.heap.size w w1
  h0 : g0 = w.heap.size
  hr : gr = w.heap.size + 1
  hf : gf = w.heap.size + 1 + 1
  hx : gx = w.heap.size + 1 + 1 + 1

theorem Mem4.next {w w1 w2 : World} {r : List UInt8} {i g0 gr gf gx : Nat} {x : List Value} (h : Mem4 w w1 r i g0 gr gf gx x) (hF : Has w2 gf 29 [.int .i64 ((st r (i + 1)).2 : Nat)]) (hR : Has w2 gr 9 [.string ⟨(st r (i + 1)).1.toArray⟩]) (O : Only2 w1 w2 gf gr) :
    Mem4 w w2 r (i + 1) g0 gr gf gx x := by
  obtain ⟨G, R, F, X, B, h0, hr, hf, hx⟩ := h
  exact ⟨O.keep (by omega) (by omega) G, hR, hF, O.keep (by omega) (by omega) X, O.below (by omega) (by omega) B.size B, h0, hr, hf, hx⟩
theorem Mem4.store {w w1 : World} {r : List UInt8} {i g0 gr gf gx : Nat} {x : List Value} (h : Mem4 w w1 r i g0 gr gf gx x) (j : Nat) (v : Value) : Mem4 w (w1.setCell ⟨gx, j, none⟩ v) r i g0 gr gf gx (x.set j v) := by
  obtain ⟨G, R, F, X, B, h0, hr, hf, hx⟩ := h
  exact ⟨G.other (by simp; omega) _, R.other (by simp; omega) _, F.other (by simp; omega) _, X.set j v, B.setCell (by simp; omega) v, h0, hr, hf, hx⟩

set_option maxHeartbeats 16000000 in
set_option maxRecDepth 100000 in
theorem get_more (s : ByteArray) (hs : 0 < s.size) (hm : s.size ≤ 140737488355327) (w : World) :
    Calls Tryd.prog 71 #[.string s] w fun e w' => e = .returned (ans (goR (s[0]'hs).toNat (s.data.toList.drop 1))) ∧ Below w.heap.size w w' := by
  have F := front_of s 1
  have hd : (s.data.toList.drop 1).length ≤ 140737488355327 := by
    have h : s.data.toList.length = s.size := by simp
    have h1 : (s.data.toList.drop 1).length ≤ s.data.toList.length := by rw [List.length_drop]; exact Nat.sub_le _ _
    exact Nat.le_trans (h ▸ h1) hm
  have z := text_no hs
  have k0 : (0 : Int) < (s.size : Int) := by omega
  have k1 : (1 : Int) ≤ (s.size : Int) := by omega
  have hc := (s[0]'hs).toNat_lt
  have hw : wrap64 (((s[0]'hs).toNat : Nat) : Int) = (((s[0]'hs).toNat : Nat) : Int) := IntWalk.wrap64_in _ ⟨by omega, by omega⟩
  have HD := Lib.hid hd
  generalize s.data.toList.drop 1 = r at *
  have C := Lib.hid (fun i gf gr hne w hF hR => closure_st r hd i gf gr hne w hF hR)
  have K := Lib.hid (small_vl r)
  have l2 := sm_lo (vl r 2)
  have u2 := sm_hi (vl r 2)
  clear hd
  have F' := Lib.hid F
  clear F
  go_enter Tryd.func71, Tryd.ntmps71
  go_wp2_with fail
  have hF' := F'.out
  refine (C.out 0 _ _ (by omega) _ (Has.alloc (Has.make3 w _ _ _ [.int .i64 0]) _) (by rw [hF']; exact Has.alloc (Has.alloc (Has.make2 w _ _ [.string ⟨r.toArray⟩]) _) _)).mono ?_
  rintro e w1 ⟨rfl, f1, r1, O1⟩
  have M1 : Mem4 w w1 r 1 _ _ _ _ _ := Mem4.next (w := w) (r := r) (i := 0) (g0 := w.heap.size) (gr := w.heap.size + 1) (gf := w.heap.size + 1 + 1) (gx := w.heap.size + 1 + 1 + 1) (x := [.int .u64 0, .int .i64 0, .int .i64 0, .int .i64 ((s[0]'hs).toNat : Nat), .int .i64 0, .int .i64 0])
    ⟨Has.alloc (Has.alloc (Has.alloc (Has.make w 50 [.int .u64 0, .int .i64 0, .int .i64 0, .int .i64 0, .int .i64 0, .int .i64 0]) _) _) _, by rw [hF']; exact Has.alloc (Has.alloc (Has.make2 w _ _ [.string ⟨r.toArray⟩]) _) _, Has.alloc (Has.make3 w _ _ _ [.int .i64 0]) _, Has.make4 w _ _ _ _ _, up_alloc (up_alloc (up_alloc (up_alloc (Below.refl _ _) _) _) _) _, rfl, rfl, rfl, rfl⟩ f1 r1 O1
  clear O1 f1 r1 hF' F'
  have q0 := M1.X.at (i := 0) rfl
  have q1 := M1.X.free 0
  replace M1 := Lib.hid M1
  go_wp2_with fail
  clear q0 q1
  refine (C.out 1 _ _ (by omega) _ (M1.out.store 0 _).F (M1.out.store 0 _).R).mono ?_
  rintro e w2 ⟨rfl, f, r', O⟩
  have M2 : Mem4 w w2 r 2 _ _ _ _ _ := (M1.out.store 0 _).next f r' O
  simp only [List.set_cons_zero] at M2
  have q0 := M2.X.at (i := 1) rfl
  have q1 := M2.X.free 1
  clear f r' O M1
  replace M2 := Lib.hid M2
  go_wp2_with fail
  refine (K.out 1 _).mono ?_; rintro e w' ⟨rfl, rfl⟩
  go_wp2_with fail
  clear q0 q1
  refine (C.out 2 _ _ (by omega) _ (M2.out.store 1 _).F (M2.out.store 1 _).R).mono ?_
  rintro e w3 ⟨rfl, f, r', O⟩
  have M3 : Mem4 w w3 r 3 _ _ _ _ _ := (M2.out.store 1 _).next f r' O
  simp only [List.set_cons_zero, List.set_cons_succ] at M3
  have q0 := M3.X.at (i := 2) rfl
  have q1 := M3.X.free 2
  clear f r' O M2
  replace M3 := Lib.hid M3
  go_wp2_with fail
  refine (K.out 2 _).mono ?_; rintro e w' ⟨rfl, rfl⟩
  go_wp2_with fail
  clear q0 q1
  refine (C.out 3 _ _ (by omega) _ (M3.out.store 2 _).F (M3.out.store 2 _).R).mono ?_
  rintro e w4 ⟨rfl, f, r', O⟩
  have M4 : Mem4 w w4 r 4 _ _ _ _ _ := (M3.out.store 2 _).next f r' O
  simp only [List.set_cons_zero, List.set_cons_succ] at M4
  have q0 := M4.X.at (i := 4) rfl
  have q1 := M4.X.free 4
  clear f r' O M3
  replace M4 := Lib.hid M4
  go_wp2_with fail
  refine (K.out 3 _).mono ?_; rintro e w' ⟨rfl, rfl⟩
  go_wp2_with fail
  clear q0 q1
  refine (C.out 4 _ _ (by omega) _ (M4.out.store 4 _).F (M4.out.store 4 _).R).mono ?_
  rintro e w5 ⟨rfl, f, r', O⟩
  have M5 : Mem4 w w5 r 5 _ _ _ _ _ := (M4.out.store 4 _).next f r' O
  simp only [List.set_cons_zero, List.set_cons_succ] at M5
  have q0 := M5.X.at (i := 5) rfl
  have q1 := M5.X.free 5
  clear f r' O M4
  replace M5 := Lib.hid M5
  go_wp2_with fail
  refine (K.out 4 _).mono ?_; rintro e w' ⟨rfl, rfl⟩
  have M6 : Mem4 w _ r 5 _ _ _ _ _ := M5.out.store 5 (.int .i64 (sm (vl r 4)))
  simp only [List.set_cons_zero, List.set_cons_succ] at M6
  have e0 := M5.out.F.at (i := 0) rfl
  replace M6 := Lib.hid M6
  by_cases he : (st r 5).2 = 0
  · have d0 : (((st r 5).2 : Int) != 0) = false := by rw [he]; rfl
    have e1 := M5.out.R.at (i := 0) rfl
    have zl := text_list (st r 5).1
    by_cases hl : (st r 5).1 = []
    · have hz := text_yes (s := ⟨(st r 5).1.toArray⟩) (by rw [zl, hl]; rfl)
      have x0 := M5.out.X.at (i := 0) rfl
      have x1 := M5.out.X.at (i := 1) rfl
      have x2 := M5.out.X.at (i := 2) rfl
      have x3 := M5.out.X.at (i := 3) rfl
      have x4 := M5.out.X.at (i := 4) rfl
      cases hI : isE (sm (vl r 1)) (sm (vl r 2) - 1) ((s[0]'hs).toNat : Nat) (sm (vl r 3)) (sm (vl r 4)) with
      | false =>
        have i1 := fun w => is_any (vl r 0) (sm (vl r 1)) (sm (vl r 2) - 1) ((s[0]'hs).toNat : Nat) (sm (vl r 3)) (sm (vl r 4)) w
        rw [hI] at i1
        have I1 := Lib.hid i1
        have hA := Lib.hid (goR_form (k := (s[0]'hs).toNat) he hI)
        clear he hl zl i1 hI
        generalize (⟨(st r 5).1.toArray⟩ : ByteArray) = left at *
        go_wp2_with fail
        refine (I1.out _).mono ?_; rintro e w7 ⟨rfl, b7⟩
        have G7 := M6.out.G.up b7
        have B7 := up_trans M6.out.B b7
        clear x0 x1 x2 x3 x4 e0 e1 q0 q1 b7
        have g0 := G7.at (i := 0) rfl
        have g1 := G7.at (i := 1) rfl
        have g2 := G7.at (i := 2) rfl
        have g3 := G7.at (i := 3) rfl
        have g4 := G7.at (i := 4) rfl
        have g5 := G7.at (i := 5) rfl
        have f0 := G7.free 0
        have f1 := G7.free 1
        have f2 := G7.free 2
        have f3 := G7.free 3
        have f4 := G7.free 4
        have f5 := G7.free 5
        replace G7 := Lib.hid G7
        go_wp2_with fail
        have HW := ((((((G7.out.set 0 (.int .u64 0)).set 1 (.int .i64 0)).set 2 (.int .i64 0)).set 3 (.int .i64 0)).set 4 (.int .i64 0)).set 5 (.int .i64 0))
        simp only [List.set_cons_zero, List.set_cons_succ] at HW
        have hb := (Below.setCell (Below.setCell (Below.setCell (Below.setCell (Below.setCell (Below.setCell B7 (p := ⟨w.heap.size, 0, none⟩) (Nat.le_refl _) (.int .u64 0)) (p := ⟨w.heap.size, 1, none⟩) (Nat.le_refl _) (.int .i64 0)) (p := ⟨w.heap.size, 2, none⟩) (Nat.le_refl _) (.int .i64 0)) (p := ⟨w.heap.size, 3, none⟩) (Nat.le_refl _) (.int .i64 0)) (p := ⟨w.heap.size, 4, none⟩) (Nat.le_refl _) (.int .i64 0)) (p := ⟨w.heap.size, 5, none⟩) (Nat.le_refl _) (.int .i64 0))
        have h0 := HW.at (i := 0) rfl
        have h1 := HW.at (i := 1) rfl
        have h2 := HW.at (i := 2) rfl
        have h3 := HW.at (i := 3) rfl
        have h4 := HW.at (i := 4) rfl
        have h5 := HW.at (i := 5) rfl
        clear HW
        exact bodyPost_ret (v := ans (nothing 3)) (by simp [results, Tryd.results71, go_sem, h0, h1, h2, h3, h4, h5, ans, nothing]) rfl ⟨by rw [hA.out], hb⟩
      | true =>
        have i1 := fun w => is_any (vl r 0) (sm (vl r 1)) (sm (vl r 2) - 1) ((s[0]'hs).toNat : Nat) (sm (vl r 3)) (sm (vl r 4)) w
        rw [hI] at i1
        have I1 := Lib.hid i1
        have hA := Lib.hid (goR_fine (k := (s[0]'hs).toNat) he hl hI)
        clear he hl zl i1 hI
        generalize (⟨(st r 5).1.toArray⟩ : ByteArray) = left at *
        go_wp2_with fail
        refine (I1.out _).mono ?_; rintro e w7 ⟨rfl, b7⟩
        have G7 := M6.out.G.up b7
        have X7 := M6.out.X.up b7
        have B7 := up_trans M6.out.B b7
        clear x0 x1 x2 x3 x4 e0 e1 q0 q1 b7
        have g0 := G7.at (i := 0) rfl
        have g1 := G7.at (i := 1) rfl
        have g2 := G7.at (i := 2) rfl
        have g3 := G7.at (i := 3) rfl
        have g4 := G7.at (i := 4) rfl
        have g5 := G7.at (i := 5) rfl
        have f0 := G7.free 0
        have f1 := G7.free 1
        have f2 := G7.free 2
        have f3 := G7.free 3
        have f4 := G7.free 4
        have f5 := G7.free 5
        have x0 := X7.at (i := 0) rfl
        have x1 := X7.at (i := 1) rfl
        have x2 := X7.at (i := 2) rfl
        have x3 := X7.at (i := 3) rfl
        have x4 := X7.at (i := 4) rfl
        have x5 := X7.at (i := 5) rfl
        clear X7
        replace G7 := Lib.hid G7
        go_wp2_with fail
        have HW := ((((((G7.out.set 0 (.int .u64 (vl r 0 : Nat))).set 1 (.int .i64 (sm (vl r 1)))).set 2 (.int .i64 (sm (vl r 2) - 1))).set 3 (.int .i64 ((s[0]'hs).toNat : Nat))).set 4 (.int .i64 (sm (vl r 3)))).set 5 (.int .i64 (sm (vl r 4))))
        simp only [List.set_cons_zero, List.set_cons_succ] at HW
        have hb := (Below.setCell (Below.setCell (Below.setCell (Below.setCell (Below.setCell (Below.setCell B7 (p := ⟨w.heap.size, 0, none⟩) (Nat.le_refl _) (.int .u64 (vl r 0 : Nat))) (p := ⟨w.heap.size, 1, none⟩) (Nat.le_refl _) (.int .i64 (sm (vl r 1)))) (p := ⟨w.heap.size, 2, none⟩) (Nat.le_refl _) (.int .i64 (sm (vl r 2) - 1))) (p := ⟨w.heap.size, 3, none⟩) (Nat.le_refl _) (.int .i64 ((s[0]'hs).toNat : Nat))) (p := ⟨w.heap.size, 4, none⟩) (Nat.le_refl _) (.int .i64 (sm (vl r 3)))) (p := ⟨w.heap.size, 5, none⟩) (Nat.le_refl _) (.int .i64 (sm (vl r 4))))
        have h0 := HW.at (i := 0) rfl
        have h1 := HW.at (i := 1) rfl
        have h2 := HW.at (i := 2) rfl
        have h3 := HW.at (i := 3) rfl
        have h4 := HW.at (i := 4) rfl
        have h5 := HW.at (i := 5) rfl
        clear HW
        exact bodyPost_ret (v := ans ⟨vl r 0, sm (vl r 1), sm (vl r 2) - 1, ((s[0]'hs).toNat : Nat), sm (vl r 3), sm (vl r 4), 0⟩) (by simp [results, Tryd.results71, go_sem, h0, h1, h2, h3, h4, h5, ans]) rfl ⟨by rw [hA.out], hb⟩
    · have hp : 0 < (⟨(st r 5).1.toArray⟩ : ByteArray).size := by
        rw [zl]; exact List.length_pos_iff.2 hl
      have hz := text_no hp
      have hA := Lib.hid (goR_left (k := (s[0]'hs).toNat) he hl)
      clear he hl zl hp
      generalize (⟨(st r 5).1.toArray⟩ : ByteArray) = left at *
      have g0 := M5.out.G.at (i := 0) rfl
      have g1 := M5.out.G.at (i := 1) rfl
      have g2 := M5.out.G.at (i := 2) rfl
      have g3 := M5.out.G.at (i := 3) rfl
      have g4 := M5.out.G.at (i := 4) rfl
      have g5 := M5.out.G.at (i := 5) rfl
      have f0 := M5.out.G.free 0
      have f1 := M5.out.G.free 1
      have f2 := M5.out.G.free 2
      have f3 := M5.out.G.free 3
      have f4 := M5.out.G.free 4
      have f5 := M5.out.G.free 5
      go_wp2_with fail
      have HW := ((((((M6.out.G.set 0 (.int .u64 0)).set 1 (.int .i64 0)).set 2 (.int .i64 0)).set 3 (.int .i64 0)).set 4 (.int .i64 0)).set 5 (.int .i64 0))
      simp only [List.set_cons_zero, List.set_cons_succ] at HW
      have hb := (Below.setCell (Below.setCell (Below.setCell (Below.setCell (Below.setCell (Below.setCell M6.out.B (p := ⟨w.heap.size, 0, none⟩) (Nat.le_refl _) (.int .u64 0)) (p := ⟨w.heap.size, 1, none⟩) (Nat.le_refl _) (.int .i64 0)) (p := ⟨w.heap.size, 2, none⟩) (Nat.le_refl _) (.int .i64 0)) (p := ⟨w.heap.size, 3, none⟩) (Nat.le_refl _) (.int .i64 0)) (p := ⟨w.heap.size, 4, none⟩) (Nat.le_refl _) (.int .i64 0)) (p := ⟨w.heap.size, 5, none⟩) (Nat.le_refl _) (.int .i64 0))
      have h0 := HW.at (i := 0) rfl
      have h1 := HW.at (i := 1) rfl
      have h2 := HW.at (i := 2) rfl
      have h3 := HW.at (i := 3) rfl
      have h4 := HW.at (i := 4) rfl
      have h5 := HW.at (i := 5) rfl
      clear HW
      exact bodyPost_ret (v := ans (nothing 3)) (by simp [results, Tryd.results71, go_sem, h0, h1, h2, h3, h4, h5, ans, nothing]) rfl ⟨by rw [hA.out], hb⟩
  · have d0 : (((st r 5).2 : Int) != 0) = true := by rw [bne_iff_ne]; omega
    have hA := Lib.hid (goR_err (k := (s[0]'hs).toNat) he)
    clear he
    go_wp2_with fail
    clear q0 q1 e0
    generalize (w5.setCell _ _) = w6 at *
    have g0 := M6.out.G.at (i := 0) rfl
    have g1 := M6.out.G.at (i := 1) rfl
    have g2 := M6.out.G.at (i := 2) rfl
    have g3 := M6.out.G.at (i := 3) rfl
    have g4 := M6.out.G.at (i := 4) rfl
    have g5 := M6.out.G.at (i := 5) rfl
    have f0 := M6.out.G.free 0
    have f1 := M6.out.G.free 1
    have f2 := M6.out.G.free 2
    have f3 := M6.out.G.free 3
    have f4 := M6.out.G.free 4
    have f5 := M6.out.G.free 5
    have e1 := M6.out.F.at (i := 0) rfl
    go_region
    go_wp2_with fail
    have HW := ((((((M6.out.G.set 0 (.int .u64 0)).set 1 (.int .i64 0)).set 2 (.int .i64 0)).set 3 (.int .i64 0)).set 4 (.int .i64 0)).set 5 (.int .i64 0))
    simp only [List.set_cons_zero, List.set_cons_succ] at HW
    have hb := (Below.setCell (Below.setCell (Below.setCell (Below.setCell (Below.setCell (Below.setCell M6.out.B (p := ⟨w.heap.size, 0, none⟩) (Nat.le_refl _) (.int .u64 0)) (p := ⟨w.heap.size, 1, none⟩) (Nat.le_refl _) (.int .i64 0)) (p := ⟨w.heap.size, 2, none⟩) (Nat.le_refl _) (.int .i64 0)) (p := ⟨w.heap.size, 3, none⟩) (Nat.le_refl _) (.int .i64 0)) (p := ⟨w.heap.size, 4, none⟩) (Nat.le_refl _) (.int .i64 0)) (p := ⟨w.heap.size, 5, none⟩) (Nat.le_refl _) (.int .i64 0))
    have h0 := HW.at (i := 0) rfl
    have h1 := HW.at (i := 1) rfl
    have h2 := HW.at (i := 2) rfl
    have h3 := HW.at (i := 3) rfl
    have h4 := HW.at (i := 4) rfl
    have h5 := HW.at (i := 5) rfl
    clear HW
    exact bodyPost_ret (v := ans (nothing (st r 5).2)) (by simp [results, Tryd.results71, go_sem, h0, h1, h2, h3, h4, h5, ans, nothing]) rfl ⟨by rw [hA.out], hb.drew⟩

set_option maxHeartbeats 1000000 in
set_option maxRecDepth 100000 in
theorem get_nil (s : ByteArray) (hs : s.size = 0) (w : World) :
    Calls Tryd.prog 71 #[.string s] w fun e w' => e = .returned (ans (nothing 4)) ∧ Below w.heap.size w w' := by
  have z := text_yes hs
  go_enter Tryd.func71, Tryd.ntmps71
  go_wp2_with fail
  exact bodyPost_ret (v := ans (nothing 4)) (by simp [results, Tryd.results71, go_sem, ans, nothing]) rfl ⟨rfl, up_alloc (Below.refl _ _) _⟩

theorem got_cons {s : ByteArray} (hs : 0 < s.size) : got s.data.toList = goR (s[0]'hs).toNat (s.data.toList.drop 1) := by
  have h : s.data.toList = s[0]'hs :: s.data.toList.drop 1 := by
    have hl : 0 < s.data.toList.length := by simpa using hs
    have := List.drop_eq_getElem_cons hl
    simp at this ⊢
    exact this
  rw [h, got]
  rfl

theorem get_any (s : ByteArray) (hm : s.size ≤ 140737488355327) (w : World) :
    Calls Tryd.prog 71 #[.string s] w fun e w' => e = .returned (ans (got s.data.toList)) ∧ Below w.heap.size w w' := by
  by_cases hs : 0 < s.size
  · rw [got_cons hs]
    exact get_more s hs hm w
  · have h0 : s.size = 0 := by omega
    have : s.data.toList = [] := by
      apply List.length_eq_zero_iff.1
      simpa using h0
    rw [this]
    exact get_nil s h0 w

end Go.Proofs.YtalfmkgcelipdaaDoor
