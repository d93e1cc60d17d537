/- Numbers taken one behind the other: the contract of the closure event.Get$1, which keeps what is left and the first error. -/
import Derived.Test.YthhcopeejhhpgaaDoorText
import Derived.Test.YthhcopeejhhpgaaDoorEvA
import Derived.Test.YthhcopeejhhpgaaDoorWires
import Derived.Lib.Hide
import Derived.Test.YthhcopeejhhpgaaDoorBase
import Derived.RegionTactic
import Derived.ChangeAlike
import Derived.Deep.DeepCutAuto
namespace Go.Proofs.YthhcopeejhhpgaaDoor
open Go.RowKit Wire Evt

theorem tk_stp {q : List UInt8 × Nat} (h : q.2 = 0) : stp q = (tk q.1).2 ∧ vlu q = (tk q.1).1 := by rw [stp, if_pos h, vlu, if_pos h]; exact ⟨rfl, rfl⟩
theorem tk_not {q : List UInt8 × Nat} (h : q.2 ≠ 0) : stp q = q ∧ vlu q = 0 := by rw [stp, if_neg h, vlu, if_neg h]; exact ⟨rfl, rfl⟩

set_option maxRecDepth 100000 in
theorem closure_any (q : List UInt8 × Nat) (hq : q.1.length ≤ 140737488355327) (gf gr : Nat) (hne : gf ≠ gr) (w : World) (hF : Has w gf 28 [.int .i64 (q.2 : Nat)]) (hR : Has w gr 9 [.string ⟨q.1.toArray⟩]) :
    Calls Tryd.prog 100 #[.pointer (some ⟨gf, 0, none⟩), .pointer (some ⟨gr, 0, none⟩)] w fun e w' => e = .returned (.int .u64 (vlu q : Nat)) ∧ Has w' gf 28 [.int .i64 ((stp q).2 : Nat)] ∧ Has w' gr 9 [.string ⟨(stp q).1.toArray⟩] ∧ Only2 w w' gf gr := by
  obtain ⟨l, e⟩ := q
  simp only at hq hF hR
  by_cases h0 : e = 0
  · subst h0
    obtain ⟨h1, h2⟩ := tk_stp (q := (l, 0)) rfl
    simp only at h1 h2
    rw [h1, h2]
    have c := fun w => take_any ⟨l.toArray⟩ (by show l.toArray.size ≤ maxLen; unfold maxLen; simp; omega) w
    rw [show (⟨l.toArray⟩ : ByteArray).data.toList = l from rfl] at c
    generalize tk l = p at *
    obtain ⟨v, r, e⟩ := p
    simp only at c
    have C := Lib.hid c
    have f1 := hF.at (i := 0) rfl
    have f2 := hR.at (i := 0) rfl
    have HF := Lib.hid hF
    have HR := Lib.hid hR
    clear c hF hR h1 h2
    go_enter Tryd.func100, Tryd.ntmps100
    go_wp2_with fail
    refine (C.out _).mono ?_; rintro e' w1 ⟨rfl, b1⟩
    have F1 := Lib.hid (HF.out.up b1)
    have R1 := Lib.hid (HR.out.up b1)
    have O1 := Lib.hid (Only2.up (g := gf) (g2 := gr) b1)
    have g1 := F1.out.at (i := 0) rfl
    have g2 := R1.out.at (i := 0) rfl
    have g3 := F1.out.free 0
    have g4 := R1.out.free 0
    have hne' := hne.symm
    go_wp2_with fail
    go_ret
    exact ⟨rfl, (F1.out.other hne _).set 0 _, (R1.out.set 0 _).other hne.symm _, (O1.out.set (Or.inr rfl) _).set (Or.inl rfl) _⟩
  · obtain ⟨h1, h2⟩ := tk_not (q := (l, e)) h0
    rw [h1, h2]
    have f1 := hF.at (i := 0) rfl
    have d : ((e : Int) == 0) = false := by rw [beq_eq_false_iff_ne]; omega
    have HF := Lib.hid hF
    have HR := Lib.hid hR
    clear hF hR h1 h2
    go_enter Tryd.func100, Tryd.ntmps100
    go_wp2_with fail
    go_ret
    exact ⟨rfl, HF.out, HR.out, Only2.refl _ _ _⟩

end Go.Proofs.YthhcopeejhhpgaaDoor

/- An event of bytes: the contract of event.Get. -/
namespace Go.Proofs.YthhcopeejhhpgaaDoor
open Go.RowKit Wire Evt

/-- What event.Get answers. -/
def ans (x : Evt.Told) : Value := .tuple #[.agg #[.int .u64 (x.seq : Nat), .int .i64 x.tick, .int .i64 x.part, .int .i64 x.kind, .int .i64 x.a, .int .i64 x.b], .int .i64 (x.err : Nat)]

theorem Has.make4 (w : World) (o p q : Obj) (t : TypeId) (l : List Value) : Has ((((w.alloc o).alloc p).alloc q).alloc (.cells l.toArray t)) (w.heap.size + 1 + 1 + 1) t l := by
  have := heap_alloc2_new ((w.alloc o).alloc p) q (.cells l.toArray t)
  rwa [show ((w.alloc o).alloc p).heap.size = w.heap.size + 1 + 1 by simp] at this

theorem closure_st (r : List UInt8) (hr : r.length ≤ 140737488355327) (i gf gr : Nat) (hne : gf ≠ gr) (w : World) (hF : Has w gf 28 [.int .i64 ((st r i).2 : Nat)]) (hR : Has w gr 9 [.string ⟨(st r i).1.toArray⟩]) :
    Calls Tryd.prog 100 #[.pointer (some ⟨gf, 0, none⟩), .pointer (some ⟨gr, 0, none⟩)] w fun e w' => e = .returned (.int .u64 (vl r i : Nat)) ∧ Has w' gf 28 [.int .i64 ((st r (i + 1)).2 : Nat)] ∧ Has w' gr 9 [.string ⟨(st r (i + 1)).1.toArray⟩] ∧ Only2 w w' gf gr :=
  closure_any (st r i) (Nat.le_trans (st_len r i) hr) gf gr hne w hF hR

theorem small_vl (r : List UInt8) (i : Nat) (w : World) : Calls Tryd.prog 101 #[.int .u64 (vl r i : Nat)] w fun e w' => e = .returned (.int .i64 (sm (vl r i))) ∧ w = w' := small_any _ (vl_lt r i) w

/-- Where event.Get stands: four blocks of its own. -/
structure Mem4 (w w1 : World) (r : List UInt8) (i g0 gr gf gx : Nat) (x : List Value) : Prop where
  G : Has w1 g0 47 [.int .u64 0, .int .i64 0, .int .i64 0, .int .i64 0, .int .i64 0, .int .i64 0]
  R : Has w1 gr 9 [.string ⟨(st r i).1.toArray⟩]
  F : Has w1 gf 28 [.int .i64 ((st r i).2 : Nat)]
  X : Has w1 gx 47 x
  B : Below w.heap.size w w1
  h0 : g0 = w.heap.size
  hr : gr = w.heap.size + 1
  hf : gf = w.heap.size + 1 + 1
  hx : gx = w.heap.size + 1 + 1 + 1

theorem Mem4.next {w w1 w2 : World} {r : List UInt8} {i g0 gr gf gx : Nat} {x : List Value} (h : Mem4 w w1 r i g0 gr gf gx x) (hF : Has w2 gf 28 [.int .i64 ((st r (i + 1)).2 : Nat)]) (hR : Has w2 gr 9 [.string ⟨(st r (i + 1)).1.toArray⟩]) (O : Only2 w1 w2 gf gr) :
    Mem4 w w2 r (i + 1) g0 gr gf gx x := by
  obtain ⟨G, R, F, X, B, h0, hr, hf, hx⟩ := h
  exact ⟨O.keep (by omega) (by omega) G, hR, hF, O.keep (by omega) (by omega) X, O.below (by omega) (by omega) B.size B, h0, hr, hf, hx⟩
theorem Mem4.store {w w1 : World} {r : List UInt8} {i g0 gr gf gx : Nat} {x : List Value} (h : Mem4 w w1 r i g0 gr gf gx x) (j : Nat) (v : Value) : Mem4 w (w1.setCell ⟨gx, j, none⟩ v) r i g0 gr gf gx (x.set j v) := by
  obtain ⟨G, R, F, X, B, h0, hr, hf, hx⟩ := h
  exact ⟨G.other (by simp; omega) _, R.other (by simp; omega) _, F.other (by simp; omega) _, X.set j v, B.setCell (by simp; omega) v, h0, hr, hf, hx⟩

set_option maxHeartbeats 16000000 in
set_option maxRecDepth 100000 in
theorem get_more (s : ByteArray) (hs : 0 < s.size) (hm : s.size ≤ 140737488355327) (w : World) :
    Calls Tryd.prog 98 #[.string s] w fun e w' => e = .returned (ans (goR (s[0]'hs).toNat (s.data.toList.drop 1))) ∧ Below w.heap.size w w' := by
  have F := front_of s 1
  have hd : (s.data.toList.drop 1).length ≤ 140737488355327 := by
    have h : s.data.toList.length = s.size := by simp
    have h1 : (s.data.toList.drop 1).length ≤ s.data.toList.length := by rw [List.length_drop]; exact Nat.sub_le _ _
    exact Nat.le_trans (h ▸ h1) hm
  have z := text_no hs
  have k0 : (0 : Int) < (s.size : Int) := by omega
  have k1 : (1 : Int) ≤ (s.size : Int) := by omega
  have hc := (s[0]'hs).toNat_lt
  have hw : wrap64 (((s[0]'hs).toNat : Nat) : Int) = (((s[0]'hs).toNat : Nat) : Int) := IntWalk.wrap64_in _ ⟨by omega, by omega⟩
  have HD := Lib.hid hd
  generalize s.data.toList.drop 1 = r at *
  have C := Lib.hid (fun i gf gr hne w hF hR => closure_st r hd i gf gr hne w hF hR)
  have K := Lib.hid (small_vl r)
  have l2 := sm_lo (vl r 2)
  have u2 := sm_hi (vl r 2)
  clear hd
  have F' := Lib.hid F
  clear F
  go_enter Tryd.func98, Tryd.ntmps98
  go_wp2_with fail
  have hF' := F'.out
  refine (C.out 0 _ _ (by omega) _ (Has.alloc (Has.make3 w _ _ _ [.int .i64 0]) _) (by rw [hF']; exact Has.alloc (Has.alloc (Has.make2 w _ _ [.string ⟨r.toArray⟩]) _) _)).mono ?_
  rintro e w1 ⟨rfl, f1, r1, O1⟩
  have M1 : Mem4 w w1 r 1 _ _ _ _ _ := Mem4.next (w := w) (r := r) (i := 0) (g0 := w.heap.size) (gr := w.heap.size + 1) (gf := w.heap.size + 1 + 1) (gx := w.heap.size + 1 + 1 + 1) (x := [.int .u64 0, .int .i64 0, .int .i64 0, .int .i64 ((s[0]'hs).toNat : Nat), .int .i64 0, .int .i64 0])
    ⟨Has.alloc (Has.alloc (Has.alloc (Has.make w 47 [.int .u64 0, .int .i64 0, .int .i64 0, .int .i64 0, .int .i64 0, .int .i64 0]) _) _) _, by rw [hF']; exact Has.alloc (Has.alloc (Has.make2 w _ _ [.string ⟨r.toArray⟩]) _) _, Has.alloc (Has.make3 w _ _ _ [.int .i64 0]) _, Has.make4 w _ _ _ _ _, up_alloc (up_alloc (up_alloc (up_alloc (Below.refl _ _) _) _) _) _, rfl, rfl, rfl, rfl⟩ f1 r1 O1
  clear O1 f1 r1 hF' F'
  have q0 := M1.X.at (i := 0) rfl
  have q1 := M1.X.free 0
  replace M1 := Lib.hid M1
  go_wp2_with fail
  clear q0 q1
  refine (C.out 1 _ _ (by omega) _ (M1.out.store 0 _).F (M1.out.store 0 _).R).mono ?_
  rintro e w2 ⟨rfl, f, r', O⟩
  have M2 : Mem4 w w2 r 2 _ _ _ _ _ := (M1.out.store 0 _).next f r' O
  simp only [List.set_cons_zero] at M2
  have q0 := M2.X.at (i := 1) rfl
  have q1 := M2.X.free 1
  clear f r' O M1
  replace M2 := Lib.hid M2
  go_wp2_with fail
  refine (K.out 1 _).mono ?_; rintro e w' ⟨rfl, rfl⟩
  go_wp2_with fail
  clear q0 q1
  refine (C.out 2 _ _ (by omega) _ (M2.out.store 1 _).F (M2.out.store 1 _).R).mono ?_
  rintro e w3 ⟨rfl, f, r', O⟩
  have M3 : Mem4 w w3 r 3 _ _ _ _ _ := (M2.out.store 1 _).next f r' O
  simp only [List.set_cons_zero, List.set_cons_succ] at M3
  have q0 := M3.X.at (i := 2) rfl
  have q1 := M3.X.free 2
  clear f r' O M2
  replace M3 := Lib.hid M3
  go_wp2_with fail
  refine (K.out 2 _).mono ?_; rintro e w' ⟨rfl, rfl⟩
  go_wp2_with fail
  clear q0 q1
  refine (C.out 3 _ _ (by omega) _ (M3.out.store 2 _).F (M3.out.store 2 _).R).mono ?_
  rintro e w4 ⟨rfl, f, r', O⟩
  have M4 : Mem4 w w4 r 4 _ _ _ _ _ := (M3.out.store 2 _).next f r' O
  simp only [List.set_cons_zero, List.set_cons_succ] at M4
  have q0 := M4.X.at (i := 4) rfl
  have q1 := M4.X.free 4
  clear f r' O M3
  replace M4 := Lib.hid M4
  go_wp2_with fail
  refine (K.out 3 _).mono ?_; rintro e w' ⟨rfl, rfl⟩
  go_wp2_with fail
  clear q0 q1
  refine (C.out 4 _ _ (by omega) _ (M4.out.store 4 _).F (M4.out.store 4 _).R).mono ?_
  rintro e w5 ⟨rfl, f, r', O⟩
  have M5 : Mem4 w w5 r 5 _ _ _ _ _ := (M4.out.store 4 _).next f r' O
  simp only [List.set_cons_zero, List.set_cons_succ] at M5
  have q0 := M5.X.at (i := 5) rfl
  have q1 := M5.X.free 5
  clear f r' O M4
  replace M5 := Lib.hid M5
  go_wp2_with fail
  refine (K.out 4 _).mono ?_; rintro e w' ⟨rfl, rfl⟩
  have M6 : Mem4 w _ r 5 _ _ _ _ _ := M5.out.store 5 (.int .i64 (sm (vl r 4)))
  simp only [List.set_cons_zero, List.set_cons_succ] at M6
  have e0 := M5.out.F.at (i := 0) rfl
  replace M6 := Lib.hid M6
  by_cases he : (st r 5).2 = 0
  · have d0 : (((st r 5).2 : Int) != 0) = false := by rw [he]; rfl
    have e1 := M5.out.R.at (i := 0) rfl
    have zl := text_list (st r 5).1
    by_cases hl : (st r 5).1 = []
    · have hz := text_yes (s := ⟨(st r 5).1.toArray⟩) (by rw [zl, hl]; rfl)
      have x0 := M5.out.X.at (i := 0) rfl
      have x1 := M5.out.X.at (i := 1) rfl
      have x2 := M5.out.X.at (i := 2) rfl
      have x3 := M5.out.X.at (i := 3) rfl
      have x4 := M5.out.X.at (i := 4) rfl
      cases hI : isE (sm (vl r 1)) (sm (vl r 2) - 1) ((s[0]'hs).toNat : Nat) (sm (vl r 3)) (sm (vl r 4)) with
      | false =>
        have i1 := fun w => is_any (vl r 0) (sm (vl r 1)) (sm (vl r 2) - 1) ((s[0]'hs).toNat : Nat) (sm (vl r 3)) (sm (vl r 4)) w
        rw [hI] at i1
        have I1 := Lib.hid i1
        have hA := Lib.hid (goR_form (k := (s[0]'hs).toNat) he hI)
        clear he hl zl i1 hI
        generalize (⟨(st r 5).1.toArray⟩ : ByteArray) = left at *
        go_wp2_with fail
        refine (I1.out _).mono ?_; rintro e w7 ⟨rfl, b7⟩
        have G7 := M6.out.G.up b7
        have B7 := up_trans M6.out.B b7
        clear x0 x1 x2 x3 x4 e0 e1 q0 q1 b7
        have g0 := G7.at (i := 0) rfl
        have g1 := G7.at (i := 1) rfl
        have g2 := G7.at (i := 2) rfl
        have g3 := G7.at (i := 3) rfl
        have g4 := G7.at (i := 4) rfl
        have g5 := G7.at (i := 5) rfl
        have f0 := G7.free 0
        have f1 := G7.free 1
        have f2 := G7.free 2
        have f3 := G7.free 3
        have f4 := G7.free 4
        have f5 := G7.free 5
        replace G7 := Lib.hid G7
        go_wp2_with fail
        have HW := ((((((G7.out.set 0 (.int .u64 0)).set 1 (.int .i64 0)).set 2 (.int .i64 0)).set 3 (.int .i64 0)).set 4 (.int .i64 0)).set 5 (.int .i64 0))
        simp only [List.set_cons_zero, List.set_cons_succ] at HW
        have hb := (Below.setCell (Below.setCell (Below.setCell (Below.setCell (Below.setCell (Below.setCell B7 (p := ⟨w.heap.size, 0, none⟩) (Nat.le_refl _) (.int .u64 0)) (p := ⟨w.heap.size, 1, none⟩) (Nat.le_refl _) (.int .i64 0)) (p := ⟨w.heap.size, 2, none⟩) (Nat.le_refl _) (.int .i64 0)) (p := ⟨w.heap.size, 3, none⟩) (Nat.le_refl _) (.int .i64 0)) (p := ⟨w.heap.size, 4, none⟩) (Nat.le_refl _) (.int .i64 0)) (p := ⟨w.heap.size, 5, none⟩) (Nat.le_refl _) (.int .i64 0))
        have h0 := HW.at (i := 0) rfl
        have h1 := HW.at (i := 1) rfl
        have h2 := HW.at (i := 2) rfl
        have h3 := HW.at (i := 3) rfl
        have h4 := HW.at (i := 4) rfl
        have h5 := HW.at (i := 5) rfl
        clear HW
        exact bodyPost_ret (v := ans (nothing 3)) (by simp [results, Tryd.results98, go_sem, h0, h1, h2, h3, h4, h5, ans, nothing]) rfl ⟨by rw [hA.out], hb⟩
      | true =>
        have i1 := fun w => is_any (vl r 0) (sm (vl r 1)) (sm (vl r 2) - 1) ((s[0]'hs).toNat : Nat) (sm (vl r 3)) (sm (vl r 4)) w
        rw [hI] at i1
        have I1 := Lib.hid i1
        have hA := Lib.hid (goR_fine (k := (s[0]'hs).toNat) he hl hI)
        clear he hl zl i1 hI
        generalize (⟨(st r 5).1.toArray⟩ : ByteArray) = left at *
        go_wp2_with fail
        refine (I1.out _).mono ?_; rintro e w7 ⟨rfl, b7⟩
        have G7 := M6.out.G.up b7
        have X7 := M6.out.X.up b7
        have B7 := up_trans M6.out.B b7
        clear x0 x1 x2 x3 x4 e0 e1 q0 q1 b7
        have g0 := G7.at (i := 0) rfl
        have g1 := G7.at (i := 1) rfl
        have g2 := G7.at (i := 2) rfl
        have g3 := G7.at (i := 3) rfl
        have g4 := G7.at (i := 4) rfl
        have g5 := G7.at (i := 5) rfl
        have f0 := G7.free 0
        have f1 := G7.free 1
        have f2 := G7.free 2
        have f3 := G7.free 3
        have f4 := G7.free 4
        have f5 := G7.free 5
        have x0 := X7.at (i := 0) rfl
        have x1 := X7.at (i := 1) rfl
        have x2 := X7.at (i := 2) rfl
        have x3 := X7.at (i := 3) rfl
        have x4 := X7.at (i := 4) rfl
        have x5 := X7.at (i := 5) rfl
        clear X7
        replace G7 := Lib.hid G7
        go_wp2_with fail
        have HW := ((((((G7.out.set 0 (.int .u64 (vl r 0 : Nat))).set 1 (.int .i64 (sm (vl r 1)))).set 2 (.int .i64 (sm (vl r 2) - 1))).set 3 (.int .i64 ((s[0]'hs).toNat : Nat))).set 4 (.int .i64 (sm (vl r 3)))).set 5 (.int .i64 (sm (vl r 4))))
        simp only [List.set_cons_zero, List.set_cons_succ] at HW
        have hb := (Below.setCell (Below.setCell (Below.setCell (Below.setCell (Below.setCell (Below.setCell B7 (p := ⟨w.heap.size, 0, none⟩) (Nat.le_refl _) (.int .u64 (vl r 0 : Nat))) (p := ⟨w.heap.size, 1, none⟩) (Nat.le_refl _) (.int .i64 (sm (vl r 1)))) (p := ⟨w.heap.size, 2, none⟩) (Nat.le_refl _) (.int .i64 (sm (vl r 2) - 1))) (p := ⟨w.heap.size, 3, none⟩) (Nat.le_refl _) (.int .i64 ((s[0]'hs).toNat : Nat))) (p := ⟨w.heap.size, 4, none⟩) (Nat.le_refl _) (.int .i64 (sm (vl r 3)))) (p := ⟨w.heap.size, 5, none⟩) (Nat.le_refl _) (.int .i64 (sm (vl r 4))))
        have h0 := HW.at (i := 0) rfl
        have h1 := HW.at (i := 1) rfl
        have h2 := HW.at (i := 2) rfl
        have h3 := HW.at (i := 3) rfl
        have h4 := HW.at (i := 4) rfl
        have h5 := HW.at (i := 5) rfl
        clear HW
        exact bodyPost_ret (v := ans ⟨vl r 0, sm (vl r 1), sm (vl r 2) - 1, ((s[0]'hs).toNat : Nat), sm (vl r 3), sm (vl r 4), 0⟩) (by simp [results, Tryd.results98, go_sem, h0, h1, h2, h3, h4, h5, ans]) rfl ⟨by rw [hA.out], hb⟩
    · have hp : 0 < (⟨(st r 5).1.toArray⟩ : ByteArray).size := by
        rw [zl]; exact List.length_pos_iff.2 hl
      have hz := text_no hp
      have hA := Lib.hid (goR_left (k := (s[0]'hs).toNat) he hl)
      clear he hl zl hp
      generalize (⟨(st r 5).1.toArray⟩ : ByteArray) = left at *
      have g0 := M5.out.G.at (i := 0) rfl
      have g1 := M5.out.G.at (i := 1) rfl
      have g2 := M5.out.G.at (i := 2) rfl
      have g3 := M5.out.G.at (i := 3) rfl
      have g4 := M5.out.G.at (i := 4) rfl
      have g5 := M5.out.G.at (i := 5) rfl
      have f0 := M5.out.G.free 0
      have f1 := M5.out.G.free 1
      have f2 := M5.out.G.free 2
      have f3 := M5.out.G.free 3
      have f4 := M5.out.G.free 4
      have f5 := M5.out.G.free 5
      go_wp2_with fail
      have HW := ((((((M6.out.G.set 0 (.int .u64 0)).set 1 (.int .i64 0)).set 2 (.int .i64 0)).set 3 (.int .i64 0)).set 4 (.int .i64 0)).set 5 (.int .i64 0))
      simp only [List.set_cons_zero, List.set_cons_succ] at HW
      have hb := (Below.setCell (Below.setCell (Below.setCell (Below.setCell (Below.setCell (Below.setCell M6.out.B (p := ⟨w.heap.size, 0, none⟩) (Nat.le_refl _) (.int .u64 0)) (p := ⟨w.heap.size, 1, none⟩) (Nat.le_refl _) (.int .i64 0)) (p := ⟨w.heap.size, 2, none⟩) (Nat.le_refl _) (.int .i64 0)) (p := ⟨w.heap.size, 3, none⟩) (Nat.le_refl _) (.int .i64 0)) (p := ⟨w.heap.size, 4, none⟩) (Nat.le_refl _) (.int .i64 0)) (p := ⟨w.heap.size, 5, none⟩) (Nat.le_refl _) (.int .i64 0))
      have h0 := HW.at (i := 0) rfl
      have h1 := HW.at (i := 1) rfl
      have h2 := HW.at (i := 2) rfl
      have h3 := HW.at (i := 3) rfl
      have h4 := HW.at (i := 4) rfl
      have h5 := HW.at (i := 5) rfl
      clear HW
      exact bodyPost_ret (v := ans (nothing 3)) (by simp [results, Tryd.results98, go_sem, h0, h1, h2, h3, h4, h5, ans, nothing]) rfl ⟨by rw [hA.out], hb⟩
  · have d0 : (((st r 5).2 : Int) != 0) = true := by rw [bne_iff_ne]; omega
    have hA := Lib.hid (goR_err (k := (s[0]'hs).toNat) he)
    clear he
    go_wp2_with fail
    clear q0 q1 e0
    generalize (w5.setCell _ _) = w6 at *
    have g0 := M6.out.G.at (i := 0) rfl
    have g1 := M6.out.G.at (i := 1) rfl
    have g2 := M6.out.G.at (i := 2) rfl
    have g3 := M6.out.G.at (i := 3) rfl
    have g4 := M6.out.G.at (i := 4) rfl
    have g5 := M6.out.G.at (i := 5) rfl
    have f0 := M6.out.G.free 0
    have f1 := M6.out.G.free 1
    have f2 := M6.out.G.free 2
    have f3 := M6.out.G.free 3
    have f4 := M6.out.G.free 4
    have f5 := M6.out.G.free 5
    have e1 := M6.out.F.at (i := 0) rfl
    go_region
    go_wp2_with fail
    have HW := ((((((M6.out.G.set 0 (.int .u64 0)).set 1 (.int .i64 0)).set 2 (.int .i64 0)).set 3 (.int .i64 0)).set 4 (.int .i64 0)).set 5 (.int .i64 0))
    simp only [List.set_cons_zero, List.set_cons_succ] at HW
    have hb := (Below.setCell (Below.setCell (Below.setCell (Below.setCell (Below.setCell (Below.setCell M6.out.B (p := ⟨w.heap.size, 0, none⟩) (Nat.le_refl _) (.int .u64 0)) (p := ⟨w.heap.size, 1, none⟩) (Nat.le_refl _) (.int .i64 0)) (p := ⟨w.heap.size, 2, none⟩) (Nat.le_refl _) (.int .i64 0)) (p := ⟨w.heap.size, 3, none⟩) (Nat.le_refl _) (.int .i64 0)) (p := ⟨w.heap.size, 4, none⟩) (Nat.le_refl _) (.int .i64 0)) (p := ⟨w.heap.size, 5, none⟩) (Nat.le_refl _) (.int .i64 0))
    have h0 := HW.at (i := 0) rfl
    have h1 := HW.at (i := 1) rfl
    have h2 := HW.at (i := 2) rfl
    have h3 := HW.at (i := 3) rfl
    have h4 := HW.at (i := 4) rfl
    have h5 := HW.at (i := 5) rfl
    clear HW
    exact bodyPost_ret (v := ans (nothing (st r 5).2)) (by simp [results, Tryd.results98, go_sem, h0, h1, h2, h3, h4, h5, ans, nothing]) rfl ⟨by rw [hA.out], hb.drew⟩

set_option maxHeartbeats 1000000 in
set_option maxRecDepth 100000 in
theorem get_nil (s : ByteArray) (hs : s.size = 0) (w : World) :
    Calls Tryd.prog 98 #[.string s] w fun e w' => e = .returned (ans (nothing 4)) ∧ Below w.heap.size w w' := by
  have z := text_yes hs
  go_enter Tryd.func98, Tryd.ntmps98
  go_wp2_with fail
  exact bodyPost_ret (v := ans (nothing 4)) (by simp [results, Tryd.results98, go_sem, ans, nothing]) rfl ⟨rfl, up_alloc (Below.refl _ _) _⟩

theorem got_cons {s : ByteArray} (hs : 0 < s.size) : got s.data.toList = goR (s[0]'hs).toNat (s.data.toList.drop 1) := by
  have h : s.data.toList = s[0]'hs :: s.data.toList.drop 1 := by
    have hl : 0 < s.data.toList.length := by simpa using hs
    have := List.drop_eq_getElem_cons hl
    simp at this ⊢
    exact this
  rw [h, got]
  rfl

theorem get_any (s : ByteArray) (hm : s.size ≤ 140737488355327) (w : World) :
    Calls Tryd.prog 98 #[.string s] w fun e w' => e = .returned (ans (got s.data.toList)) ∧ Below w.heap.size w w' := by
  by_cases hs : 0 < s.size
  · rw [got_cons hs]
    exact get_more s hs hm w
  · have h0 : s.size = 0 := by omega
    have : s.data.toList = [] := by
      apply List.length_eq_zero_iff.1
      simpa using h0
    rw [this]
    exact get_nil s h0 w

end Go.Proofs.YthhcopeejhhpgaaDoor

/- An event of bytes: the contract of the document's own Get. -/
namespace Go.Proofs.YthhcopeejhhpgaaDoor
open Go.RowKit Wire Evt

theorem rtake_st {r : List UInt8} (hr : r.length ≤ 140737488355327) {i : Nat} (h : (st r i).2 = 0) (w : World) :
    Calls Tryd.prog 73 #[.string ⟨(st r i).1.toArray⟩] w fun e w' => e = .returned (.tuple #[.int .u64 (vl r i : Nat), .string ⟨(st r (i + 1)).1.toArray⟩, .int .i64 ((st r (i + 1)).2 : Nat)]) ∧ Below w.heap.size w w' := by
  have hl := st_len r i
  have c := rtake_any ⟨(st r i).1.toArray⟩ (by show (st r i).1.toArray.size ≤ maxLen; unfold maxLen; simp; omega) w
  rw [show (⟨(st r i).1.toArray⟩ : ByteArray).data.toList = (st r i).1 from rfl] at c
  have e1 : st r (i + 1) = (tk (st r i).1).2 := by rw [st, stp, if_pos h]
  have e2 : vl r i = (tk (st r i).1).1 := by rw [vl, vlu, if_pos h]
  rw [e1, e2]
  exact c

/-- The numbers that were taken so far. -/
def vls (r : List UInt8) (k : Nat) : List Nat := (List.range k).map (vl r)
theorem vls_succ (r : List UInt8) (k : Nat) : vls r (k + 1) = vls r k ++ [vl r k] := by simp [vls, List.range_succ]
theorem vls_length (r : List UInt8) (k : Nat) : (vls r k).length = k := by simp [vls]
theorem vls_at (r : List UInt8) {k i : Nat} (h : i < k) : (vls r k)[i]? = some (vl r i) := by simp [vls, h]

theorem goR_early {c : Nat} {r : List UInt8} {k : Nat} (hk : k < 5) (h : (st r (k + 1)).2 ≠ 0) : goR c r = nothing (st r (k + 1)).2 := by
  obtain ⟨d, hd⟩ : ∃ d, 5 = k + 1 + d := ⟨4 - k, by omega⟩
  have e := st_stays h d
  rw [← hd] at e
  rw [goR_err (by rw [e]; exact h), e]

theorem goR_big {c : Nat} {r : List UInt8} (h : (st r 5).2 = 0) {j : Nat} (h1 : 1 ≤ j) (h5 : j < 5) (hb : 1099511627776 < vl r j) : goR c r = nothing 3 := by
  by_cases hl : (st r 5).1 = []
  · refine goR_form h ?_
    have hs : sm (vl r j) = -2 := by rw [sm, if_pos hb]
    cases hE : isE (sm (vl r 1)) (sm (vl r 2) - 1) c (sm (vl r 3)) (sm (vl r 4)) with
    | false => rfl
    | true =>
      have R := isE_yes.1 hE
      have := R.t0
      have := R.p0
      have := R.a0
      have := R.b0
      have h4 : j = 1 ∨ j = 2 ∨ j = 3 ∨ j = 4 := by omega
      rcases h4 with rfl | rfl | rfl | rfl <;> omega
  · exact goR_left h hl

set_option maxHeartbeats 16000000 in
set_option maxRecDepth 100000 in
theorem rget_more (s : ByteArray) (hs : 0 < s.size) (hm : s.size ≤ 140737488355327) (w : World) :
    Calls Tryd.prog 75 #[.string s] w fun e w' => e = .returned (ans (goR (s[0]'hs).toNat (s.data.toList.drop 1))) ∧ Below w.heap.size w w' := by
  have F := front_of s 1
  have hd : (s.data.toList.drop 1).length ≤ 140737488355327 := by
    have h : s.data.toList.length = s.size := by simp
    have h1 : (s.data.toList.drop 1).length ≤ s.data.toList.length := by rw [List.length_drop]; exact Nat.sub_le _ _
    exact Nat.le_trans (h ▸ h1) hm
  have z := text_no hs
  have k0 : (0 : Int) < (s.size : Int) := by omega
  have k1 : (1 : Int) ≤ (s.size : Int) := by omega
  have hc := (s[0]'hs).toNat_lt
  have HD := Lib.hid hd
  generalize s.data.toList.drop 1 = r at *
  have hx : s.extract 1 s.size = ⟨(st r 0).1.toArray⟩ := F
  have HX := Lib.hid hx
  have HW := Lib.hid (show wrap64 (((s[0]'hs).toNat : Nat) : Int) = (((s[0]'hs).toNat : Nat) : Int) from IntWalk.wrap64_in _ ⟨by omega, by omega⟩)
  clear hd F hx
  go_enter Tryd.func75, Tryd.ntmps75
  go_wp2_with fail
  have hA := Lib.hid (Has.make w 47 [.int .u64 0, .int .i64 0, .int .i64 0, .int .i64 0, .int .i64 0, .int .i64 0])
  simp only [HX.out]
  go_loopw [4, 5, 6] (fun v u i wr => ∃ k : Nat, k ≤ 5 ∧ i = .int .i64 k ∧ u = .string ⟨(st r k).1.toArray⟩ ∧ Hid ((st r k).2 = 0) ∧ Hid (Own8 (w.heap.size + 1) v (vls r k) wr) ∧ Hid (Has wr w.heap.size 47 [.int .u64 0, .int .i64 0, .int .i64 0, .int .i64 0, .int .i64 0, .int .i64 0]) ∧ Hid (Below w.heap.size w wr)) (fun _ _ i _ => 5 - (intOf i).toNat)
  case atStart => exact ⟨0, by omega, rfl, rfl, Lib.hid rfl, Lib.hid (Own8.nil _ _), hA, Lib.hid (up_alloc (Below.refl _ _) _)⟩
  case round =>
    obtain ⟨k, hk, rfl, rfl, hE, hO, hG, hB⟩ := hrel
    clear hA
    by_cases hlt : k < 5
    · have hlt' : (k : Int) < 5 := by omega
      have C := Lib.hid (fun w => rtake_st HD.out hE.out w)
      by_cases he : (st r (k + 1)).2 = 0
      · have d0 : (((st r (k + 1)).2 : Int) != 0) = false := by rw [he]; rfl
        have HE := Lib.hid he
        clear he
        go_wp2_with fail
        refine (C.out _).mono ?_; rintro e w1 ⟨rfl, b1⟩
        have O1 := Lib.hid (hO.out.below b1)
        have G1 := Lib.hid (hG.out.up b1)
        have B1 := Lib.hid (up_trans hB.out b1)
        have hsz : w.heap.size + 1 ≤ w1.heap.size := by have := G1.out.lt; omega
        have HS := Lib.hid hsz
        clear b1 hsz
        go_wp2_with (refine wpList_push8 rfl (.tmp 31) (.tmp 33) rfl (w.heap.size + 1) _ (vls r k) (by rfl) (O1.out.alloc _) w1.heap.size 1 [vl r k] (by rfl) (Has.make w1 25 (nums .u64 [vl r k])) rfl (by omega) (by rw [vls_length]; omega) (by have := HS.out; simp; omega) ?_; intro v' w' hO' hB')
        go_roundw
        case rel =>
          refine ⟨k + 1, by omega, by go_num, rfl, HE, Lib.hid (by rw [vls_succ]; exact hO'), Lib.hid ((G1.out.alloc _).below hB' (by omega)), Lib.hid ((up_alloc B1.out _).trans (hB'.mono (by omega)))⟩
        case measure => simp [intOf]; omega
      · have d0 : (((st r (k + 1)).2 : Int) != 0) = true := by rw [bne_iff_ne]; omega
        have hR := Lib.hid (goR_early (c := (s[0]'hs).toNat) hlt he)
        clear he
        go_wp2_with fail
        refine (C.out _).mono ?_; rintro e w1 ⟨rfl, b1⟩
        have G1 := hG.out.up b1
        have B1 := up_trans hB.out b1
        clear b1
        have g0 := G1.at (i := 0) rfl
        have g1 := G1.at (i := 1) rfl
        have g2 := G1.at (i := 2) rfl
        have g3 := G1.at (i := 3) rfl
        have g4 := G1.at (i := 4) rfl
        have g5 := G1.at (i := 5) rfl
        have f0 := G1.free 0
        have f1 := G1.free 1
        have f2 := G1.free 2
        have f3 := G1.free 3
        have f4 := G1.free 4
        have f5 := G1.free 5
        replace G1 := Lib.hid G1
        go_wp2_with fail
        have HZ := ((((((G1.out.set 0 (.int .u64 0)).set 1 (.int .i64 0)).set 2 (.int .i64 0)).set 3 (.int .i64 0)).set 4 (.int .i64 0)).set 5 (.int .i64 0))
        simp only [List.set_cons_zero, List.set_cons_succ] at HZ
        have hb := (Below.setCell (Below.setCell (Below.setCell (Below.setCell (Below.setCell (Below.setCell B1 (p := ⟨w.heap.size, 0, none⟩) (Nat.le_refl _) (.int .u64 0)) (p := ⟨w.heap.size, 1, none⟩) (Nat.le_refl _) (.int .i64 0)) (p := ⟨w.heap.size, 2, none⟩) (Nat.le_refl _) (.int .i64 0)) (p := ⟨w.heap.size, 3, none⟩) (Nat.le_refl _) (.int .i64 0)) (p := ⟨w.heap.size, 4, none⟩) (Nat.le_refl _) (.int .i64 0)) (p := ⟨w.heap.size, 5, none⟩) (Nat.le_refl _) (.int .i64 0))
        have h0 := HZ.at (i := 0) rfl
        have h1 := HZ.at (i := 1) rfl
        have h2 := HZ.at (i := 2) rfl
        have h3 := HZ.at (i := 3) rfl
        have h4 := HZ.at (i := 4) rfl
        have h5 := HZ.at (i := 5) rfl
        clear HZ
        exact bodyPost_ret (v := ans (nothing (st r (k + 1)).2)) (by simp [results, Tryd.results75, go_sem, h0, h1, h2, h3, h4, h5, ans, nothing]) rfl ⟨by rw [hR.out], hb⟩
    · obtain rfl : k = 5 := by omega
      obtain ⟨g, cap, rfl, hg, hgl, hcap, hcell⟩ := hO.out.opened (by rw [vls_length]; omega)
      rw [vls_length] at hcap
      have HC := Lib.hid (show ∀ j, j < 5 → wr.cell? ⟨g, j, none⟩ = some (.int .u64 (vl r j : Nat)) from fun j hj => hcell j _ (vls_at r hj))
      have hlen := vls_length r 5
      have HL := Lib.hid hlen
      clear hcell hlen hO
      simp only [HL.out]
      go_wp2_with fail
      go_loop [10] (fun i => ∃ j : Nat, 1 ≤ j ∧ j ≤ 5 ∧ i = .int .i64 j ∧ Hid (∀ i, 1 ≤ i → i < j → vl r i ≤ 1099511627776)) (fun i => 5 - (intOf i).toNat)
      case atStart => exact ⟨1, by omega, by omega, rfl, Lib.hid (fun i h1 h2 => by omega)⟩
      case round =>
        obtain ⟨j, hj1, hj, rfl, hM⟩ := hrel
        by_cases hjt : j < 5
        · have hjt' : (j : Int) < 5 := by omega
          have hcj := HC.out j hjt
          by_cases hb : 1099511627776 < vl r j
          · have hb' : (1099511627776 : Int) < (vl r j : Int) := by omega
            have hR := Lib.hid (goR_big (c := (s[0]'hs).toNat) hE.out hj1 hjt hb)
            have G1 := hG.out
            have B1 := hB.out
            clear hb
            have g0 := G1.at (i := 0) rfl
            have g1 := G1.at (i := 1) rfl
            have g2 := G1.at (i := 2) rfl
            have g3 := G1.at (i := 3) rfl
            have g4 := G1.at (i := 4) rfl
            have g5 := G1.at (i := 5) rfl
            have f0 := G1.free 0
            have f1 := G1.free 1
            have f2 := G1.free 2
            have f3 := G1.free 3
            have f4 := G1.free 4
            have f5 := G1.free 5
            replace G1 := Lib.hid G1
            go_wp2_with fail
            have HZ := ((((((G1.out.set 0 (.int .u64 0)).set 1 (.int .i64 0)).set 2 (.int .i64 0)).set 3 (.int .i64 0)).set 4 (.int .i64 0)).set 5 (.int .i64 0))
            simp only [List.set_cons_zero, List.set_cons_succ] at HZ
            have hb := (Below.setCell (Below.setCell (Below.setCell (Below.setCell (Below.setCell (Below.setCell B1 (p := ⟨w.heap.size, 0, none⟩) (Nat.le_refl _) (.int .u64 0)) (p := ⟨w.heap.size, 1, none⟩) (Nat.le_refl _) (.int .i64 0)) (p := ⟨w.heap.size, 2, none⟩) (Nat.le_refl _) (.int .i64 0)) (p := ⟨w.heap.size, 3, none⟩) (Nat.le_refl _) (.int .i64 0)) (p := ⟨w.heap.size, 4, none⟩) (Nat.le_refl _) (.int .i64 0)) (p := ⟨w.heap.size, 5, none⟩) (Nat.le_refl _) (.int .i64 0))
            have h0 := HZ.at (i := 0) rfl
            have h1 := HZ.at (i := 1) rfl
            have h2 := HZ.at (i := 2) rfl
            have h3 := HZ.at (i := 3) rfl
            have h4 := HZ.at (i := 4) rfl
            have h5 := HZ.at (i := 5) rfl
            clear HZ
            exact bodyPost_ret (v := ans (nothing 3)) (by simp [results, Tryd.results75, go_sem, h0, h1, h2, h3, h4, h5, ans, nothing]) rfl ⟨by rw [hR.out], hb⟩
          · have hb' : (vl r j : Int) ≤ 1099511627776 := by omega
            have HB := Lib.hid hb
            clear hb
            go_wp2_with fail
            go_round
            case rel => exact ⟨j + 1, by omega, by omega, by go_num, Lib.hid (fun i h1 h2 => by
              by_cases h : i = j
              · subst h; have := HB.out; omega
              · exact hM.out i h1 (by omega))⟩
            case measure => simp [intOf]; omega
        · obtain rfl : j = 5 := by omega
          have M := hM.out
          have v1 : IntKind.i64.wrap (vl r 1 : Int) = sm (vl r 1) := by have := M 1 (by omega) (by omega); rw [sm_of this, IntWalk.i64_in _ (by omega)]
          have v2 : IntKind.i64.wrap (vl r 2 : Int) = sm (vl r 2) := by have := M 2 (by omega) (by omega); rw [sm_of this, IntWalk.i64_in _ (by omega)]
          have v3 : IntKind.i64.wrap (vl r 3 : Int) = sm (vl r 3) := by have := M 3 (by omega) (by omega); rw [sm_of this, IntWalk.i64_in _ (by omega)]
          have v4 : IntKind.i64.wrap (vl r 4 : Int) = sm (vl r 4) := by have := M 4 (by omega) (by omega); rw [sm_of this, IntWalk.i64_in _ (by omega)]
          have v5 : IntKind.i64.wrap (sm (vl r 2) - 1) = sm (vl r 2) - 1 := by
            have := sm_lo (vl r 2)
            have := sm_hi (vl r 2)
            exact IntWalk.i64_in _ (by omega)
          have v6 : IntKind.i64.wrap (((s[0]'hs).toNat : Nat) : Int) = (((s[0]'hs).toNat : Nat) : Int) := IntWalk.i64_in _ (by omega)
          have v7 := HW.out
          have HK := Lib.hid (show ∀ W, Below wr.heap.size wr W → W.cell? ⟨g, 0, none⟩ = some (.int .u64 (vl r 0 : Nat)) ∧ W.cell? ⟨g, 1, none⟩ = some (.int .u64 (vl r 1 : Nat)) ∧ W.cell? ⟨g, 2, none⟩ = some (.int .u64 (vl r 2 : Nat)) ∧ W.cell? ⟨g, 3, none⟩ = some (.int .u64 (vl r 3 : Nat)) ∧ W.cell? ⟨g, 4, none⟩ = some (.int .u64 (vl r 4 : Nat)) from fun W h => ⟨(h.cell (p := ⟨g, 0, none⟩) hgl).trans (HC.out 0 (by omega)), (h.cell (p := ⟨g, 1, none⟩) hgl).trans (HC.out 1 (by omega)), (h.cell (p := ⟨g, 2, none⟩) hgl).trans (HC.out 2 (by omega)), (h.cell (p := ⟨g, 3, none⟩) hgl).trans (HC.out 3 (by omega)), (h.cell (p := ⟨g, 4, none⟩) hgl).trans (HC.out 4 (by omega))⟩)
          clear M hM
          go_upto_region 18 with fail
          go_cut [11] (fun v wx => v = .pointer (some ⟨wr.heap.size, 0, none⟩) ∧ Has wx wr.heap.size 47 [.int .u64 (vl r 0 : Nat), .int .i64 (sm (vl r 1)), .int .i64 (sm (vl r 2) - 1), .int .i64 ((s[0]'hs).toNat : Nat), .int .i64 (sm (vl r 3)), .int .i64 (sm (vl r 4))] ∧ Below wr.heap.size wr wx)
          case first =>
            refine wp_region_held_drew (S := fun W => W.cell? ⟨g, 0, none⟩ = some (.int .u64 (vl r 0 : Nat)) ∧ W.cell? ⟨g, 1, none⟩ = some (.int .u64 (vl r 1 : Nat)) ∧ W.cell? ⟨g, 2, none⟩ = some (.int .u64 (vl r 2 : Nat)) ∧ W.cell? ⟨g, 3, none⟩ = some (.int .u64 (vl r 3 : Nat)) ∧ W.cell? ⟨g, 4, none⟩ = some (.int .u64 (vl r 4 : Nat))) (by kernel_rfl) (HK.out _ (Below.refl _ _).drew) (fun hHeld => ?_)
            refine wpAnyH_take (i := 0) (v := ?_) rfl (by kernel_rfl) (by kernel_rfl) (by kernel_rfl) (fun _ _ _ h => h) (Or.inl ⟨by rfl, ?_⟩) (by assumption) ?_
            rotate_left
            · intro w hSw; (try dsimp only at hSw); go_simp; try with_reducible rfl
            try simp only [Act.put, List.getElem_toArray, List.getElem_cons_zero, List.setIfInBounds_toArray, List.set_cons_zero, List.set_cons_succ]
            refine wpAnyH_take (i := 1) (v := ?_) rfl (by kernel_rfl) (by kernel_rfl) (by kernel_rfl) (fun _ _ _ h => h) (Or.inl ⟨by rfl, ?_⟩) (by assumption) ?_
            rotate_left
            · intro w hSw; (try dsimp only at hSw); go_simp; try with_reducible rfl
            try simp only [Act.put, List.getElem_toArray, List.getElem_cons_zero, List.getElem_cons_succ, List.setIfInBounds_toArray, List.set_cons_zero, List.set_cons_succ]
            refine wpAnyH_take (i := 2) (v := ?_) rfl (by kernel_rfl) (by kernel_rfl) (by kernel_rfl) (fun _ _ _ h => h) (Or.inl ⟨by rfl, ?_⟩) (by assumption) ?_
            rotate_left
            · intro w hSw; (try dsimp only at hSw); go_simp; try with_reducible rfl
            try simp only [Act.put, List.getElem_toArray, List.getElem_cons_zero, List.getElem_cons_succ, List.setIfInBounds_toArray, List.set_cons_zero, List.set_cons_succ]
            refine wpAnyH_take (i := 3) (v := ?_) rfl (by kernel_rfl) (by kernel_rfl) (by kernel_rfl) (fun _ _ _ h => h) (Or.inl ⟨by rfl, ?_⟩) (by assumption) ?_
            rotate_left
            · intro w hSw; (try dsimp only at hSw); go_simp; try with_reducible rfl
            try simp only [Act.put, List.getElem_toArray, List.getElem_cons_zero, List.getElem_cons_succ, List.setIfInBounds_toArray, List.set_cons_zero, List.set_cons_succ]
            refine wpAnyH_take (i := 4) (v := ?_) rfl (by kernel_rfl) (by kernel_rfl) (by kernel_rfl) (fun _ _ _ h => h) (Or.inl ⟨by rfl, ?_⟩) (by assumption) ?_
            rotate_left
            · intro w hSw; (try dsimp only at hSw); go_simp; try with_reducible rfl
            try simp only [Act.put, List.getElem_toArray, List.getElem_cons_zero, List.getElem_cons_succ, List.setIfInBounds_toArray, List.set_cons_zero, List.set_cons_succ]
            refine wpAnyH_take (i := 5) (v := ?_) rfl (by kernel_rfl) (by kernel_rfl) (by kernel_rfl) (fun _ _ _ h => h) (Or.inl ⟨by rfl, ?_⟩) (by assumption) ?_
            rotate_left
            · intro w hSw; (try dsimp only at hSw); go_simp; try with_reducible rfl
            try simp only [Act.put, List.getElem_toArray, List.getElem_cons_zero, List.getElem_cons_succ, List.setIfInBounds_toArray, List.set_cons_zero, List.set_cons_succ]
            refine wpAnyH_take (i := 6) (v := ?_) rfl (by kernel_rfl) (by kernel_rfl) (by kernel_rfl) (fun _ _ _ h => h) (Or.inl ⟨by rfl, ?_⟩) (by assumption) ?_
            rotate_left
            · intro w hSw; (try dsimp only at hSw); go_simp; try with_reducible rfl
            try simp only [Act.put, List.getElem_toArray, List.getElem_cons_zero, List.getElem_cons_succ, List.setIfInBounds_toArray, List.set_cons_zero, List.set_cons_succ]
            refine wpAnyH_take (i := 7) (v := ?_) rfl (by kernel_rfl) (by kernel_rfl) (by kernel_rfl) (fun _ _ _ h => h) (Or.inl ⟨by rfl, ?_⟩) (by assumption) ?_
            rotate_left
            · intro w hSw; (try dsimp only at hSw); go_simp; try with_reducible rfl
            try simp only [Act.put, List.getElem_toArray, List.getElem_cons_zero, List.getElem_cons_succ, List.setIfInBounds_toArray, List.set_cons_zero, List.set_cons_succ]
            refine wpAnyH_take (i := 8) (v := ?_) rfl (by kernel_rfl) (by kernel_rfl) (by kernel_rfl) (fun _ _ _ h => h) (Or.inl ⟨by rfl, ?_⟩) (by assumption) ?_
            rotate_left
            · intro w hSw; (try dsimp only at hSw); go_simp; try with_reducible rfl
            try simp only [Act.put, List.getElem_toArray, List.getElem_cons_zero, List.getElem_cons_succ, List.setIfInBounds_toArray, List.set_cons_zero, List.set_cons_succ]
            refine wpAnyH_take (i := 9) (v := ?_) rfl (by kernel_rfl) (by kernel_rfl) (by kernel_rfl) (fun _ _ _ h => h) (Or.inl ⟨by rfl, ?_⟩) (by assumption) ?_
            rotate_left
            · intro w hSw; (try dsimp only at hSw); go_simp; try with_reducible rfl
            try simp only [Act.put, List.getElem_toArray, List.getElem_cons_zero, List.getElem_cons_succ, List.setIfInBounds_toArray, List.set_cons_zero, List.set_cons_succ]
            refine wpAnyH_take (i := 10) (v := ?_) rfl (by kernel_rfl) (by kernel_rfl) (by kernel_rfl) (fun _ _ _ h => h) (Or.inl ⟨by rfl, ?_⟩) (by assumption) ?_
            rotate_left
            · intro w hSw; (try dsimp only at hSw); go_simp; try with_reducible rfl
            try simp only [Act.put, List.getElem_toArray, List.getElem_cons_zero, List.getElem_cons_succ, List.setIfInBounds_toArray, List.set_cons_zero, List.set_cons_succ]
            refine wpAnyH_take (i := 11) (v := ?_) rfl (by kernel_rfl) (by kernel_rfl) (by kernel_rfl) (fun _ _ _ h => h) (Or.inl ⟨by rfl, ?_⟩) (by assumption) ?_
            rotate_left
            · intro w hSw; (try dsimp only at hSw); go_simp; try with_reducible rfl
            try simp only [Act.put, List.getElem_toArray, List.getElem_cons_zero, List.getElem_cons_succ, List.setIfInBounds_toArray, List.set_cons_zero, List.set_cons_succ]
            refine wpAnyH_take (i := 12) (v := ?_) rfl (by kernel_rfl) (by kernel_rfl) (by kernel_rfl) (fun _ _ _ h => h) (Or.inl ⟨by rfl, ?_⟩) (by assumption) ?_
            rotate_left
            · intro w hSw; (try dsimp only at hSw); go_simp; try with_reducible rfl
            try simp only [Act.put, List.getElem_toArray, List.getElem_cons_zero, List.getElem_cons_succ, List.setIfInBounds_toArray, List.set_cons_zero, List.set_cons_succ]
            refine wpAnyH_take (i := 13) (v := ?_) rfl (by kernel_rfl) (by kernel_rfl) (by kernel_rfl) (fun _ _ _ h => h) (Or.inl ⟨by rfl, ?_⟩) (by assumption) ?_
            rotate_left
            · intro w hSw; (try dsimp only at hSw); go_simp; try with_reducible rfl
            try simp only [Act.put, List.getElem_toArray, List.getElem_cons_zero, List.getElem_cons_succ, List.setIfInBounds_toArray, List.set_cons_zero, List.set_cons_succ]
            refine wpAnyH_take (i := 14) (v := ?_) rfl (by kernel_rfl) (by kernel_rfl) (by kernel_rfl) (fun _ _ _ h => h) (Or.inl ⟨by rfl, ?_⟩) (by assumption) ?_
            rotate_left
            · intro w hSw; (try dsimp only at hSw); go_simp; try with_reducible rfl
            try simp only [Act.put, List.getElem_toArray, List.getElem_cons_zero, List.getElem_cons_succ, List.setIfInBounds_toArray, List.set_cons_zero, List.set_cons_succ]
            refine wpAnyH_take (i := 15) (v := ?_) rfl (by kernel_rfl) (by kernel_rfl) (by kernel_rfl) (fun _ _ _ h => h) (Or.inl ⟨by rfl, ?_⟩) (by assumption) ?_
            rotate_left
            · intro w hSw; (try dsimp only at hSw); go_simp; try with_reducible rfl
            try simp only [Act.put, List.getElem_toArray, List.getElem_cons_zero, List.getElem_cons_succ, List.setIfInBounds_toArray, List.set_cons_zero, List.set_cons_succ]
            refine wpAnyH_take (i := 16) (v := ?_) rfl (by kernel_rfl) (by kernel_rfl) (by kernel_rfl) (fun _ _ _ h => h) (Or.inl ⟨by rfl, ?_⟩) (by assumption) ?_
            rotate_left
            · intro w hSw; (try dsimp only at hSw); go_simp; try with_reducible rfl
            try simp only [Act.put, List.getElem_toArray, List.getElem_cons_zero, List.getElem_cons_succ, List.setIfInBounds_toArray, List.set_cons_zero, List.set_cons_succ]
            refine wpAnyH_take (i := 17) (v := ?_) rfl (by kernel_rfl) (by kernel_rfl) (by kernel_rfl) (fun _ _ _ h => h) (Or.inl ⟨by rfl, ?_⟩) (by assumption) ?_
            rotate_left
            · intro w hSw; (try dsimp only at hSw); go_simp; try with_reducible rfl
            try simp only [Act.put, List.getElem_toArray, List.getElem_cons_zero, List.getElem_cons_succ, List.setIfInBounds_toArray, List.set_cons_zero, List.set_cons_succ]
            refine wpAnyH_take (i := 18) (v := ?_) rfl (by kernel_rfl) (by kernel_rfl) (by kernel_rfl) (fun _ _ _ h => h) (Or.inl ⟨by rfl, ?_⟩) (by assumption) ?_
            rotate_left
            · intro w hSw; (try dsimp only at hSw); go_simp; try with_reducible rfl
            try simp only [Act.put, List.getElem_toArray, List.getElem_cons_zero, List.getElem_cons_succ, List.setIfInBounds_toArray, List.set_cons_zero, List.set_cons_succ]
            refine wpAnyH_take (i := 19) (v := ?_) rfl (by kernel_rfl) (by kernel_rfl) (by kernel_rfl) (fun _ _ _ h => h) (Or.inl ⟨by rfl, ?_⟩) (by assumption) ?_
            rotate_left
            · intro w hSw; (try dsimp only at hSw); go_simp; try with_reducible rfl
            try simp only [Act.put, List.getElem_toArray, List.getElem_cons_zero, List.getElem_cons_succ, List.setIfInBounds_toArray, List.set_cons_zero, List.set_cons_succ]
            refine wpAnyH_take (i := 20) (v := ?_) rfl (by kernel_rfl) (by kernel_rfl) (by kernel_rfl) (fun _ _ _ h => h) (Or.inl ⟨by rfl, ?_⟩) (by assumption) ?_
            rotate_left
            · intro w hSw; (try dsimp only at hSw); go_simp; try with_reducible rfl
            try simp only [Act.put, List.getElem_toArray, List.getElem_cons_zero, List.getElem_cons_succ, List.setIfInBounds_toArray, List.set_cons_zero, List.set_cons_succ]
            refine wpAnyH_take (i := 21) (v := ?_) rfl (by kernel_rfl) (by kernel_rfl) (by kernel_rfl) (fun _ _ _ h => h) (Or.inl ⟨by rfl, ?_⟩) (by assumption) ?_
            rotate_left
            · intro w hSw; (try dsimp only at hSw); go_simp; try with_reducible rfl
            try simp only [Act.put, List.getElem_toArray, List.getElem_cons_zero, List.getElem_cons_succ, List.setIfInBounds_toArray, List.set_cons_zero, List.set_cons_succ]
            refine wpAnyH_take (i := 22) (v := ?_) rfl (by kernel_rfl) (by kernel_rfl) (by kernel_rfl) (fun _ _ _ h => h) (Or.inl ⟨by rfl, ?_⟩) (by assumption) ?_
            rotate_left
            · intro w hSw; (try dsimp only at hSw); go_simp; try with_reducible rfl
            try simp only [Act.put, List.getElem_toArray, List.getElem_cons_zero, List.getElem_cons_succ, List.setIfInBounds_toArray, List.set_cons_zero, List.set_cons_succ]
            refine wpAnyH_take (i := 23) (v := ?_) rfl (by kernel_rfl) (by kernel_rfl) (by kernel_rfl) (fun _ _ _ h => h) (Or.inl ⟨by rfl, ?_⟩) (by assumption) ?_
            rotate_left
            · intro w hSw; (try dsimp only at hSw); go_simp; try with_reducible rfl
            try simp only [Act.put, List.getElem_toArray, List.getElem_cons_zero, List.getElem_cons_succ, List.setIfInBounds_toArray, List.set_cons_zero, List.set_cons_succ]
            refine wpAnyH_ready (rs := [24]) (by kernel_rfl) (by simp) (AllReadyH.cons rfl (fun K hK => ?_) AllReadyH.nil)
            go_simp
            refine hK.out _ _ (HK.out _ (up_alloc (Below.refl _ _).drew _)) (fun hHeld => ?_)
            clear hK K
            try simp only [Act.put, List.getElem_toArray, List.getElem_cons_zero, List.getElem_cons_succ, List.setIfInBounds_toArray, List.set_cons_zero, List.set_cons_succ]
            refine wpAnyH_ready (rs := [25]) (by kernel_rfl) (by simp) (AllReadyH.cons rfl (fun K hK => ?_) AllReadyH.nil)
            go_simp
            refine hK.out _ _ (HK.out _ (up_alloc (Below.refl _ _).drew _)) (fun hHeld => ?_)
            clear hK K
            try simp only [Act.put, List.getElem_toArray, List.getElem_cons_zero, List.getElem_cons_succ, List.setIfInBounds_toArray, List.set_cons_zero, List.set_cons_succ]
            refine wpAnyH_done (by kernel_rfl) ?_ _
            go_wp2_with fail
            go_meet
            exact ⟨rfl, Has.drew (Has.make wr 47 [.int .u64 (vl r 0 : Nat), .int .i64 (sm (vl r 1)), .int .i64 (sm (vl r 2) - 1), .int .i64 ((s[0]'hs).toNat : Nat), .int .i64 (sm (vl r 3)), .int .i64 (sm (vl r 4))]), (up_alloc (Below.refl _ _).drew _)⟩

          case rest =>
            obtain ⟨rfl, hX, hB2⟩ := hcut
            have GX := Lib.hid (hG.out.up hB2)
            have XX := Lib.hid hX
            have BX := Lib.hid (up_trans hB.out hB2)
            clear v1 v2 v3 v4 v5 v6 v7 HK hX hB2 hG hB
            have zl := text_list (st r 5).1
            by_cases hl : (st r 5).1 = []
            · have hz := text_yes (s := ⟨(st r 5).1.toArray⟩) (by rw [zl, hl]; rfl)
              have x := XX.out
              have x0 := x.at (i := 0) rfl
              have x1 := x.at (i := 1) rfl
              have x2 := x.at (i := 2) rfl
              have x3 := x.at (i := 3) rfl
              have x4 := x.at (i := 4) rfl
              have x5 := x.at (i := 5) rfl
              clear x
              cases hI : isE (sm (vl r 1)) (sm (vl r 2) - 1) ((s[0]'hs).toNat : Nat) (sm (vl r 3)) (sm (vl r 4)) with
              | false =>
                have i1 := fun w => ris_any (vl r 0) (sm (vl r 1)) (sm (vl r 2) - 1) ((s[0]'hs).toNat : Nat) (sm (vl r 3)) (sm (vl r 4)) w
                rw [hI] at i1
                have I1 := Lib.hid i1
                have hA := Lib.hid (goR_form (k := (s[0]'hs).toNat) hE.out hI)
                clear hl zl i1 hI
                generalize (⟨(st r 5).1.toArray⟩ : ByteArray) = left at *
                go_wp2_with fail
                refine (I1.out _).mono ?_; rintro e w7 ⟨rfl, b7⟩
                have G7 := GX.out.up b7
                have B7 := up_trans BX.out b7
                clear x0 x1 x2 x3 x4 x5 b7
                have g0 := G7.at (i := 0) rfl
                have g1 := G7.at (i := 1) rfl
                have g2 := G7.at (i := 2) rfl
                have g3 := G7.at (i := 3) rfl
                have g4 := G7.at (i := 4) rfl
                have g5 := G7.at (i := 5) rfl
                have f0 := G7.free 0
                have f1 := G7.free 1
                have f2 := G7.free 2
                have f3 := G7.free 3
                have f4 := G7.free 4
                have f5 := G7.free 5
                replace G7 := Lib.hid G7
                go_wp2_with fail
                have HZ := ((((((G7.out.set 0 (.int .u64 0)).set 1 (.int .i64 0)).set 2 (.int .i64 0)).set 3 (.int .i64 0)).set 4 (.int .i64 0)).set 5 (.int .i64 0))
                simp only [List.set_cons_zero, List.set_cons_succ] at HZ
                have hb := (Below.setCell (Below.setCell (Below.setCell (Below.setCell (Below.setCell (Below.setCell B7 (p := ⟨w.heap.size, 0, none⟩) (Nat.le_refl _) (.int .u64 0)) (p := ⟨w.heap.size, 1, none⟩) (Nat.le_refl _) (.int .i64 0)) (p := ⟨w.heap.size, 2, none⟩) (Nat.le_refl _) (.int .i64 0)) (p := ⟨w.heap.size, 3, none⟩) (Nat.le_refl _) (.int .i64 0)) (p := ⟨w.heap.size, 4, none⟩) (Nat.le_refl _) (.int .i64 0)) (p := ⟨w.heap.size, 5, none⟩) (Nat.le_refl _) (.int .i64 0))
                have h0 := HZ.at (i := 0) rfl
                have h1 := HZ.at (i := 1) rfl
                have h2 := HZ.at (i := 2) rfl
                have h3 := HZ.at (i := 3) rfl
                have h4 := HZ.at (i := 4) rfl
                have h5 := HZ.at (i := 5) rfl
                clear HZ
                exact bodyPost_ret (v := ans (nothing 3)) (by simp [results, Tryd.results75, go_sem, h0, h1, h2, h3, h4, h5, ans, nothing]) rfl ⟨by rw [hA.out], hb⟩
              | true =>
                have i1 := fun w => ris_any (vl r 0) (sm (vl r 1)) (sm (vl r 2) - 1) ((s[0]'hs).toNat : Nat) (sm (vl r 3)) (sm (vl r 4)) w
                rw [hI] at i1
                have I1 := Lib.hid i1
                have hA := Lib.hid (goR_fine (k := (s[0]'hs).toNat) hE.out hl hI)
                clear hl zl i1 hI
                generalize (⟨(st r 5).1.toArray⟩ : ByteArray) = left at *
                go_wp2_with fail
                refine (I1.out _).mono ?_; rintro e w7 ⟨rfl, b7⟩
                have G7 := GX.out.up b7
                have X7 := XX.out.up b7
                have B7 := up_trans BX.out b7
                clear x0 x1 x2 x3 x4 x5 b7
                have g0 := G7.at (i := 0) rfl
                have g1 := G7.at (i := 1) rfl
                have g2 := G7.at (i := 2) rfl
                have g3 := G7.at (i := 3) rfl
                have g4 := G7.at (i := 4) rfl
                have g5 := G7.at (i := 5) rfl
                have f0 := G7.free 0
                have f1 := G7.free 1
                have f2 := G7.free 2
                have f3 := G7.free 3
                have f4 := G7.free 4
                have f5 := G7.free 5
                have x0 := X7.at (i := 0) rfl
                have x1 := X7.at (i := 1) rfl
                have x2 := X7.at (i := 2) rfl
                have x3 := X7.at (i := 3) rfl
                have x4 := X7.at (i := 4) rfl
                have x5 := X7.at (i := 5) rfl
                clear X7
                replace G7 := Lib.hid G7
                go_wp2_with fail
                have HZ := ((((((G7.out.set 0 (.int .u64 (vl r 0 : Nat))).set 1 (.int .i64 (sm (vl r 1)))).set 2 (.int .i64 (sm (vl r 2) - 1))).set 3 (.int .i64 ((s[0]'hs).toNat : Nat))).set 4 (.int .i64 (sm (vl r 3)))).set 5 (.int .i64 (sm (vl r 4))))
                simp only [List.set_cons_zero, List.set_cons_succ] at HZ
                have hb := (Below.setCell (Below.setCell (Below.setCell (Below.setCell (Below.setCell (Below.setCell B7 (p := ⟨w.heap.size, 0, none⟩) (Nat.le_refl _) (.int .u64 (vl r 0 : Nat))) (p := ⟨w.heap.size, 1, none⟩) (Nat.le_refl _) (.int .i64 (sm (vl r 1)))) (p := ⟨w.heap.size, 2, none⟩) (Nat.le_refl _) (.int .i64 (sm (vl r 2) - 1))) (p := ⟨w.heap.size, 3, none⟩) (Nat.le_refl _) (.int .i64 ((s[0]'hs).toNat : Nat))) (p := ⟨w.heap.size, 4, none⟩) (Nat.le_refl _) (.int .i64 (sm (vl r 3)))) (p := ⟨w.heap.size, 5, none⟩) (Nat.le_refl _) (.int .i64 (sm (vl r 4))))
                have h0 := HZ.at (i := 0) rfl
                have h1 := HZ.at (i := 1) rfl
                have h2 := HZ.at (i := 2) rfl
                have h3 := HZ.at (i := 3) rfl
                have h4 := HZ.at (i := 4) rfl
                have h5 := HZ.at (i := 5) rfl
                clear HZ
                exact bodyPost_ret (v := ans ⟨vl r 0, sm (vl r 1), sm (vl r 2) - 1, ((s[0]'hs).toNat : Nat), sm (vl r 3), sm (vl r 4), 0⟩) (by simp [results, Tryd.results75, go_sem, h0, h1, h2, h3, h4, h5, ans]) rfl ⟨by rw [hA.out], hb⟩
            · have hp : 0 < (⟨(st r 5).1.toArray⟩ : ByteArray).size := by
                rw [zl]; exact List.length_pos_iff.2 hl
              have hz := text_no hp
              have hA := Lib.hid (goR_left (k := (s[0]'hs).toNat) hE.out hl)
              clear hl zl hp
              generalize (⟨(st r 5).1.toArray⟩ : ByteArray) = left at *
              have G7 := GX.out
              have B7 := BX.out
              have g0 := G7.at (i := 0) rfl
              have g1 := G7.at (i := 1) rfl
              have g2 := G7.at (i := 2) rfl
              have g3 := G7.at (i := 3) rfl
              have g4 := G7.at (i := 4) rfl
              have g5 := G7.at (i := 5) rfl
              have f0 := G7.free 0
              have f1 := G7.free 1
              have f2 := G7.free 2
              have f3 := G7.free 3
              have f4 := G7.free 4
              have f5 := G7.free 5
              replace G7 := Lib.hid G7
              go_wp2_with fail
              have HZ := ((((((G7.out.set 0 (.int .u64 0)).set 1 (.int .i64 0)).set 2 (.int .i64 0)).set 3 (.int .i64 0)).set 4 (.int .i64 0)).set 5 (.int .i64 0))
              simp only [List.set_cons_zero, List.set_cons_succ] at HZ
              have hb := (Below.setCell (Below.setCell (Below.setCell (Below.setCell (Below.setCell (Below.setCell B7 (p := ⟨w.heap.size, 0, none⟩) (Nat.le_refl _) (.int .u64 0)) (p := ⟨w.heap.size, 1, none⟩) (Nat.le_refl _) (.int .i64 0)) (p := ⟨w.heap.size, 2, none⟩) (Nat.le_refl _) (.int .i64 0)) (p := ⟨w.heap.size, 3, none⟩) (Nat.le_refl _) (.int .i64 0)) (p := ⟨w.heap.size, 4, none⟩) (Nat.le_refl _) (.int .i64 0)) (p := ⟨w.heap.size, 5, none⟩) (Nat.le_refl _) (.int .i64 0))
              have h0 := HZ.at (i := 0) rfl
              have h1 := HZ.at (i := 1) rfl
              have h2 := HZ.at (i := 2) rfl
              have h3 := HZ.at (i := 3) rfl
              have h4 := HZ.at (i := 4) rfl
              have h5 := HZ.at (i := 5) rfl
              clear HZ
              exact bodyPost_ret (v := ans (nothing 3)) (by simp [results, Tryd.results75, go_sem, h0, h1, h2, h3, h4, h5, ans, nothing]) rfl ⟨by rw [hA.out], hb⟩

set_option maxHeartbeats 1000000 in
set_option maxRecDepth 100000 in
theorem rget_nil (s : ByteArray) (hs : s.size = 0) (w : World) :
    Calls Tryd.prog 75 #[.string s] w fun e w' => e = .returned (ans (nothing 4)) ∧ Below w.heap.size w w' := by
  have z := text_yes hs
  go_enter Tryd.func75, Tryd.ntmps75
  go_wp2_with fail
  exact bodyPost_ret (v := ans (nothing 4)) (by simp [results, Tryd.results75, go_sem, ans, nothing]) rfl ⟨rfl, up_alloc (Below.refl _ _) _⟩

theorem rget_any (s : ByteArray) (hm : s.size ≤ 140737488355327) (w : World) :
    Calls Tryd.prog 75 #[.string s] w fun e w' => e = .returned (ans (got s.data.toList)) ∧ Below w.heap.size w w' := by
  by_cases hs : 0 < s.size
  · rw [got_cons hs]
    exact rget_more s hs hm w
  · have h0 : s.size = 0 := by omega
    have : s.data.toList = [] := by
      apply List.length_eq_zero_iff.1
      simpa using h0
    rw [this]
    exact rget_nil s h0 w

end Go.Proofs.YthhcopeejhhpgaaDoor
