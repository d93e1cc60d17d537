/- An area's Get. -/
import Derived.Test.YtihajcjfppmfjaaArD
import Derived.Test.YtihajcjfppmfjaaBuildC
namespace Go.Proofs.Ytihajcjfppmfjaa
open Go.RowKit Sec

/-- Bytes of a disk from a place of an area on. -/
def bts (D : Dk) (f o n : Nat) : List UInt8 := (D.view.drop (f * D.size + o)).take n

/-- Where a Get stands: the disk, some calls later, the builder, with what was read. -/
structure Gtd (F : Nat → Prop) (w wr : World) (a d : Nat) (D E : Dk) (f m o n g j pb bb : Nat) : Prop where
  lp : Lpd F w wr a d D E f m o n g j pb F
  up : D.Up E
  P : E.P = D.P
  bl : Bld w.heap.size bb (bts D f o (pos D.size o n j - o)) wr

theorem Gtd.view {F : Nat → Prop} {w wr : World} {a d : Nat} {D E : Dk} {f m o n g j pb bb : Nat} (h : Gtd F w wr a d D E f m o n g j pb bb) : E.view = D.view := by
  unfold Dk.view; rw [h.up.size, h.up.L, h.P]

/-- The numbers that the walk tells, and the bytes of a piece. -/
theorem got_of {D : Dk} (ok : D.Ok) {f o n : Nat} (hr : f * D.size + o + n ≤ D.many * D.size) {j : Nat} (h : pos D.size o n j < o + n) :
    pk f D.size o n j < D.many ∧ pl D.size o n j < ph D.size o n j ∧ ph D.size o n j ≤ D.size ∧ j + 1 ≤ D.many ∧
    bts D f o (pos D.size o n j - o) ++ ((Sc D.size D.view (pk f D.size o n j)).take (ph D.size o n j)).drop (pl D.size o n j) = bts D f o (pos D.size o n (j + 1) - o) := by
  obtain ⟨h1, h2, h3⟩ := get_step ok hr h
  unfold pk pl ph bts
  rw [if_pos h, if_pos h, if_pos h]
  exact ⟨h1, h2, Nat.min_le_left _ _, Nat.lt_of_le_of_lt (Nat.le_trans (Nat.le_add_left j (o / D.size)) (Nat.le_add_left _ f)) h1, h3⟩

theorem no_bld {B : Nat} {w : World} {F : Nat → Prop} (hF : ∀ k, F k → k < B) : ∀ k, BldR B w k → ¬ F k := fun k hk hf => by
  have h1 := hk.1
  have h2 := hF k hf
  omega

/-- A Read. -/
theorem Gtd.read {F : Nat → Prop} {w wr : World} {a d : Nat} {D E G : Dk} {f m o n g j pb bb : Nat} (h : Gtd F w wr a d D E f m o n g j pb bb) (hF : ∀ k, F k → k < w.heap.size) {w' : World} (hd : Dsk F w' d G) (s : Save F wr w') (hu : E.Up G) (hP : G.P = E.P) : Gtd F w w' a d D G f m o n g j pb bb :=
  ⟨⟨h.lp.arr.with hd s hu.many, h.lp.ng, h.lp.np, h.lp.sub, h.lp.og, h.lp.op, s.has h.lp.wk h.lp.ng, s.has h.lp.pc h.lp.np, h.lp.save.trans (s.mono fun _ _ hk => Or.inl hk), h.lp.few⟩,
    h.up.trans hu, hP.trans h.P, h.bl.save s (no_bld hF)⟩

theorem Gtd.drew {F : Nat → Prop} {w wr : World} {a d : Nat} {D E : Dk} {f m o n g j pb bb : Nat} (h : Gtd F w wr a d D E f m o n g j pb bb) {w' : World} (b : Below wr.heap.size wr w') : Gtd F w w' a d D E f m o n g j pb bb :=
  ⟨h.lp.drew b, h.up, h.P, h.bl.up b⟩

theorem not_bldR {B : Nat} {w : World} {k : Nat} {t : TypeId} {l : List Value} (h : Has w k t l) (h1 : t ≠ 5) (h2 : t ≠ 60) : ¬ BldR B w k := by
  rintro ⟨_, t', l', h', h3 | h3⟩
  · exact h1 ((h.same h').trans h3)
  · exact h2 ((h.same h').trans h3)

/-- Bytes written down: all but the builder is as it was. -/
theorem Lpd.wrote {F : Nat → Prop} {w wr : World} {a d : Nat} {D E : Dk} {f m o n g j pb : Nat} (h : Lpd F w wr a d D E f m o n g j pb F) (hF : ∀ k, F k → k < w.heap.size) {w' : World} (s : Save (BldR w.heap.size wr) wr w') : Lpd F w w' a d D E f m o n g j pb F :=
  ⟨h.arr.save s (fun k hk _ hr => no_bld hF k hr hk) (not_bldR h.arr.hA (by decide) (by decide)), h.ng, h.np, h.sub, h.og, h.op, s.has h.wk (not_bldR h.wk (by decide) (by decide)), s.has h.pc (not_bldR h.pc (by decide) (by decide)), h.save.trans (s.mono fun _ _ hk => Or.inr hk.1), h.few⟩

/-- What a Get leaves. -/
def GotPost (F : Nat → Prop) (w : World) (a d : Nat) (D : Dk) (f m o n : Nat) (e : Ending) (w' : World) : Prop :=
  ∃ r t E, e = .returned (.tuple #[.string ⟨List.toArray t⟩, .int .i64 (r : Nat)]) ∧ D.Got f o n E t r ∧ Arr F w' a d E f m ∧ Save F w w'

/-- Builder and walk, made; the first piece told. -/
theorem Gtd.start {F : Nat → Prop} {w w1 w2 w3 : World} {a d : Nat} {D : Dk} {f m o n g j0 : Nat} (hj0 : j0 = 0) (h : Arr F w a d D f m) (hw1 : Below w.heap.size w w1) (hb1 : Bld w.heap.size w.heap.size [] w1) (b2 : Below w1.heap.size w1 w2) (og : w1.heap.size ≤ g) (hgw : Has w2 g 70 (wkc f D.size (pos D.size o n j0) (o + n))) (hg : Has w3 g 70 (wkc f D.size (pw D.size o n j0) (o + n))) (s : Save (fun k => k = g) w2 w3) :
    Gtd F w (w3.alloc (.cells #[.int .i64 (pk f D.size o n j0 : Nat), .int .i64 (pl D.size o n j0 : Nat), .int .i64 (ph D.size o n j0 : Nat)] 55)) a d D D f m o n g j0 w3.heap.size w.heap.size := by
  subst hj0
  refine ⟨Lpd.start rfl h (up_trans hw1 b2) (Nat.le_trans hw1.size og) hgw.lt hg s, Dk.Up.refl D, rfl, ?_⟩
  rw [pos_zero, Nat.sub_self]
  have e : bts D f o 0 = [] := by unfold bts; rw [List.take_zero]
  rw [e]
  have hb2 := hb1.up b2
  refine Bld.up (hb2.save s (fun k hk e => ?_)) (up_alloc (Below.refl _ _) _)
  subst e
  exact not_bldR hgw (by decide) (by decide) hk

/-- The next round. -/
theorem Gtd.next {F : Nat → Prop} {w wr : World} {a d : Nat} {D E : Dk} {f m o n g j pb bb : Nat} (h : Lpd F w wr a d D E f m o n g j pb F) (hu : D.Up E) (hP : E.P = D.P) (hb : Bld w.heap.size bb (bts D f o (pos D.size o n (j + 1) - o)) wr) (hj : j + 1 ≤ D.many) (l : List Value) (hl : l.length = 3) {w1 : World} (hw1 : w1 = wr.alloc (.cells l.toArray 55)) {w2 : World} (hg : Has w2 g 70 (wkc f D.size (pw D.size o n (j + 1)) (o + n))) (s : Save (fun k => k = g) w1 w2) :
    Gtd F w (((w2.setCell ⟨wr.heap.size, 0, none⟩ (.int .i64 (pk f D.size o n (j + 1) : Nat))).setCell ⟨wr.heap.size, 1, none⟩ (.int .i64 (pl D.size o n (j + 1) : Nat))).setCell ⟨wr.heap.size, 2, none⟩ (.int .i64 (ph D.size o n (j + 1) : Nat))) a d D E f m o n g (j + 1) wr.heap.size bb := by
  refine ⟨h.next hj l hl hw1 hg s, hu, hP, ?_⟩
  have b1 : Below wr.heap.size wr w1 := by rw [hw1]; exact up_alloc (Below.refl _ _) _
  have p1 : Has w1 wr.heap.size 55 l := by rw [hw1]; exact Has.make wr _ _
  have g1 : Has w1 g 70 (wkc f D.size (pw D.size o n j) (o + n)) := h.wk.up b1
  have p2 := s.has p1 (fun e => by have := h.wk.lt; omega)
  have h2 := (hb.up b1).save s (fun k hk e => not_bldR g1 (by decide) (by decide) (e ▸ hk))
  have h3 := h2.save (Save.one w2 wr.heap.size 0 (.int .i64 (pk f D.size o n (j + 1) : Nat))) (fun k hk e => not_bldR p2 (by decide) (by decide) (e ▸ hk))
  have p3 := p2.set 0 (.int .i64 (pk f D.size o n (j + 1) : Nat))
  have h4 := h3.save (Save.one _ wr.heap.size 1 (.int .i64 (pl D.size o n (j + 1) : Nat))) (fun k hk e => not_bldR p3 (by decide) (by decide) (e ▸ hk))
  have p4 := p3.set 1 (.int .i64 (pl D.size o n (j + 1) : Nat))
  exact h4.save (Save.one _ wr.heap.size 2 (.int .i64 (ph D.size o n (j + 1) : Nat))) (fun k hk e => not_bldR p4 (by decide) (by decide) (e ▸ hk))

/-- What a round lessens: how far the walk has to go, and whether there is a piece. -/
def gms (g en : Nat) (v : Value) (w : World) : Nat :=
  2 * (en - (match w.cell? ⟨g, 2, none⟩ with | some (.int _ x) => x.toNat | _ => 0)) + (match v with | .bool true => 1 | _ => 0)

theorem gms_lt {g f s o n j : Nat} {w w' : World} (hs : 0 < s) (hj : pos s o n j < o + n) (h : Has w g 70 (wkc f s (pw s o n j) (o + n))) (h' : Has w' g 70 (wkc f s (pw s o n (j + 1)) (o + n))) :
    gms g (o + n) (.bool (pm s o n (j + 1))) w' < gms g (o + n) (.bool true) w := by
  have e1 : w.cell? ⟨g, 2, none⟩ = some (.int .i64 (pw s o n j : Nat)) := h.at rfl
  have e2 : w'.cell? ⟨g, 2, none⟩ = some (.int .i64 (pw s o n (j + 1) : Nat)) := h'.at rfl
  unfold gms
  rw [e1, e2]
  have h1 : pw s o n j = pos s o n (j + 1) := if_pos hj
  rw [h1]
  unfold pw pm
  by_cases h2 : pos s o n (j + 1) < o + n
  · have h3 := pos_more hs h2
    rw [if_pos h2, decide_eq_true h2]
    simp only [Int.toNat_natCast]
    omega
  · rw [if_neg h2, decide_eq_false h2]
    simp only [Int.toNat_natCast]
    omega

set_option maxHeartbeats 4000000 in
theorem get_any {F : Nat → Prop} {w : World} {a d : Nat} {D : Dk} {f m : Nat} (h : Arr F w a d D f m) (o n : Nat) (hr : o + n ≤ m * D.size) :
    Calls Try.prog 12 #[ap a, .int .i64 (o : Nat), .int .i64 (n : Nat)] w (GotPost F w a d D f m o n) := by
  obtain ⟨n1, n2, n3, n4, n5, n6, n7⟩ := h.nums
  have ok := h.dsk.ok
  have hU : aunfit (m * D.size) (o : Nat) (n : Nat) = 0 := by unfold aunfit; rw [if_neg (by omega)]
  have hrr : f * D.size + o + n ≤ D.many * D.size := by rw [Nat.add_mul] at n7; omega
  have U := aunfit_any h (o : Nat) (n : Nat) (by omega)
  rw [hU] at U
  have PI := Lib.hid (fun (W : World) (b1 : Below w.heap.size w W) => pieces_any (h.up b1) o n (by omega))
  have CU := Lib.hid U
  have HH := Lib.hid h
  have HRR := Lib.hid hrr
  have OK := Lib.hid ok
  have NX := Lib.hid (fun g j w hg => next_any g f D.size o n j (by omega) n5 n3 (by omega) w hg)
  have HN := Lib.hid (show n ≤ 4194304 by omega)
  clear h U n1 n2 n3 n4 n5 n6 n7 hrr hU ok hr
  go_enter Try.func12, Try.ntmps12
  go_wp2_with fail
  refine CU.out.mono ?_; rintro e w1 ⟨rfl, k1, rfl⟩
  go_wp2_with fail
  have b1 : Below w.heap.size w ((w.drewN k1).alloc (.cells #[.pointer none, .slice none 0 0] 60)) := up_alloc (drewN_below k1) _
  refine (PI.out _ b1).mono ?_; rintro e w2 ⟨g, rfl, og, hg, b2⟩
  have hb1 : Bld w.heap.size w.heap.size [] ((w.drewN k1).alloc (.cells #[.pointer none, .slice none 0 0] 60)) := Bld.fresh (w.drewN k1)
  have HG := Lib.hid hg
  have B1 := Lib.hid b1
  have HB1 := Lib.hid hb1
  have B2 := Lib.hid b2
  have OG := Lib.hid og
  have HF := Lib.hid HH.out.bd
  clear hg b2 og b1 hb1
  generalize hw1 : (w.drewN k1).alloc (.cells #[.pointer none, .slice none 0 0] 60) = w1 at *
  clear hw1
  generalize hbb : w.heap.size = bb at B1 HB1 ⊢
  go_wp2_with fail
  refine (NX.out g 0 w2 (by rw [pos_zero]; exact HG.out)).mono ?_; rintro e w3 ⟨rfl, hg3, s3⟩
  have L0 := Lib.hid (Gtd.start rfl HH.out (by rw [hbb]; exact B1.out) (by rw [hbb]; exact HB1.out) B2.out OG.out (by rw [pos_zero]; exact HG.out) hg3 s3)
  rw [hbb] at L0
  have HBB := Lib.hid hbb
  clear hg3 s3 hbb
  go_wp2_with fail
  generalize hw4 : World.alloc w3 _ = w4
  rw [hw4] at L0
  generalize w3.heap.size = pb0 at *
  clear hw4
  go_loopw [11, 12] (fun v11 v12 wr => ∃ j pb E, v11 = .pointer (some ⟨pb, 0, none⟩) ∧ v12 = .bool (pm D.size o n j) ∧ Hid (Gtd F w wr a d D E f m o n g j pb bb)) (fun _ v12 wr => gms g (o + n) v12 wr)
  case atStart => exact ⟨0, pb0, D, rfl, rfl, L0⟩
  case round =>
    obtain ⟨j, pb, E, rfl, rfl, HL⟩ := hrel
    clear L0
    by_cases hj : pos D.size o n j < o + n
    · have hm : pm D.size o n j = true := decide_eq_true hj
      rw [hm]
      obtain ⟨hk, hlh, hhi, hf1, happ⟩ := got_of OK.out HRR.out hj
      have c0 := HL.out.lp.arr.hA.at (i := 0) rfl
      have c1 := HL.out.lp.pc.at (i := 0) rfl
      have hs2 := OK.out.s2
      have hmany := HL.out.up.many
      have hsize := HL.out.up.size
      have hsec : E.sec (pk f D.size o n j) = Sc D.size D.view (pk f D.size o n j) := by rw [Dk.sec_view HL.out.lp.arr.dsk.ok (by rw [hmany]; exact hk), hsize, HL.out.view]
      have hxl : (Sc D.size D.view (pk f D.size o n j)).length = D.size := Sc_len (Dk.view_len OK.out) hk
      have hacc : (bts D f o (pos D.size o n j - o)).length ≤ 4194304 := by
        have h1 := (pos_le (s := D.size) (o := o) (n := n) (j := j)).2
        have h2 := HN.out
        unfold bts
        rw [List.length_take]; omega
      have hu := Dk.unfit_in (D := E) (k := pk f D.size o n j) (by rw [hmany]; exact hk)
      have RD := fun (W : World) (b1 : Below wr.heap.size wr W) => read_any (HL.out.drew b1).lp.arr.dsk (pk f D.size o n j : Nat)
      have HCS := Lib.hid HL.out.lp.pc
      have HWK := Lib.hid HL.out.lp.wk
      have HF1 := Lib.hid hf1
      have HJ := Lib.hid hj
      have HAP := Lib.hid happ
      cases hd : E.down with
      | true =>
        rw [hd, if_pos rfl] at hu
        have hre : E.read (pk f D.size o n j : Nat) = (E, [], 9) := by unfold Dk.read; rw [hu, if_neg (by decide)]
        rw [hre] at RD
        have RD := Lib.hid RD
        have HDN := Lib.hid hd
        clear hre hu hsec hxl hacc hmany hsize hs2 hk hlh hhi hf1 happ hj hm hd
        generalize pk f D.size o n j = k at *
        have HUP := Lib.hid (Dk.Up.refl E)
        go_wp2_with fail
        refine wp_region_held_drew (S := fun W => W.cell? ⟨a, 0, none⟩ = some (dp d) ∧ W.cell? ⟨pb, 0, none⟩ = some (.int .i64 (k : Nat))) (by kernel_rfl) (⟨c0, c1⟩) (fun hHeld => ?_)
        refine wpAnyH_take (i := 0) (v := ?_) rfl (by kernel_rfl) (by kernel_rfl) (by kernel_rfl) (fun _ _ _ h => h) (Or.inl ⟨by rfl, ?_⟩) (by assumption) ?_
        rotate_left
        · intro w hSw; (try dsimp only at hSw); go_simp; try with_reducible rfl
        try simp only [Act.put, List.getElem_toArray, List.getElem_cons_zero, List.setIfInBounds_toArray, List.set_cons_zero, List.set_cons_succ]
        refine wpAnyH_take (i := 1) (v := ?_) rfl (by kernel_rfl) (by kernel_rfl) (by kernel_rfl) (fun _ _ _ h => h) (Or.inl ⟨by rfl, ?_⟩) (by assumption) ?_
        rotate_left
        · intro w hSw; (try dsimp only at hSw); go_simp; try with_reducible rfl
        try simp only [Act.put, List.getElem_toArray, List.getElem_cons_zero, List.getElem_cons_succ, List.setIfInBounds_toArray, List.set_cons_zero, List.set_cons_succ]
        refine wpAnyH_take (i := 2) (v := ?_) rfl (by kernel_rfl) (by kernel_rfl) (by kernel_rfl) (fun _ _ _ h => h) (Or.inl ⟨by rfl, ?_⟩) (by assumption) ?_
        rotate_left
        · intro w hSw; (try dsimp only at hSw); go_simp; try with_reducible rfl
        try simp only [Act.put, List.getElem_toArray, List.getElem_cons_zero, List.getElem_cons_succ, List.setIfInBounds_toArray, List.set_cons_zero, List.set_cons_succ]
        refine wpAnyH_take (i := 3) (v := ?_) rfl (by kernel_rfl) (by kernel_rfl) (by kernel_rfl) (fun _ _ _ h => h) (Or.inl ⟨by rfl, ?_⟩) (by assumption) ?_
        rotate_left
        · intro w hSw; (try dsimp only at hSw); go_simp; try with_reducible rfl
        try simp only [Act.put, List.getElem_toArray, List.getElem_cons_zero, List.getElem_cons_succ, List.setIfInBounds_toArray, List.set_cons_zero, List.set_cons_succ]
        refine wpAnyH_take (i := 4) (v := ?_) rfl (by kernel_rfl) (by kernel_rfl) (by kernel_rfl) (fun _ _ _ h => h) (Or.inl ⟨by rfl, ?_⟩) (by assumption) ?_
        rotate_left
        · intro w hSw; (try dsimp only at hSw); go_simp; try with_reducible rfl
        try simp only [Act.put, List.getElem_toArray, List.getElem_cons_zero, List.getElem_cons_succ, List.setIfInBounds_toArray, List.set_cons_zero, List.set_cons_succ]
        refine wpAnyH_take (i := 5) (v := ?_) rfl (by kernel_rfl) (by kernel_rfl) (by kernel_rfl) (fun _ _ _ h => h) (Or.inl ⟨by rfl, ?_⟩) (by assumption) ?_
        rotate_left
        · intro w hSw; (try dsimp only at hSw); go_simp; try with_reducible rfl
        try simp only [Act.put, List.getElem_toArray, List.getElem_cons_zero, List.getElem_cons_succ, List.setIfInBounds_toArray, List.set_cons_zero, List.set_cons_succ]
        refine wpAnyH_ready (rs := [6]) (by kernel_rfl) (by simp) (AllReadyH.cons rfl (fun K hK => ?_) AllReadyH.nil)
        go_simp
        refine (RD.out _ (Below.refl _ _).drew).mono ?_; rintro e wn ⟨rfl, hd, s, hz⟩
        have L1 := (HL.out.drew (Below.refl wr.heap.size wr).drew)
        have HC1 := Lib.hid (s.has (HCS.out.drew) L1.lp.np)
        have HW1 := Lib.hid (s.has (HWK.out.drew) L1.lp.ng)
        have L2 := Lib.hid (L1.read HF.out hd s HUP.out rfl)
        clear hd s L1 hz
        go_wp2_with fail
        refine hK.out _ _ (⟨L2.out.lp.arr.hA.at rfl, HC1.out.at rfl⟩) (fun hHeld => ?_)
        clear hK K
        try simp only [Act.put, List.getElem_toArray, List.getElem_cons_zero, List.getElem_cons_succ, List.setIfInBounds_toArray, List.set_cons_zero, List.set_cons_succ]
        refine wpAnyH_take (i := 7) (v := ?_) rfl (by kernel_rfl) (by kernel_rfl) (by kernel_rfl) (fun _ _ _ h => h) (Or.inl ⟨by rfl, ?_⟩) (by assumption) ?_
        rotate_left
        · intro w hSw; (try dsimp only at hSw); go_simp; try with_reducible rfl
        try simp only [Act.put, List.getElem_toArray, List.getElem_cons_zero, List.getElem_cons_succ, List.setIfInBounds_toArray, List.set_cons_zero, List.set_cons_succ]
        refine wpAnyH_take (i := 8) (v := ?_) rfl (by kernel_rfl) (by kernel_rfl) (by kernel_rfl) (fun _ _ _ h => h) (Or.inl ⟨by rfl, ?_⟩) (by assumption) ?_
        rotate_left
        · intro w hSw; (try dsimp only at hSw); go_simp; try with_reducible rfl
        try simp only [Act.put, List.getElem_toArray, List.getElem_cons_zero, List.getElem_cons_succ, List.setIfInBounds_toArray, List.set_cons_zero, List.set_cons_succ]
        refine wpAnyH_take (i := 9) (v := ?_) rfl (by kernel_rfl) (by kernel_rfl) (by kernel_rfl) (fun _ _ _ h => h) (Or.inl ⟨by rfl, ?_⟩) (by assumption) ?_
        rotate_left
        · intro w hSw; (try dsimp only at hSw); go_simp; try with_reducible rfl
        try simp only [Act.put, List.getElem_toArray, List.getElem_cons_zero, List.getElem_cons_succ, List.setIfInBounds_toArray, List.set_cons_zero, List.set_cons_succ]
        refine wpAnyH_take (i := 10) (v := ?_) rfl (by kernel_rfl) (by kernel_rfl) (by kernel_rfl) (fun _ _ _ h => h) (Or.inl ⟨by rfl, ?_⟩) (by assumption) ?_
        rotate_left
        · intro w hSw; (try dsimp only at hSw); go_simp; try with_reducible rfl
        try simp only [Act.put, List.getElem_toArray, List.getElem_cons_zero, List.getElem_cons_succ, List.setIfInBounds_toArray, List.set_cons_zero, List.set_cons_succ]
        refine wpAnyH_take (i := 11) (v := ?_) rfl (by kernel_rfl) (by kernel_rfl) (by kernel_rfl) (fun _ _ _ h => h) (Or.inl ⟨by rfl, ?_⟩) (by assumption) ?_
        rotate_left
        · intro w hSw; (try dsimp only at hSw); go_simp; try with_reducible rfl
        try simp only [Act.put, List.getElem_toArray, List.getElem_cons_zero, List.getElem_cons_succ, List.setIfInBounds_toArray, List.set_cons_zero, List.set_cons_succ]
        refine wpAnyH_done (by kernel_rfl) ?_ _
        skip
        go_wp2_with fail
        go_ret2
        exact ⟨9, [], E, rfl, ⟨L2.out.up, L2.out.P, Or.inr ⟨rfl, rfl, HDN.out⟩⟩, L2.out.lp.arr, L2.out.lp.save⟩
      | false =>
        rw [hd, if_neg (by decide)] at hu
        have hre : E.read (pk f D.size o n j : Nat) = (E.counted, E.sec (pk f D.size o n j), 0) := by unfold Dk.read; rw [if_pos hu, Int.toNat_natCast]
        rw [hre, hsec] at RD
        have RD := Lib.hid RD
        have HUP := Lib.hid (Dk.Up.counted E)
        have HPP := Lib.hid E.counted_P
        clear hre hu hsec hmany hsize hk hf1 happ hj hm hd
        generalize Sc D.size D.view (pk f D.size o n j) = x at *
        have hPC := HCS.out
        generalize pk f D.size o n j = k at *
        generalize pl D.size o n j = lo at *
        generalize ph D.size o n j = hi at *
        have hts : (⟨x.toArray⟩ : ByteArray).size = D.size := by rw [text_list, hxl]
        have x1 : (⟨x.toArray⟩ : ByteArray).extract lo hi = ⟨((x.take hi).drop lo).toArray⟩ := by rw [extract_mid, List.drop_take]
        obtain ⟨y, hy⟩ : ∃ y, y = (x.take hi).drop lo := ⟨_, rfl⟩
        rw [← hy] at x1 HAP
        have hyl : y.length ≤ 1024 := by rw [hy, List.length_drop, List.length_take]; omega
        have k2 : (lo : Int) ≤ (hi : Int) := by omega
        have k3 : (hi : Int) ≤ (D.size : Int) := by omega
        have HYL := Lib.hid hyl
        have HAC := Lib.hid hacc
        clear hy hyl hacc hxl hPC hs2
        go_wp2_with fail
        refine wp_region_held_drew (S := fun W => W.cell? ⟨a, 0, none⟩ = some (dp d) ∧ W.cell? ⟨pb, 0, none⟩ = some (.int .i64 (k : Nat))) (by kernel_rfl) (⟨c0, c1⟩) (fun hHeld => ?_)
        refine wpAnyH_take (i := 0) (v := ?_) rfl (by kernel_rfl) (by kernel_rfl) (by kernel_rfl) (fun _ _ _ h => h) (Or.inl ⟨by rfl, ?_⟩) (by assumption) ?_
        rotate_left
        · intro w hSw; (try dsimp only at hSw); go_simp; try with_reducible rfl
        try simp only [Act.put, List.getElem_toArray, List.getElem_cons_zero, List.setIfInBounds_toArray, List.set_cons_zero, List.set_cons_succ]
        refine wpAnyH_take (i := 1) (v := ?_) rfl (by kernel_rfl) (by kernel_rfl) (by kernel_rfl) (fun _ _ _ h => h) (Or.inl ⟨by rfl, ?_⟩) (by assumption) ?_
        rotate_left
        · intro w hSw; (try dsimp only at hSw); go_simp; try with_reducible rfl
        try simp only [Act.put, List.getElem_toArray, List.getElem_cons_zero, List.getElem_cons_succ, List.setIfInBounds_toArray, List.set_cons_zero, List.set_cons_succ]
        refine wpAnyH_take (i := 2) (v := ?_) rfl (by kernel_rfl) (by kernel_rfl) (by kernel_rfl) (fun _ _ _ h => h) (Or.inl ⟨by rfl, ?_⟩) (by assumption) ?_
        rotate_left
        · intro w hSw; (try dsimp only at hSw); go_simp; try with_reducible rfl
        try simp only [Act.put, List.getElem_toArray, List.getElem_cons_zero, List.getElem_cons_succ, List.setIfInBounds_toArray, List.set_cons_zero, List.set_cons_succ]
        refine wpAnyH_take (i := 3) (v := ?_) rfl (by kernel_rfl) (by kernel_rfl) (by kernel_rfl) (fun _ _ _ h => h) (Or.inl ⟨by rfl, ?_⟩) (by assumption) ?_
        rotate_left
        · intro w hSw; (try dsimp only at hSw); go_simp; try with_reducible rfl
        try simp only [Act.put, List.getElem_toArray, List.getElem_cons_zero, List.getElem_cons_succ, List.setIfInBounds_toArray, List.set_cons_zero, List.set_cons_succ]
        refine wpAnyH_take (i := 4) (v := ?_) rfl (by kernel_rfl) (by kernel_rfl) (by kernel_rfl) (fun _ _ _ h => h) (Or.inl ⟨by rfl, ?_⟩) (by assumption) ?_
        rotate_left
        · intro w hSw; (try dsimp only at hSw); go_simp; try with_reducible rfl
        try simp only [Act.put, List.getElem_toArray, List.getElem_cons_zero, List.getElem_cons_succ, List.setIfInBounds_toArray, List.set_cons_zero, List.set_cons_succ]
        refine wpAnyH_take (i := 5) (v := ?_) rfl (by kernel_rfl) (by kernel_rfl) (by kernel_rfl) (fun _ _ _ h => h) (Or.inl ⟨by rfl, ?_⟩) (by assumption) ?_
        rotate_left
        · intro w hSw; (try dsimp only at hSw); go_simp; try with_reducible rfl
        try simp only [Act.put, List.getElem_toArray, List.getElem_cons_zero, List.getElem_cons_succ, List.setIfInBounds_toArray, List.set_cons_zero, List.set_cons_succ]
        refine wpAnyH_ready (rs := [6]) (by kernel_rfl) (by simp) (AllReadyH.cons rfl (fun K hK => ?_) AllReadyH.nil)
        go_simp
        refine (RD.out _ (Below.refl _ _).drew).mono ?_; rintro e wn ⟨rfl, hd, s, hz⟩
        have L1 := (HL.out.drew (Below.refl wr.heap.size wr).drew)
        have HC1 := Lib.hid (s.has (HCS.out.drew) L1.lp.np)
        have HW1 := Lib.hid (s.has (HWK.out.drew) L1.lp.ng)
        have L2 := Lib.hid (L1.read HF.out hd s HUP.out HPP.out)
        clear hd s L1 hz
        go_wp2_with fail
        refine hK.out _ _ (⟨L2.out.lp.arr.hA.at rfl, HC1.out.at rfl⟩) (fun hHeld => ?_)
        clear hK K
        try simp only [Act.put, List.getElem_toArray, List.getElem_cons_zero, List.getElem_cons_succ, List.setIfInBounds_toArray, List.set_cons_zero, List.set_cons_succ]
        refine wpAnyH_take (i := 7) (v := ?_) rfl (by kernel_rfl) (by kernel_rfl) (by kernel_rfl) (fun _ _ _ h => h) (Or.inl ⟨by rfl, ?_⟩) (by assumption) ?_
        rotate_left
        · intro w hSw; (try dsimp only at hSw); go_simp; try with_reducible rfl
        try simp only [Act.put, List.getElem_toArray, List.getElem_cons_zero, List.getElem_cons_succ, List.setIfInBounds_toArray, List.set_cons_zero, List.set_cons_succ]
        refine wpAnyH_take (i := 8) (v := ?_) rfl (by kernel_rfl) (by kernel_rfl) (by kernel_rfl) (fun _ _ _ h => h) (Or.inl ⟨by rfl, ?_⟩) (by assumption) ?_
        rotate_left
        · intro w hSw; (try dsimp only at hSw); go_simp; try with_reducible rfl
        try simp only [Act.put, List.getElem_toArray, List.getElem_cons_zero, List.getElem_cons_succ, List.setIfInBounds_toArray, List.set_cons_zero, List.set_cons_succ]
        refine wpAnyH_take (i := 9) (v := ?_) rfl (by kernel_rfl) (by kernel_rfl) (by kernel_rfl) (fun _ _ _ h => h) (Or.inl ⟨by rfl, ?_⟩) (by assumption) ?_
        rotate_left
        · intro w hSw; (try dsimp only at hSw); go_simp; try with_reducible rfl
        try simp only [Act.put, List.getElem_toArray, List.getElem_cons_zero, List.getElem_cons_succ, List.setIfInBounds_toArray, List.set_cons_zero, List.set_cons_succ]
        refine wpAnyH_take (i := 10) (v := ?_) rfl (by kernel_rfl) (by kernel_rfl) (by kernel_rfl) (fun _ _ _ h => h) (Or.inl ⟨by rfl, ?_⟩) (by assumption) ?_
        rotate_left
        · intro w hSw; (try dsimp only at hSw); go_simp; try with_reducible rfl
        try simp only [Act.put, List.getElem_toArray, List.getElem_cons_zero, List.getElem_cons_succ, List.setIfInBounds_toArray, List.set_cons_zero, List.set_cons_succ]
        refine wpAnyH_take (i := 11) (v := ?_) rfl (by kernel_rfl) (by kernel_rfl) (by kernel_rfl) (fun _ _ _ h => h) (Or.inl ⟨by rfl, ?_⟩) (by assumption) ?_
        rotate_left
        · intro w hSw; (try dsimp only at hSw); go_simp; try with_reducible rfl
        try simp only [Act.put, List.getElem_toArray, List.getElem_cons_zero, List.getElem_cons_succ, List.setIfInBounds_toArray, List.set_cons_zero, List.set_cons_succ]
        refine wpAnyH_done (by kernel_rfl) ?_ _
        skip
        clear c0 c1 hHeld
        have c0 := HC1.out.at (i := 0) rfl
        have c1 := HC1.out.at (i := 1) rfl
        have c2 := HC1.out.at (i := 2) rfl
        go_wp2_with fail
        refine (bwrite_save w.heap.size bb _ ⟨y.toArray⟩ wn L2.out.bl (by rw [text_list]; have := HAC.out; have := HYL.out; omega) L2.out.lp.save.size).mono ?_; rintro e w5 ⟨rfl, hb5, s5⟩
        rw [show (⟨y.toArray⟩ : ByteArray).data.toList = y from rfl, HAP.out] at hb5
        have L3 := Lib.hid (L2.out.lp.wrote HF.out s5)
        have HU3 := Lib.hid L2.out.up
        have HP3 := Lib.hid L2.out.P
        have HB5 := Lib.hid hb5
        have HC3 := Lib.hid (s5.has HC1.out (not_bldR HC1.out (by decide) (by decide)))
        have hw3 := s5.has HW1.out (not_bldR HW1.out (by decide) (by decide))
        rw [show pw D.size o n j = pos D.size o n (j + 1) from if_pos HJ.out] at hw3
        have HW3 := Lib.hid hw3
        clear c0 c1 c2 hb5 s5 hw3
        have c0 := HC3.out.at (i := 0) rfl
        have c1 := HC3.out.at (i := 1) rfl
        have c2 := HC3.out.at (i := 2) rfl
        go_wp2_with fail
        refine (NX.out g (j + 1) _ (HW3.out.alloc _)).mono ?_; rintro e w6 ⟨rfl, hg6, s6⟩
        have hne : ¬ w5.heap.size = g := by have := HW3.out.lt; omega
        have N6 := s6.has (Has.make w5 55 [.int .i64 (k : Nat), .int .i64 (lo : Nat), .int .i64 (hi : Nat)]) hne
        have d0 := N6.at (i := 0) rfl
        have d1 := N6.at (i := 1) rfl
        have d2 := N6.at (i := 2) rfl
        have f0 := N6.free 0
        have f1 := N6.free 1
        have f2 := N6.free 2
        have LN := Lib.hid (Gtd.next L3.out HU3.out HP3.out HB5.out HF1.out _ rfl rfl hg6 s6)
        clear hg6 s6 hne N6 c0 c1 c2
        generalize w5.heap.size = pb' at *
        go_wp2_with fail
        go_roundw
        case rel => exact ⟨j + 1, pb', _, rfl, rfl, LN⟩
        case measure => exact gms_lt (by have := OK.out.s1; omega) HJ.out HWK.out LN.out.lp.wk
    · have hm : pm D.size o n j = false := decide_eq_false hj
      rw [hm]
      clear hm
      have HJ := Lib.hid hj
      clear hj
      go_wp2_with fail
      refine (bstring_any w.heap.size bb _ wr HL.out.bl HL.out.lp.save.size).mono ?_; rintro e w5 ⟨rfl, b5⟩
      have HB5 := Lib.hid b5
      clear b5
      go_wp2_with fail
      go_ret2
      refine ⟨0, bts D f o (pos D.size o n j - o), E, rfl, ⟨HL.out.up, HL.out.P, Or.inl ⟨rfl, ?_⟩⟩, HL.out.lp.arr.save (Save.of_below HB5.out) (fun k hk _ hB => by have := HF.out k hk; omega) ?_, HL.out.lp.save.trans ((Save.of_below HB5.out).mono fun k _ hk => Or.inr hk)⟩
      · rw [pos_end HJ.out, Nat.add_sub_cancel_left]; rfl
      · intro hB
        have := HH.out.lt
        omega

end Go.Proofs.Ytihajcjfppmfjaa
