/- An area's Put. -/
import Derived.Test.YtihajcjfppmfjaaArC
namespace Go.Proofs.Ytihajcjfppmfjaa
open Go.RowKit Sec

/-- The piece that a walk tells next, its numbers; zeros, if there is none. -/
def pk (f s o n j : Nat) : Nat := if pos s o n j < o + n then f + (o / s + j) else 0
def pl (s o n j : Nat) : Nat := if pos s o n j < o + n then pos s o n j % s else 0
def ph (s o n j : Nat) : Nat := if pos s o n j < o + n then min s (pos s o n j % s + (o + n) - pos s o n j) else 0
def pm (s o n j : Nat) : Bool := decide (pos s o n j < o + n)
/-- .. and where it stands then. -/
def pw (s o n j : Nat) : Nat := if pos s o n j < o + n then pos s o n (j + 1) else pos s o n j

theorem next_any (g f s o n j : Nat) (hs : 0 < s) (hs2 : s ≤ 1024) (hf : f ≤ 4096) (he : o + n ≤ 4194304) (w : World) (hg : Has w g 70 (wkc f s (pos s o n j) (o + n))) :
    Calls Try.prog 30 #[.pointer (some ⟨g, 0, none⟩)] w fun e w' =>
      e = .returned (.tuple #[.agg #[.int .i64 (pk f s o n j : Nat), .int .i64 (pl s o n j : Nat), .int .i64 (ph s o n j : Nat)], .bool (pm s o n j)]) ∧ Has w' g 70 (wkc f s (pw s o n j) (o + n)) ∧ Save (fun k => k = g) w w' := by
  unfold pk pl ph pm pw
  by_cases h : pos s o n j < o + n
  · rw [if_pos h, if_pos h, if_pos h, if_pos h, decide_eq_true h]
    exact next_piece g f s o n j hs hs2 hf he h w hg
  · rw [if_neg h, if_neg h, if_neg h, if_neg h, decide_eq_false h]
    refine (next_end g f s _ (o + n) (by omega) w hg).mono ?_
    rintro e w' ⟨rfl, b⟩
    exact ⟨rfl, hg.up b, Save.up b⟩

/-- Blocks, widened to all that are new. -/
theorem Arr.ext {F F' : Nat → Prop} {w w' : World} {a d : Nat} {E : Dk} {f m : Nat} (h : Arr F' w' a d E f m) (hs : ∀ k, F' k → Grow F w k) (ha : ¬ Grow F w a) : Arr (Ext F w w') w' a d E f m :=
  ⟨(h.dsk.mono hs).narrow, h.hA, fun hg => ha hg.1, fun _ hk => hk.2, h.one, h.fit⟩

/-- Where a loop over the pieces stands: area and walk. -/
structure Lpd (F : Nat → Prop) (w wr : World) (a d : Nat) (D E : Dk) (f m o n g j pb : Nat) (F' : Nat → Prop) : Prop where
  arr : Arr F' wr a d E f m
  ng : ¬ F' g
  np : ¬ F' pb
  sub : ∀ k, F' k → Grow F w k
  og : w.heap.size ≤ g
  op : w.heap.size ≤ pb
  wk : Has wr g 70 (wkc f D.size (pw D.size o n j) (o + n))
  pc : Has wr pb 55 [.int .i64 (pk f D.size o n j : Nat), .int .i64 (pl D.size o n j : Nat), .int .i64 (ph D.size o n j : Nat)]
  save : Save F w wr
  few : j ≤ D.many

theorem pos_end {s o n j : Nat} (h : ¬ pos s o n j < o + n) : pos s o n j = o + n := by
  have := (pos_le (s := s) (o := o) (n := n) (j := j)).2
  omega

theorem Lpd.drew {F F' : Nat → Prop} {w wr : World} {a d : Nat} {D E : Dk} {f m o n g j pb : Nat} (h : Lpd F w wr a d D E f m o n g j pb F') {w' : World} (b : Below wr.heap.size wr w') : Lpd F w w' a d D E f m o n g j pb F' :=
  ⟨h.arr.up b, h.ng, h.np, h.sub, h.og, h.op, h.wk.up b, h.pc.up b, h.save.on b, h.few⟩

/-- .. with what a call leaves of the disk. -/
theorem Lpd.with {F F' : Nat → Prop} {w wr : World} {a d : Nat} {D E G : Dk} {f m o n g j pb : Nat} (h : Lpd F w wr a d D E f m o n g j pb F') {w' : World} (ha : Arr (Ext F' wr w') w' a d G f m) (s : Save F' wr w') : Lpd F w w' a d D G f m o n g j pb (Ext F' wr w') := by
  have hz := h.save.size
  refine ⟨ha, ?_, ?_, ?_, h.og, h.op, s.has h.wk h.ng, s.has h.pc h.np, h.save.trans (s.mono fun k _ hk => h.sub k hk), h.few⟩
  · intro hg
    rcases hg.1 with hg | hg
    · exact h.ng hg
    · have := h.wk.lt; omega
  · intro hg
    rcases hg.1 with hg | hg
    · exact h.np hg
    · have := h.pc.lt; omega
  · intro k hk
    rcases hk.1 with hk | hk
    · exact h.sub k hk
    · exact Or.inr (Nat.le_trans hz hk)

/-- The next round: a block for the piece, the walk's call, its piece stored. -/
theorem Lpd.next {F F' : Nat → Prop} {w wr : World} {a d : Nat} {D E : Dk} {f m o n g j pb : Nat} (h : Lpd F w wr a d D E f m o n g j pb F') (hj : j + 1 ≤ D.many) (l : List Value) (hl : l.length = 3) {w1 : World} (hw1 : w1 = wr.alloc (.cells l.toArray 55)) {w2 : World} (hg : Has w2 g 70 (wkc f D.size (pw D.size o n (j + 1)) (o + n))) (s : Save (fun k => k = g) w1 w2) :
    Lpd F w (((w2.setCell ⟨wr.heap.size, 0, none⟩ (.int .i64 (pk f D.size o n (j + 1) : Nat))).setCell ⟨wr.heap.size, 1, none⟩ (.int .i64 (pl D.size o n (j + 1) : Nat))).setCell ⟨wr.heap.size, 2, none⟩ (.int .i64 (ph D.size o n (j + 1) : Nat))) a d D E f m o n g (j + 1) wr.heap.size F' := by
  have hz := h.save.size
  have hgl := h.wk.lt
  have b1 : Below wr.heap.size wr w1 := by rw [hw1]; exact up_alloc (Below.refl _ _) _
  have h1 := h.drew b1
  have p1 : Has w1 wr.heap.size 55 l := by rw [hw1]; exact Has.make wr _ _
  have p2 := s.has p1 (fun e => by omega)
  have a2 : Arr F' w2 a d E f m := h1.arr.save s (fun k hk _ e => h.ng (e ▸ hk)) (fun e => absurd (h1.arr.hA.same (e ▸ h1.wk)) (by decide))
  have s2 : Save F w w2 := h1.save.trans (s.mono fun k _ hk => Or.inr (by have := h.og; omega))
  have nb : ∀ k, F' k → k ≠ wr.heap.size := fun k hk e => by have := h.arr.bd k hk; omega
  obtain ⟨x0, x1, x2, rfl⟩ : ∃ x0 x1 x2, l = [x0, x1, x2] := by
    match l, hl with
    | [x0, x1, x2], _ => exact ⟨x0, x1, x2, rfl⟩
  have e0 := Save.one w2 wr.heap.size 0 (.int .i64 (pk f D.size o n (j + 1) : Nat))
  have a3 := a2.save e0 (fun k hk _ e => nb k hk e) (fun e => by have := h.arr.lt; omega)
  have g3 := e0.has hg (fun e => by omega)
  have e1 := Save.one (w2.setCell ⟨wr.heap.size, 0, none⟩ (.int .i64 (pk f D.size o n (j + 1) : Nat))) wr.heap.size 1 (.int .i64 (pl D.size o n (j + 1) : Nat))
  have a4 := a3.save e1 (fun k hk _ e => nb k hk e) (fun e => by have := h.arr.lt; omega)
  have g4 := e1.has g3 (fun e => by omega)
  have e2 := Save.one ((w2.setCell ⟨wr.heap.size, 0, none⟩ (.int .i64 (pk f D.size o n (j + 1) : Nat))).setCell ⟨wr.heap.size, 1, none⟩ (.int .i64 (pl D.size o n (j + 1) : Nat))) wr.heap.size 2 (.int .i64 (ph D.size o n (j + 1) : Nat))
  have a5 := a4.save e2 (fun k hk _ e => nb k hk e) (fun e => by have := h.arr.lt; omega)
  have g5 := e2.has g4 (fun e => by omega)
  exact ⟨a5, h.ng, fun hk => nb _ hk rfl, h.sub, h.og, hz, g5, ((p2.set 0 _).set 1 _).set 2 _,
    ((s2.setCell (p := ⟨wr.heap.size, 0, none⟩) (Or.inr hz) _).setCell (p := ⟨wr.heap.size, 1, none⟩) (Or.inr hz) _).setCell (p := ⟨wr.heap.size, 2, none⟩) (Or.inr hz) _, hj⟩

theorem Lpd.start {F : Nat → Prop} {w w2 w3 : World} {a d : Nat} {D : Dk} {f m o n g j0 : Nat} (hj0 : j0 = 0) (h : Arr F w a d D f m) (b2 : Below w.heap.size w w2) (og : w.heap.size ≤ g) (hg2 : g < w2.heap.size) (hg : Has w3 g 70 (wkc f D.size (pw D.size o n j0) (o + n))) (s : Save (fun k => k = g) w2 w3) :
    Lpd F w (w3.alloc (.cells #[.int .i64 (pk f D.size o n j0 : Nat), .int .i64 (pl D.size o n j0 : Nat), .int .i64 (ph D.size o n j0 : Nat)] 55)) a d D D f m o n g j0 w3.heap.size F := by
  have h2 := h.up b2
  have ng : ¬ F g := fun hk => by have := h.bd _ hk; omega
  have h3 : Arr F w3 a d D f m := h2.save s (fun k hk _ e => ng (e ▸ hk)) (fun e => by have := h.lt; omega)
  have z2 := b2.size
  have z3 := s.size
  have b3 : Below w3.heap.size w3 (w3.alloc (.cells #[.int .i64 (pk f D.size o n j0 : Nat), .int .i64 (pl D.size o n j0 : Nat), .int .i64 (ph D.size o n j0 : Nat)] 55)) := up_alloc (Below.refl _ _) _
  exact ⟨h3.up b3, ng, fun hk => by have := h.bd _ hk; omega, fun _ hk => Or.inl hk, og, by omega, hg.up b3, Has.make w3 _ _, ((Save.up (F := F) b2).trans (s.mono fun k _ hk => Or.inr (by omega))).on b3, by omega⟩

/-- The step of one piece, by the numbers that the walk tells. -/
theorem stp_of {D : Dk} (ok : D.Ok) {f o n : Nat} {b : List UInt8} (hn : n = b.length) (hr : f * D.size + o + b.length ≤ D.many * D.size) {j : Nat} (h : pos D.size o n j < o + n) :
    ∃ C, Stp D f o b j (pk f D.size o n j) (pl D.size o n j) (ph D.size o n j) ((b.drop (pos D.size o n j - o)).take (ph D.size o n j - pl D.size o n j)) C ∧ pk f D.size o n j = f + (o / D.size + j) := by
  subst hn
  unfold pk pl ph
  rw [if_pos h, if_pos h, if_pos h]
  exact ⟨_, Dk.step ok hr h, rfl⟩

def txl : Value → Nat
  | .string s => s.size
  | _ => 0

/-- What a Put leaves. -/
def PutPost (F : Nat → Prop) (w : World) (a d : Nat) (D : Dk) (f m o : Nat) (b : List UInt8) (e : Ending) (w' : World) : Prop :=
  ∃ r E, e = .returned (.int .i64 (r : Nat)) ∧ (∃ j, D.Put f o b j E r) ∧ Arr (Ext F w w') w' a d E f m ∧ Save F w w'

theorem PutPost.of {F F' : Nat → Prop} {w w' : World} {a d : Nat} {D E : Dk} {f m o g j j' pb r : Nat} {b : List UInt8} (hA : ¬ Grow F w a) (h : Lpd F w w' a d D E f m o b.length g j' pb F') (hp : D.Put f o b j E r) : PutPost F w a d D f m o b (.returned (.int .i64 (r : Nat))) w' :=
  ⟨r, E, rfl, ⟨j, hp⟩, h.arr.ext h.sub hA, h.save⟩

set_option maxHeartbeats 4000000 in
theorem put_any {F : Nat → Prop} {w : World} {a d : Nat} {D : Dk} {f m : Nat} (h : Arr F w a d D f m) (hP : D.P.length ≤ 90000) (o : Nat) (b : List UInt8) (hr : o + b.length ≤ m * D.size) :
    Calls Try.prog 9 #[ap a, .int .i64 (o : Nat), .string ⟨b.toArray⟩] w (PutPost F w a d D f m o b) := by
  obtain ⟨n1, n2, n3, n4, n5, n6, n7⟩ := h.nums
  have ok := h.dsk.ok
  have hnA : ¬ Grow F w a := fun hg => by rcases hg with hg | hg; exact h.out hg; have := h.lt; omega
  have hU : aunfit (m * D.size) (o : Nat) (b.length : Nat) = 0 := by unfold aunfit; rw [if_neg (by omega)]
  have hrr : f * D.size + o + b.length ≤ D.many * D.size := by rw [Nat.add_mul] at n7; omega
  have hsz : (⟨b.toArray⟩ : ByteArray).size = b.length := text_list b
  have U := aunfit_any h (o : Nat) (b.length : Nat) (by omega)
  rw [hU] at U
  have PI := Lib.hid (fun k => pieces_any (h.up (drewN_below k)) o b.length (by omega))
  have CU := Lib.hid U
  have HH := Lib.hid h
  have HNA := Lib.hid hnA
  have HRR := Lib.hid hrr
  have OK := Lib.hid ok
  have NX := Lib.hid (fun g j w hg => next_any g f D.size o b.length j (by omega) n5 n3 (by omega) w hg)
  have HP := Lib.hid hP
  have HN := Lib.hid (show b.length ≤ 4194304 by omega)
  obtain ⟨n, hn⟩ : ∃ n, n = b.length := ⟨_, rfl⟩
  rw [← hn] at hsz CU PI NX HN
  have HB := Lib.hid hn
  clear h U n1 n2 n3 n4 n5 n6 n7 hrr hnA hU hP ok hn hr
  go_enter Try.func9, Try.ntmps9
  go_wp2_with fail
  refine CU.out.mono ?_; rintro e w1 ⟨rfl, k1, rfl⟩
  go_wp2_with fail
  refine (PI.out k1).mono ?_; rintro e w2 ⟨g, rfl, og, hg, b2⟩
  have HG := Lib.hid hg
  have B2 := Lib.hid b2
  have OG := Lib.hid og
  clear hg b2 og
  go_wp2_with fail
  have zg := HG.out.lt
  refine (NX.out g 0 w2 (by rw [pos_zero]; exact HG.out)).mono ?_; rintro e w3 ⟨rfl, hg3, s3⟩
  have L0 := Lib.hid (Lpd.start rfl HH.out ((drewN_below k1).trans B2.out) OG.out zg hg3 s3)
  clear hg3 s3 zg
  go_wp2_with fail
  generalize hw4 : World.alloc w3 _ = w4
  rw [hw4] at L0
  generalize w3.heap.size = pb0 at *
  clear hw4
  go_loopw [2, 9, 10] (fun v2 v9 v10 wr => ∃ j pb E F', v2 = .string ⟨(b.drop (pos D.size o n j - o)).toArray⟩ ∧ v9 = .pointer (some ⟨pb, 0, none⟩) ∧ v10 = .bool (pm D.size o n j) ∧ Hid (Lpd F w wr a d D E f m o n g j pb F' ∧ D.Putting f o b j E)) (fun v2 _ _ _ => txl v2)
  case atStart => exact ⟨0, pb0, D, F, by rw [pos_zero, Nat.sub_self, List.drop_zero], rfl, rfl, Lib.hid ⟨L0.out, Dk.Putting.start⟩⟩
  case round =>
    obtain ⟨j, pb, E, F', rfl, rfl, rfl, HL⟩ := hrel
    clear L0
    by_cases hj : pos D.size o n j < o + n
    · have hm : pm D.size o n j = true := decide_eq_true hj
      rw [hm]
      obtain ⟨C, st, hk⟩ := stp_of OK.out HB.out HRR.out hj
      have sv : (b.drop (pos D.size o n j - o)).drop (ph D.size o n j - pl D.size o n j) = b.drop (pos D.size o n (j + 1) - o) := by have := st.seven; rwa [← HB.out] at this
      have cs := HL.out.1.pc
      have hmy := st.sec
      have hPl : E.P.length < 100000 := by
        have h1 := HL.out.2.P
        have h2 := HL.out.1.few
        have h3 := OK.out.m2
        have h4 := HP.out
        rw [h1, List.length_append, Dk.puts_len]
        omega
      have PS := Dk.piece_is HL.out.1.arr.dsk.ok HL.out.2 hk st
      have hlo := st.lt
      have hhi := st.high
      have hlen := st.len
      have hs2 := OK.out.s2
      have hmany := HL.out.2.up.many
      have hsize := HL.out.2.up.size
      have hmr := pos_more (s := D.size) (o := o) (n := n) (j := j) (by omega) hj
      have hf1 : j + 1 ≤ D.many := by rw [hk] at hmy; exact Nat.lt_of_le_of_lt (Nat.le_trans (Nat.le_add_left j (o / D.size)) (Nat.le_add_left _ f)) hmy
      have hwk := HL.out.1.wk
      rw [show pw D.size o n j = pos D.size o n (j + 1) from if_pos hj] at hwk
      generalize pk f D.size o n j = k at *
      generalize pl D.size o n j = lo at *
      generalize ph D.size o n j = hi at *
      have HTM := Lib.hid (show (b.drop (pos D.size o n (j + 1) - o)).length < (b.drop (pos D.size o n j - o)).length by
        have h1 := (pos_le (s := D.size) (o := o) (n := n) (j := j)).1
        have h2 := HB.out
        rw [List.length_drop, List.length_drop]; omega)
      have HSV := Lib.hid sv
      generalize b.drop (pos D.size o n j - o) = T at *
      obtain ⟨z, hz⟩ : ∃ z, z = hi - lo := ⟨_, rfl⟩
      rw [← hz] at st sv PS hlen HSV
      have hzt : z ≤ T.length := by rw [List.length_take] at hlen; omega
      have LY := Lib.hid (fun (W : World) (b1 : Below wr.heap.size wr W) => lay_any (HL.out.1.drew b1).arr hPl k lo hi (T.take z) (by omega) (by omega) (by omega))
      have hts : (⟨T.toArray⟩ : ByteArray).size = T.length := text_list T
      have x1 : (⟨T.toArray⟩ : ByteArray).extract 0 z = ⟨(T.take z).toArray⟩ := by rw [extract_mid]; simp
      have x2 : (⟨T.toArray⟩ : ByteArray).extract z T.length = ⟨(T.drop z).toArray⟩ := by rw [extract_mid, show (⟨T.toArray⟩ : ByteArray).data.toList = T from rfl, List.take_of_length_le (by rw [List.length_drop]; exact Nat.le_refl _)]
      rw [sv] at x2
      have u1 : wrap64 ((hi : Int) - (lo : Int)) = (z : Int) := by rw [IntWalk.wrap64_in _ ⟨by omega, by omega⟩]; omega
      obtain ⟨tl, htl⟩ : ∃ tl, tl = T.length := ⟨_, rfl⟩
      rw [← htl] at hts x2 hzt
      have kz : (z : Int) ≤ (tl : Int) := by omega
      have HTL := Lib.hid htl
      have HWK := Lib.hid hwk
      have HF1 := Lib.hid hf1
      have HCS := Lib.hid cs
      have c0 := cs.at (i := 0) rfl
      have c1 := cs.at (i := 1) rfl
      have c2 := cs.at (i := 2) rfl
      have HJ := Lib.hid hj
      clear st hk sv hmy hPl hlo hhi hlen hs2 hmany hsize hmr hf1 hwk hz htl cs hj hm
      rcases PS with ⟨e0, hp'⟩ | ⟨e9, hp', hdn⟩
      · rw [e0] at LY
        have HP' := Lib.hid hp'
        clear e0 hp'
        generalize (E.piece k lo (T.take z)).1 = G at *
        go_wp2_with fail
        refine wp_region_held_drew (S := fun W => W.cell? ⟨pb, 0, none⟩ = some (.int .i64 (k : Nat)) ∧ W.cell? ⟨pb, 1, none⟩ = some (.int .i64 (lo : Nat)) ∧ W.cell? ⟨pb, 2, none⟩ = some (.int .i64 (hi : Nat))) (by kernel_rfl) (⟨c0, c1, c2⟩) (fun hHeld => ?_)
        refine wpAnyH_take (i := 0) (v := ?_) rfl (by kernel_rfl) (by kernel_rfl) (by kernel_rfl) (fun _ _ _ h => h) (Or.inl ⟨by rfl, ?_⟩) (by assumption) ?_
        rotate_left
        · intro w hSw; (try dsimp only at hSw); go_simp; try with_reducible rfl
        try simp only [Act.put, List.getElem_toArray, List.getElem_cons_zero, List.setIfInBounds_toArray, List.set_cons_zero, List.set_cons_succ]
        refine wpAnyH_take (i := 1) (v := ?_) rfl (by kernel_rfl) (by kernel_rfl) (by kernel_rfl) (fun _ _ _ h => h) (Or.inl ⟨by rfl, ?_⟩) (by assumption) ?_
        rotate_left
        · intro w hSw; (try dsimp only at hSw); go_simp; try with_reducible rfl
        try simp only [Act.put, List.getElem_toArray, List.getElem_cons_zero, List.getElem_cons_succ, List.setIfInBounds_toArray, List.set_cons_zero, List.set_cons_succ]
        refine wpAnyH_take (i := 2) (v := ?_) rfl (by kernel_rfl) (by kernel_rfl) (by kernel_rfl) (fun _ _ _ h => h) (Or.inl ⟨by rfl, ?_⟩) (by assumption) ?_
        rotate_left
        · intro w hSw; (try dsimp only at hSw); go_simp; try with_reducible rfl
        try simp only [Act.put, List.getElem_toArray, List.getElem_cons_zero, List.getElem_cons_succ, List.setIfInBounds_toArray, List.set_cons_zero, List.set_cons_succ]
        refine wpAnyH_take (i := 3) (v := ?_) rfl (by kernel_rfl) (by kernel_rfl) (by kernel_rfl) (fun _ _ _ h => h) (Or.inl ⟨by rfl, ?_⟩) (by assumption) ?_
        rotate_left
        · intro w hSw; (try dsimp only at hSw); go_simp; try with_reducible rfl
        try simp only [Act.put, List.getElem_toArray, List.getElem_cons_zero, List.getElem_cons_succ, List.setIfInBounds_toArray, List.set_cons_zero, List.set_cons_succ]
        refine wpAnyH_take (i := 4) (v := ?_) rfl (by kernel_rfl) (by kernel_rfl) (by kernel_rfl) (fun _ _ _ h => h) (Or.inl ⟨by rfl, ?_⟩) (by assumption) ?_
        rotate_left
        · intro w hSw; (try dsimp only at hSw); go_simp; try with_reducible rfl
        try simp only [Act.put, List.getElem_toArray, List.getElem_cons_zero, List.getElem_cons_succ, List.setIfInBounds_toArray, List.set_cons_zero, List.set_cons_succ]
        refine wpAnyH_ready (rs := [5]) (by kernel_rfl) (by simp) (AllReadyH.cons rfl (fun K hK => ?_) AllReadyH.nil)
        go_simp
        refine (LY.out _ (Below.refl _ _).drew).mono ?_; rintro e wn ⟨rfl, ha, s⟩
        have L1 := (HL.out.1.drew (Below.refl wr.heap.size wr).drew)
        have HC1 := Lib.hid (s.has (HCS.out.drew) L1.np)
        have HW1 := Lib.hid (s.has (HWK.out.drew) L1.ng)
        have L2 := Lib.hid (L1.with ha s)
        clear ha s L1
        go_wp2_with fail
        refine hK.out _ _ (⟨HC1.out.at rfl, HC1.out.at rfl, HC1.out.at rfl⟩) (fun hHeld => ?_)
        clear hK K
        try simp only [Act.put, List.getElem_toArray, List.getElem_cons_zero, List.getElem_cons_succ, List.setIfInBounds_toArray, List.set_cons_zero, List.set_cons_succ]
        refine wpAnyH_take (i := 6) (v := ?_) rfl (by kernel_rfl) (by kernel_rfl) (by kernel_rfl) (fun _ _ _ h => h) (Or.inl ⟨by rfl, ?_⟩) (by assumption) ?_
        rotate_left
        · intro w hSw; (try dsimp only at hSw); go_simp; try with_reducible rfl
        try simp only [Act.put, List.getElem_toArray, List.getElem_cons_zero, List.getElem_cons_succ, List.setIfInBounds_toArray, List.set_cons_zero, List.set_cons_succ]
        refine wpAnyH_done (by kernel_rfl) ?_ _
        skip
        clear c0 c1 c2 LY hHeld u1 x1
        have c0 := HC1.out.at (i := 0) rfl
        have c1 := HC1.out.at (i := 1) rfl
        have c2 := HC1.out.at (i := 2) rfl
        go_wp2_with fail
        refine (NX.out g (j + 1) _ (HW1.out.alloc _)).mono ?_; rintro e w6 ⟨rfl, hg6, s6⟩
        have hne : ¬ wn.heap.size = g := by have := HW1.out.lt; omega
        have N6 := s6.has (Has.make wn 55 [.int .i64 (k : Nat), .int .i64 (lo : Nat), .int .i64 (hi : Nat)]) hne
        have d0 := N6.at (i := 0) rfl
        have d1 := N6.at (i := 1) rfl
        have d2 := N6.at (i := 2) rfl
        have f0 := N6.free 0
        have f1 := N6.free 1
        have f2 := N6.free 2
        have LN := Lib.hid (L2.out.next HF1.out _ rfl rfl hg6 s6)
        clear hg6 s6 hne N6 c0 c1 c2
        generalize wn.heap.size = pb' at *
        go_wp2_with fail
        go_roundw
        case rel => exact ⟨j + 1, pb', G, _, rfl, rfl, rfl, Lib.hid ⟨LN.out, HP'.out⟩⟩
        case measure =>
          show (⟨(b.drop (pos D.size o n (j + 1) - o)).toArray⟩ : ByteArray).size < (⟨T.toArray⟩ : ByteArray).size
          rw [text_list, text_list]
          exact HTM.out
      · rw [e9] at LY
        have HP' := Lib.hid hp'
        have HDN := Lib.hid hdn
        clear e9 hp' hdn
        generalize (E.piece k lo (T.take z)).1 = G at *
        go_wp2_with fail
        refine wp_region_held_drew (S := fun W => W.cell? ⟨pb, 0, none⟩ = some (.int .i64 (k : Nat)) ∧ W.cell? ⟨pb, 1, none⟩ = some (.int .i64 (lo : Nat)) ∧ W.cell? ⟨pb, 2, none⟩ = some (.int .i64 (hi : Nat))) (by kernel_rfl) (⟨c0, c1, c2⟩) (fun hHeld => ?_)
        refine wpAnyH_take (i := 0) (v := ?_) rfl (by kernel_rfl) (by kernel_rfl) (by kernel_rfl) (fun _ _ _ h => h) (Or.inl ⟨by rfl, ?_⟩) (by assumption) ?_
        rotate_left
        · intro w hSw; (try dsimp only at hSw); go_simp; try with_reducible rfl
        try simp only [Act.put, List.getElem_toArray, List.getElem_cons_zero, List.setIfInBounds_toArray, List.set_cons_zero, List.set_cons_succ]
        refine wpAnyH_take (i := 1) (v := ?_) rfl (by kernel_rfl) (by kernel_rfl) (by kernel_rfl) (fun _ _ _ h => h) (Or.inl ⟨by rfl, ?_⟩) (by assumption) ?_
        rotate_left
        · intro w hSw; (try dsimp only at hSw); go_simp; try with_reducible rfl
        try simp only [Act.put, List.getElem_toArray, List.getElem_cons_zero, List.getElem_cons_succ, List.setIfInBounds_toArray, List.set_cons_zero, List.set_cons_succ]
        refine wpAnyH_take (i := 2) (v := ?_) rfl (by kernel_rfl) (by kernel_rfl) (by kernel_rfl) (fun _ _ _ h => h) (Or.inl ⟨by rfl, ?_⟩) (by assumption) ?_
        rotate_left
        · intro w hSw; (try dsimp only at hSw); go_simp; try with_reducible rfl
        try simp only [Act.put, List.getElem_toArray, List.getElem_cons_zero, List.getElem_cons_succ, List.setIfInBounds_toArray, List.set_cons_zero, List.set_cons_succ]
        refine wpAnyH_take (i := 3) (v := ?_) rfl (by kernel_rfl) (by kernel_rfl) (by kernel_rfl) (fun _ _ _ h => h) (Or.inl ⟨by rfl, ?_⟩) (by assumption) ?_
        rotate_left
        · intro w hSw; (try dsimp only at hSw); go_simp; try with_reducible rfl
        try simp only [Act.put, List.getElem_toArray, List.getElem_cons_zero, List.getElem_cons_succ, List.setIfInBounds_toArray, List.set_cons_zero, List.set_cons_succ]
        refine wpAnyH_take (i := 4) (v := ?_) rfl (by kernel_rfl) (by kernel_rfl) (by kernel_rfl) (fun _ _ _ h => h) (Or.inl ⟨by rfl, ?_⟩) (by assumption) ?_
        rotate_left
        · intro w hSw; (try dsimp only at hSw); go_simp; try with_reducible rfl
        try simp only [Act.put, List.getElem_toArray, List.getElem_cons_zero, List.getElem_cons_succ, List.setIfInBounds_toArray, List.set_cons_zero, List.set_cons_succ]
        refine wpAnyH_ready (rs := [5]) (by kernel_rfl) (by simp) (AllReadyH.cons rfl (fun K hK => ?_) AllReadyH.nil)
        go_simp
        refine (LY.out _ (Below.refl _ _).drew).mono ?_; rintro e wn ⟨rfl, ha, s⟩
        have L1 := (HL.out.1.drew (Below.refl wr.heap.size wr).drew)
        have HC1 := Lib.hid (s.has (HCS.out.drew) L1.np)
        have HW1 := Lib.hid (s.has (HWK.out.drew) L1.ng)
        have L2 := Lib.hid (L1.with ha s)
        clear ha s L1
        go_wp2_with fail
        refine hK.out _ _ (⟨HC1.out.at rfl, HC1.out.at rfl, HC1.out.at rfl⟩) (fun hHeld => ?_)
        clear hK K
        try simp only [Act.put, List.getElem_toArray, List.getElem_cons_zero, List.getElem_cons_succ, List.setIfInBounds_toArray, List.set_cons_zero, List.set_cons_succ]
        refine wpAnyH_take (i := 6) (v := ?_) rfl (by kernel_rfl) (by kernel_rfl) (by kernel_rfl) (fun _ _ _ h => h) (Or.inl ⟨by rfl, ?_⟩) (by assumption) ?_
        rotate_left
        · intro w hSw; (try dsimp only at hSw); go_simp; try with_reducible rfl
        try simp only [Act.put, List.getElem_toArray, List.getElem_cons_zero, List.getElem_cons_succ, List.setIfInBounds_toArray, List.set_cons_zero, List.set_cons_succ]
        refine wpAnyH_done (by kernel_rfl) ?_ _
        skip
        go_wp2_with fail
        go_ret
        have e := HB.out
        subst e
        exact PutPost.of HNA.out L2.out ⟨HP'.out, Or.inr ⟨rfl, HDN.out, HJ.out⟩, L2.out.few⟩
    · have hm : pm D.size o n j = false := decide_eq_false hj
      rw [hm]
      clear hm
      have HJ := Lib.hid hj
      clear hj
      go_wp2_with fail
      go_ret
      have he := pos_end HJ.out
      have e := HB.out
      subst e
      exact PutPost.of HNA.out HL.out.1 ⟨HL.out.2, Or.inl ⟨rfl, he⟩, HL.out.1.few⟩

end Go.Proofs.Ytihajcjfppmfjaa
