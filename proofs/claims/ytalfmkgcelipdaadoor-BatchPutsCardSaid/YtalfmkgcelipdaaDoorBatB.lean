/- A body's readers: the contract of batch.reader's method event. -/
import Derived.Test.YtalfmkgcelipdaaDoorBatA
namespace Go.Proofs.YtalfmkgcelipdaaDoor
open Go.RowKit Wire Evt Bat

theorem info_event : (Tryd.prog.info? 50).map (·.size) = some 6 := by kernel_rfl

theorem evc_one (x : Ev) : ∀ u ∈ evc x, u.oneCell' = true := by
  intro u hu
  simp only [evc, List.mem_cons, List.not_mem_nil, or_false] at hu
  rcases hu with rfl | rfl | rfl | rfl | rfl | rfl <;> rfl

/-- The cells of an event that nothing was put in. -/
def zev : List Value := [.int .u64 0, .int .i64 0, .int .i64 0, .int .i64 0, .int .i64 0, .int .i64 0]

/-- A store into a block that is newer. -/
theorem Only2.only {w w1 w' : World} {g b : Nat} (h : Only2 w w1 g g) (ho : Only w1 w' b) (hb : w.heap.size ≤ b) (hg : g < w.heap.size) : Only2 w w' g g :=
  ⟨Nat.le_trans h.size (Nat.le_of_eq ho.size.symm), fun h1 h2 k => ho.keep (by have := k.lt; omega) (h.keep h1 h2 k), fun h1 h2 hB k => ho.below (by omega) (h.below h1 h2 hB k)⟩

theorem get_ev (t : List UInt8) (ht : t.length ≤ 20000) (w : World) :
    Calls Tryd.prog 71 #[.string ⟨t.toArray⟩] w fun e w' => e = .returned (.tuple #[.agg (evc (evOf (got t))).toArray, .int .i64 ((got t).err : Nat)]) ∧ Below w.heap.size w w' :=
  get_any ⟨t.toArray⟩ (by rw [text_list]; omega) w

theorem tkt_len {l : List UInt8} (h : l.length ≤ 20000) : (tkt l).1.length ≤ 20000 := by
  by_cases h0 : (tkt l).2.2 = 0
  · obtain ⟨c, r, e, ht⟩ : ∃ c r e, tkt l = (c, r, e) := ⟨_, _, _, rfl⟩
    rw [ht] at h0 ⊢
    simp only at h0
    subst h0
    have := (tkt_back ht).2.1
    have h1 : l.length = (putL c.length ++ c ++ r).length := by rw [this]
    simp only [List.length_append] at h1
    show c.length ≤ 20000
    omega
  · rw [(tkt_bad h0).1]; simp

set_option maxHeartbeats 1600000 in
set_option maxRecDepth 100000 in
theorem event_yes (g : Nat) (l : List UInt8) (hl : l.length ≤ 20000) (h0 : (tkt l).2.2 = 0) (h1 : (got (tkt l).1).err = 0) (w : World) (hg : Has w g 79 [.string ⟨l.toArray⟩]) :
    Calls Tryd.prog 56 #[.pointer (some ⟨g, 0, none⟩)] w fun e w' => e = .returned (.agg (evc (evOf (got (tkt l).1))).toArray) ∧ Moved w w' g (tkt l).2.1 := by
  have c := fun w => takeText_any ⟨l.toArray⟩ (num_str l hl) w
  rw [show (⟨l.toArray⟩ : ByteArray).data.toList = l from rfl, h0] at c
  have k := fun w => get_ev (tkt l).1 (tkt_len hl) w
  rw [h1] at k
  generalize evOf (got (tkt l).1) = x at *
  generalize (tkt l).1 = t at *
  generalize (tkt l).2.1 = r at *
  have C := Lib.hid c
  have K := Lib.hid k
  have f1 := hg.at (i := 0) rfl
  have HG := Lib.hid (hg.alloc (.cells #[.int .u64 0, .int .i64 0, .int .i64 0, .int .i64 0, .int .i64 0, .int .i64 0] 50))
  have HZ := Lib.hid (Has.make w 50 [.int .u64 0, .int .i64 0, .int .i64 0, .int .i64 0, .int .i64 0, .int .i64 0])
  have hlt := hg.lt
  have hi := info_event
  have hu := Tryd.underlying50
  have ho := evc_one x
  have hxl : (evc x).length = 6 := rfl
  have O0 := Lib.hid ((Only2.refl w g g).up2 (up_alloc (Below.refl w.heap.size w) (.cells #[.int .u64 0, .int .i64 0, .int .i64 0, .int .i64 0, .int .i64 0, .int .i64 0] 50)))
  clear c k h0 h1 hg
  go_enter Tryd.func56, Tryd.ntmps56
  go_wp2_with fail
  refine (C.out _).mono ?_; rintro e w1 ⟨rfl, b1⟩
  replace HG := Lib.hid (HG.out.up b1)
  replace HZ := Lib.hid (HZ.out.up b1)
  replace O0 := Lib.hid (O0.out.up2 b1)
  clear b1
  have g1 := HG.out.at (i := 0) rfl
  have g2 := HG.out.free 0
  go_wp2_with fail
  refine (must_yes _).mono ?_; rintro e w2 ⟨rfl, rfl⟩
  go_wp2_with fail
  replace HG := Lib.hid (HG.out.set 0 (.string ⟨r.toArray⟩))
  replace HZ := Lib.hid (HZ.out.other (p := ⟨g, 0, none⟩) (by simp; omega) (.string ⟨r.toArray⟩))
  replace O0 := Lib.hid (O0.out.set (b := g) (i := 0) (Or.inl rfl) (.string ⟨r.toArray⟩))
  clear g1 g2
  generalize w1.setCell ⟨g, 0, none⟩ (.string ⟨r.toArray⟩) = w3 at *
  refine (K.out _).mono ?_; rintro e w4 ⟨rfl, b4⟩
  replace HG := Lib.hid (HG.out.up b4)
  replace HZ := Lib.hid (HZ.out.up b4)
  replace O0 := Lib.hid (O0.out.up2 b4)
  clear b4
  go_wp2_with (refine wpList_store_whole rfl 50 _ _ rfl w4.heap.size 50 zev (evc x) (by rfl) (by rfl) (Has.make w4 _ zev) hxl (by rw [hi, hxl]) ho ?_; intro w5 hF hO5)
  have hlt4 := HZ.out.lt
  have hlg4 := HG.out.lt
  replace HG := Lib.hid (hO5.keep (by omega) (HG.out.alloc _))
  replace HZ := Lib.hid (hO5.keep (by omega) (HZ.out.alloc _))
  replace O0 := Lib.hid ((O0.out.up2 (up_alloc (Below.refl _ _) _)).only hO5 (by omega) hlt)
  have HF := Lib.hid hF
  clear hF hO5
  refine (must_yes _).mono ?_; rintro e w6 ⟨rfl, rfl⟩
  go_wp2_with (first
    | (refine wpList_load_row rfl 50 _ rfl w4.heap.size (by rfl) _ _ _ _ HF.out hu rfl (by rw [hi]; rfl) ?_)
    | (refine wpList_store_whole rfl 50 _ _ rfl w.heap.size 50 zev (evc x) (by rfl) (by rfl) HZ.out hxl (by rw [hi, hxl]) ho ?_; intro w7 hF7 hO7))
  refine bodyPost_ret_by (results_cell_row Tryd.results56 _ _ w.heap.size _ _ _ _ (by rfl) hF7 hu rfl (by rw [hi]; rfl)) rfl ⟨rfl, hO7.keep (by omega) HG.out, O0.out.only hO7 (Nat.le_refl _) hlt⟩

set_option maxRecDepth 100000 in
theorem event_no1 (g : Nat) (l : List UInt8) (hl : l.length ≤ 20000) (h0 : (tkt l).2.2 ≠ 0) (w : World) (hg : Has w g 79 [.string ⟨l.toArray⟩]) :
    Calls Tryd.prog 56 #[.pointer (some ⟨g, 0, none⟩)] w fun e w' => e = .panicked [thrown] ∧ Only2 w w' g g := by
  have c := fun w => takeText_any ⟨l.toArray⟩ (num_str l hl) w
  rw [show (⟨l.toArray⟩ : ByteArray).data.toList = l from rfl] at c
  generalize (tkt l).1 = t at *
  generalize (tkt l).2.1 = r at *
  generalize (tkt l).2.2 = k at *
  have d : ((k : Int) == 0) = false := by rw [beq_eq_false_iff_ne]; omega
  have C := Lib.hid c
  have f1 := hg.at (i := 0) rfl
  have hlt := hg.lt
  have O0 := Lib.hid ((Only2.refl w g g).up2 (up_alloc (Below.refl w.heap.size w) (.cells #[.int .u64 0, .int .i64 0, .int .i64 0, .int .i64 0, .int .i64 0, .int .i64 0] 50)))
  clear c h0 hg
  go_enter Tryd.func56, Tryd.ntmps56
  go_wp2_with fail
  refine (C.out _).mono ?_; rintro e w1 ⟨rfl, b1⟩
  replace O0 := Lib.hid (O0.out.up2 b1)
  clear b1
  go_wp2_with fail
  refine (must_no _).mono ?_; rintro e w2 ⟨rfl, rfl⟩
  exact ⟨rfl, rfl, O0.out⟩

set_option maxHeartbeats 1600000 in
set_option maxRecDepth 100000 in
theorem event_no2 (g : Nat) (l : List UInt8) (hl : l.length ≤ 20000) (h0 : (tkt l).2.2 = 0) (h1 : (got (tkt l).1).err ≠ 0) (w : World) (hg : Has w g 79 [.string ⟨l.toArray⟩]) :
    Calls Tryd.prog 56 #[.pointer (some ⟨g, 0, none⟩)] w fun e w' => e = .panicked [thrown] ∧ Only2 w w' g g := by
  have c := fun w => takeText_any ⟨l.toArray⟩ (num_str l hl) w
  rw [show (⟨l.toArray⟩ : ByteArray).data.toList = l from rfl, h0] at c
  have k := fun w => get_ev (tkt l).1 (tkt_len hl) w
  generalize evOf (got (tkt l).1) = x at *
  generalize (got (tkt l).1).err = ge at *
  generalize (tkt l).1 = t at *
  generalize (tkt l).2.1 = r at *
  have d : ((ge : Int) == 0) = false := by rw [beq_eq_false_iff_ne]; omega
  have C := Lib.hid c
  have K := Lib.hid k
  have f1 := hg.at (i := 0) rfl
  have HG := Lib.hid (hg.alloc (.cells #[.int .u64 0, .int .i64 0, .int .i64 0, .int .i64 0, .int .i64 0, .int .i64 0] 50))
  have hlt := hg.lt
  have hi := info_event
  have ho := evc_one x
  have hxl : (evc x).length = 6 := rfl
  have O0 := Lib.hid ((Only2.refl w g g).up2 (up_alloc (Below.refl w.heap.size w) (.cells #[.int .u64 0, .int .i64 0, .int .i64 0, .int .i64 0, .int .i64 0, .int .i64 0] 50)))
  clear c k h0 h1 hg
  go_enter Tryd.func56, Tryd.ntmps56
  go_wp2_with fail
  refine (C.out _).mono ?_; rintro e w1 ⟨rfl, b1⟩
  replace HG := Lib.hid (HG.out.up b1)
  replace O0 := Lib.hid (O0.out.up2 b1)
  clear b1
  have g1 := HG.out.at (i := 0) rfl
  have g2 := HG.out.free 0
  go_wp2_with fail
  refine (must_yes _).mono ?_; rintro e w2 ⟨rfl, rfl⟩
  go_wp2_with fail
  replace O0 := Lib.hid (O0.out.set (b := g) (i := 0) (Or.inl rfl) (.string ⟨r.toArray⟩))
  clear g1 g2
  generalize w1.setCell ⟨g, 0, none⟩ (.string ⟨r.toArray⟩) = w3 at *
  refine (K.out _).mono ?_; rintro e w4 ⟨rfl, b4⟩
  have hs4 := O0.out.size
  have hs5 := b4.size
  replace O0 := Lib.hid (O0.out.up2 b4)
  clear b4
  go_wp2_with (refine wpList_store_whole rfl 50 _ _ rfl w4.heap.size 50 zev (evc x) (by rfl) (by rfl) (Has.make w4 _ zev) hxl (by rw [hi, hxl]) ho ?_; intro w5 hF hO5)
  replace O0 := Lib.hid ((O0.out.up2 (up_alloc (Below.refl _ _) _)).only hO5 (by omega) hlt)
  clear hF hO5
  refine (must_no _).mono ?_; rintro e w6 ⟨rfl, rfl⟩
  exact ⟨rfl, rfl, O0.out⟩

/-- An event that can't be read. -/
theorem event_no (g : Nat) (l : List UInt8) (hl : l.length ≤ 20000) (h : oneO l = none) (w : World) (hg : Has w g 79 [.string ⟨l.toArray⟩]) :
    Calls Tryd.prog 56 #[.pointer (some ⟨g, 0, none⟩)] w fun e w' => e = .panicked [thrown] ∧ Only2 w w' g g := by
  rcases oneO_no h with h | ⟨h1, h2⟩
  · exact event_no1 g l hl h w hg
  · exact event_no2 g l hl h1 h2 w hg

/-- An event that can. -/
theorem event_ok (g : Nat) (l r : List UInt8) (x : Ev) (hl : l.length ≤ 20000) (h : oneO l = some (x, r)) (w : World) (hg : Has w g 79 [.string ⟨l.toArray⟩]) :
    Calls Tryd.prog 56 #[.pointer (some ⟨g, 0, none⟩)] w fun e w' => e = .returned (.agg (evc x).toArray) ∧ Moved w w' g r := by
  obtain ⟨_, _, _, h0, h1, h2, h3⟩ := oneO_back h
  have := event_yes g l hl h0 h1 w hg
  rwa [h2, h3] at this

end Go.Proofs.YtalfmkgcelipdaaDoor
