/- A body's readers: contracts of batch.must and of the methods number and event of batch.reader. -/
import Derived.Test.YthhcopeejhhpgaaDoorText
import Derived.Test.YthhcopeejhhpgaaDoorPureBats
import Derived.Test.YthhcopeejhhpgaaDoorEvGets
import Derived.Test.YthhcopeejhhpgaaDoorEvRuns
import Derived.Test.YthhcopeejhhpgaaDoorWires
import Derived.WalkLawsBesides
import Derived.Test.YthhcopeejhhpgaaDoorBase
import Derived.Laws.IdiomCopy
import Derived.Test.YthhcopeejhhpgaaDoorOwnE
namespace Go.Proofs.YthhcopeejhhpgaaDoor
open Go.RowKit Wire Evt Bat

/-- What is thrown where a body is no batch's. -/
def thrown : PanicEntry := { v := .iface 28 (.int .i64 3), recovered := false }

theorem must_yes (w : World) : Calls Tryd.prog 89 #[.bool true] w fun e w' => e = .returned (.tuple #[]) ∧ w = w' := by
  go_enter Tryd.func89, Tryd.ntmps89
  go_wp2
  go_end0
  exact ⟨rfl, rfl⟩
theorem must_no (w : World) : Calls Tryd.prog 89 #[.bool false] w fun e w' => e = .panicked [thrown] ∧ w = w' := by
  go_enter Tryd.func89, Tryd.ntmps89
  go_wp2
  exact ⟨rfl, rfl, rfl⟩

/-- What a reader's method leaves: its text is l, all else is as it was. -/
structure Moved (w w' : World) (g : Nat) (l : List UInt8) : Prop where
  has : Has w' g 112 [.string ⟨l.toArray⟩]
  only : Only2 w w' g g

theorem num_str (l : List UInt8) (h : l.length ≤ 20000) : (⟨l.toArray⟩ : ByteArray).size ≤ maxLen := by
  rw [text_list]; unfold maxLen; omega

set_option maxRecDepth 100000 in
theorem number_yes (g : Nat) (l : List UInt8) (hl : l.length ≤ 20000) (h0 : (tk l).2.2 = 0) (w : World) (hg : Has w g 112 [.string ⟨l.toArray⟩]) :
    Calls Tryd.prog 86 #[.pointer (some ⟨g, 0, none⟩)] w fun e w' => e = .returned (.int .u64 ((tk l).1 : Nat)) ∧ Moved w w' g (tk l).2.1 := by
  have c := fun w => take_any ⟨l.toArray⟩ (num_str l hl) w
  rw [show (⟨l.toArray⟩ : ByteArray).data.toList = l from rfl, h0] at c
  generalize (tk l).1 = v at *
  generalize (tk l).2.1 = r at *
  have C := Lib.hid c
  have f1 := hg.at (i := 0) rfl
  have HG := Lib.hid hg
  clear c hg h0
  go_enter Tryd.func86, Tryd.ntmps86
  go_wp2_with fail
  refine (C.out _).mono ?_; rintro e w1 ⟨rfl, b1⟩
  have G1 := Lib.hid (HG.out.up b1)
  have O1 := Lib.hid (Only2.up (g := g) (g2 := g) b1)
  clear b1
  have g1 := G1.out.at (i := 0) rfl
  have g2 := G1.out.free 0
  go_wp2_with fail
  refine (must_yes _).mono ?_; rintro e w2 ⟨rfl, rfl⟩
  go_wp2_with fail
  go_ret
  exact ⟨rfl, G1.out.set 0 _, O1.out.set (Or.inl rfl) _⟩

set_option maxRecDepth 100000 in
theorem number_no (g : Nat) (l : List UInt8) (hl : l.length ≤ 20000) (h0 : (tk l).2.2 ≠ 0) (w : World) (hg : Has w g 112 [.string ⟨l.toArray⟩]) :
    Calls Tryd.prog 86 #[.pointer (some ⟨g, 0, none⟩)] w fun e w' => e = .panicked [thrown] ∧ Only2 w w' g g := by
  have c := fun w => take_any ⟨l.toArray⟩ (num_str l hl) w
  rw [show (⟨l.toArray⟩ : ByteArray).data.toList = l from rfl] at c
  generalize (tk l).1 = v at *
  generalize (tk l).2.1 = r at *
  generalize (tk l).2.2 = k at *
  have d : ((k : Int) == 0) = false := by rw [beq_eq_false_iff_ne]; omega
  have C := Lib.hid c
  have f1 := hg.at (i := 0) rfl
  clear c hg h0
  go_enter Tryd.func86, Tryd.ntmps86
  go_wp2_with fail
  refine (C.out _).mono ?_; rintro e w1 ⟨rfl, b1⟩
  have O1 := Lib.hid (Only2.up (g := g) (g2 := g) b1)
  clear b1
  go_wp2_with fail
  refine (must_no _).mono ?_; rintro e w2 ⟨rfl, rfl⟩
  exact ⟨rfl, rfl, O1.out⟩

end Go.Proofs.YthhcopeejhhpgaaDoor

/- A body's readers: the contract of batch.reader's method event. -/
namespace Go.Proofs.YthhcopeejhhpgaaDoor
open Go.RowKit Wire Evt Bat

theorem info_event : (Tryd.prog.info? 47).map (·.size) = some 6 := by kernel_rfl

theorem evc_one (x : Ev) : ∀ u ∈ evc x, u.oneCell' = true := by
  intro u hu
  simp only [evc, List.mem_cons, List.not_mem_nil, or_false] at hu
  rcases hu with rfl | rfl | rfl | rfl | rfl | rfl <;> rfl

/-- The cells of an event that nothing was put in. -/
def zev : List Value := [.int .u64 0, .int .i64 0, .int .i64 0, .int .i64 0, .int .i64 0, .int .i64 0]

theorem get_ev (t : List UInt8) (ht : t.length ≤ 20000) (w : World) :
    Calls Tryd.prog 98 #[.string ⟨t.toArray⟩] w fun e w' => e = .returned (.tuple #[.agg (evc (evOf (got t))).toArray, .int .i64 ((got t).err : Nat)]) ∧ Below w.heap.size w w' :=
  get_any ⟨t.toArray⟩ (by rw [text_list]; omega) w

theorem tkt_len {l : List UInt8} (h : l.length ≤ 20000) : (tkt l).1.length ≤ 20000 := by
  by_cases h0 : (tkt l).2.2 = 0
  · obtain ⟨c, r, e, ht⟩ : ∃ c r e, tkt l = (c, r, e) := ⟨_, _, _, rfl⟩
    rw [ht] at h0 ⊢
    simp only at h0
    subst h0
    have := (tkt_back ht).2.1
    have h1 : l.length = (putL c.length ++ c ++ r).length := by rw [this]
    simp only [List.length_append] at h1
    show c.length ≤ 20000
    omega
  · rw [(tkt_bad h0).1]; simp

set_option maxHeartbeats 1600000 in
set_option maxRecDepth 100000 in
theorem event_yes (g : Nat) (l : List UInt8) (hl : l.length ≤ 20000) (h0 : (tkt l).2.2 = 0) (h1 : (got (tkt l).1).err = 0) (w : World) (hg : Has w g 112 [.string ⟨l.toArray⟩]) :
    Calls Tryd.prog 88 #[.pointer (some ⟨g, 0, none⟩)] w fun e w' => e = .returned (.agg (evc (evOf (got (tkt l).1))).toArray) ∧ Moved w w' g (tkt l).2.1 := by
  have c := fun w => takeText_any ⟨l.toArray⟩ (num_str l hl) w
  rw [show (⟨l.toArray⟩ : ByteArray).data.toList = l from rfl, h0] at c
  have k := fun w => get_ev (tkt l).1 (tkt_len hl) w
  rw [h1] at k
  generalize evOf (got (tkt l).1) = x at *
  generalize (tkt l).1 = t at *
  generalize (tkt l).2.1 = r at *
  have C := Lib.hid c
  have K := Lib.hid k
  have f1 := hg.at (i := 0) rfl
  have HG := Lib.hid (hg.alloc (.cells #[.int .u64 0, .int .i64 0, .int .i64 0, .int .i64 0, .int .i64 0, .int .i64 0] 47))
  have HZ := Lib.hid (Has.make w 47 [.int .u64 0, .int .i64 0, .int .i64 0, .int .i64 0, .int .i64 0, .int .i64 0])
  have hlt := hg.lt
  have hi := info_event
  have hu := Tryd.underlying47
  have ho := evc_one x
  have hxl : (evc x).length = 6 := rfl
  have O0 := Lib.hid ((Only2.refl w g g).up2 (up_alloc (Below.refl w.heap.size w) (.cells #[.int .u64 0, .int .i64 0, .int .i64 0, .int .i64 0, .int .i64 0, .int .i64 0] 47)))
  clear c k h0 h1 hg
  go_enter Tryd.func88, Tryd.ntmps88
  go_wp2_with fail
  refine (C.out _).mono ?_; rintro e w1 ⟨rfl, b1⟩
  replace HG := Lib.hid (HG.out.up b1)
  replace HZ := Lib.hid (HZ.out.up b1)
  replace O0 := Lib.hid (O0.out.up2 b1)
  clear b1
  have g1 := HG.out.at (i := 0) rfl
  have g2 := HG.out.free 0
  go_wp2_with fail
  refine (must_yes _).mono ?_; rintro e w2 ⟨rfl, rfl⟩
  go_wp2_with fail
  replace HG := Lib.hid (HG.out.set 0 (.string ⟨r.toArray⟩))
  replace HZ := Lib.hid (HZ.out.other (p := ⟨g, 0, none⟩) (by simp; omega) (.string ⟨r.toArray⟩))
  replace O0 := Lib.hid (O0.out.set (b := g) (i := 0) (Or.inl rfl) (.string ⟨r.toArray⟩))
  clear g1 g2
  generalize w1.setCell ⟨g, 0, none⟩ (.string ⟨r.toArray⟩) = w3 at *
  refine (K.out _).mono ?_; rintro e w4 ⟨rfl, b4⟩
  replace HG := Lib.hid (HG.out.up b4)
  replace HZ := Lib.hid (HZ.out.up b4)
  replace O0 := Lib.hid (O0.out.up2 b4)
  clear b4
  go_wp2_with (refine wpList_store_whole rfl 47 _ _ rfl w4.heap.size 47 zev (evc x) (by rfl) (by rfl) (Has.make w4 _ zev) hxl (by rw [hi, hxl]) ho ?_; intro w5 hF hO5)
  have hlt4 := HZ.out.lt
  have hlg4 := HG.out.lt
  replace HG := Lib.hid (hO5.keep (by omega) (HG.out.alloc _))
  replace HZ := Lib.hid (hO5.keep (by omega) (HZ.out.alloc _))
  replace O0 := Lib.hid ((O0.out.up2 (up_alloc (Below.refl _ _) _)).only hO5 (by omega) hlt)
  have HF := Lib.hid hF
  clear hF hO5
  refine (must_yes _).mono ?_; rintro e w6 ⟨rfl, rfl⟩
  go_wp2_with (first
    | (refine wpList_load_row rfl 47 _ rfl w4.heap.size (by rfl) _ _ _ _ HF.out hu rfl (by rw [hi]; rfl) ?_)
    | (refine wpList_store_whole rfl 47 _ _ rfl w.heap.size 47 zev (evc x) (by rfl) (by rfl) HZ.out hxl (by rw [hi, hxl]) ho ?_; intro w7 hF7 hO7))
  refine bodyPost_ret_by (results_cell_row Tryd.results88 _ _ w.heap.size _ _ _ _ (by rfl) hF7 hu rfl (by rw [hi]; rfl)) rfl ⟨rfl, hO7.keep (by omega) HG.out, O0.out.only hO7 (Nat.le_refl _) hlt⟩

set_option maxRecDepth 100000 in
theorem event_no1 (g : Nat) (l : List UInt8) (hl : l.length ≤ 20000) (h0 : (tkt l).2.2 ≠ 0) (w : World) (hg : Has w g 112 [.string ⟨l.toArray⟩]) :
    Calls Tryd.prog 88 #[.pointer (some ⟨g, 0, none⟩)] w fun e w' => e = .panicked [thrown] ∧ Only2 w w' g g := by
  have c := fun w => takeText_any ⟨l.toArray⟩ (num_str l hl) w
  rw [show (⟨l.toArray⟩ : ByteArray).data.toList = l from rfl] at c
  generalize (tkt l).1 = t at *
  generalize (tkt l).2.1 = r at *
  generalize (tkt l).2.2 = k at *
  have d : ((k : Int) == 0) = false := by rw [beq_eq_false_iff_ne]; omega
  have C := Lib.hid c
  have f1 := hg.at (i := 0) rfl
  have hlt := hg.lt
  have O0 := Lib.hid ((Only2.refl w g g).up2 (up_alloc (Below.refl w.heap.size w) (.cells #[.int .u64 0, .int .i64 0, .int .i64 0, .int .i64 0, .int .i64 0, .int .i64 0] 47)))
  clear c h0 hg
  go_enter Tryd.func88, Tryd.ntmps88
  go_wp2_with fail
  refine (C.out _).mono ?_; rintro e w1 ⟨rfl, b1⟩
  replace O0 := Lib.hid (O0.out.up2 b1)
  clear b1
  go_wp2_with fail
  refine (must_no _).mono ?_; rintro e w2 ⟨rfl, rfl⟩
  exact ⟨rfl, rfl, O0.out⟩

set_option maxHeartbeats 1600000 in
set_option maxRecDepth 100000 in
theorem event_no2 (g : Nat) (l : List UInt8) (hl : l.length ≤ 20000) (h0 : (tkt l).2.2 = 0) (h1 : (got (tkt l).1).err ≠ 0) (w : World) (hg : Has w g 112 [.string ⟨l.toArray⟩]) :
    Calls Tryd.prog 88 #[.pointer (some ⟨g, 0, none⟩)] w fun e w' => e = .panicked [thrown] ∧ Only2 w w' g g := by
  have c := fun w => takeText_any ⟨l.toArray⟩ (num_str l hl) w
  rw [show (⟨l.toArray⟩ : ByteArray).data.toList = l from rfl, h0] at c
  have k := fun w => get_ev (tkt l).1 (tkt_len hl) w
  generalize evOf (got (tkt l).1) = x at *
  generalize (got (tkt l).1).err = ge at *
  generalize (tkt l).1 = t at *
  generalize (tkt l).2.1 = r at *
  have d : ((ge : Int) == 0) = false := by rw [beq_eq_false_iff_ne]; omega
  have C := Lib.hid c
  have K := Lib.hid k
  have f1 := hg.at (i := 0) rfl
  have HG := Lib.hid (hg.alloc (.cells #[.int .u64 0, .int .i64 0, .int .i64 0, .int .i64 0, .int .i64 0, .int .i64 0] 47))
  have hlt := hg.lt
  have hi := info_event
  have ho := evc_one x
  have hxl : (evc x).length = 6 := rfl
  have O0 := Lib.hid ((Only2.refl w g g).up2 (up_alloc (Below.refl w.heap.size w) (.cells #[.int .u64 0, .int .i64 0, .int .i64 0, .int .i64 0, .int .i64 0, .int .i64 0] 47)))
  clear c k h0 h1 hg
  go_enter Tryd.func88, Tryd.ntmps88
  go_wp2_with fail
  refine (C.out _).mono ?_; rintro e w1 ⟨rfl, b1⟩
  replace HG := Lib.hid (HG.out.up b1)
  replace O0 := Lib.hid (O0.out.up2 b1)
  clear b1
  have g1 := HG.out.at (i := 0) rfl
  have g2 := HG.out.free 0
  go_wp2_with fail
  refine (must_yes _).mono ?_; rintro e w2 ⟨rfl, rfl⟩
  go_wp2_with fail
  replace O0 := Lib.hid (O0.out.set (b := g) (i := 0) (Or.inl rfl) (.string ⟨r.toArray⟩))
  clear g1 g2
  generalize w1.setCell ⟨g, 0, none⟩ (.string ⟨r.toArray⟩) = w3 at *
  refine (K.out _).mono ?_; rintro e w4 ⟨rfl, b4⟩
  have hs4 := O0.out.size
  have hs5 := b4.size
  replace O0 := Lib.hid (O0.out.up2 b4)
  clear b4
  go_wp2_with (refine wpList_store_whole rfl 47 _ _ rfl w4.heap.size 47 zev (evc x) (by rfl) (by rfl) (Has.make w4 _ zev) hxl (by rw [hi, hxl]) ho ?_; intro w5 hF hO5)
  replace O0 := Lib.hid ((O0.out.up2 (up_alloc (Below.refl _ _) _)).only hO5 (by omega) hlt)
  clear hF hO5
  refine (must_no _).mono ?_; rintro e w6 ⟨rfl, rfl⟩
  exact ⟨rfl, rfl, O0.out⟩

/-- An event that can't be read. -/
theorem event_no (g : Nat) (l : List UInt8) (hl : l.length ≤ 20000) (h : oneO l = none) (w : World) (hg : Has w g 112 [.string ⟨l.toArray⟩]) :
    Calls Tryd.prog 88 #[.pointer (some ⟨g, 0, none⟩)] w fun e w' => e = .panicked [thrown] ∧ Only2 w w' g g := by
  rcases oneO_no h with h | ⟨h1, h2⟩
  · exact event_no1 g l hl h w hg
  · exact event_no2 g l hl h1 h2 w hg

/-- An event that can. -/
theorem event_ok (g : Nat) (l r : List UInt8) (x : Ev) (hl : l.length ≤ 20000) (h : oneO l = some (x, r)) (w : World) (hg : Has w g 112 [.string ⟨l.toArray⟩]) :
    Calls Tryd.prog 88 #[.pointer (some ⟨g, 0, none⟩)] w fun e w' => e = .returned (.agg (evc x).toArray) ∧ Moved w w' g r := by
  obtain ⟨_, _, _, h0, h1, h2, h3⟩ := oneO_back h
  have := event_yes g l hl h0 h1 w hg
  rwa [h2, h3] at this

end Go.Proofs.YthhcopeejhhpgaaDoor

/- A body's readers: the contract of batch.reader's method sum. -/
namespace Go.Proofs.YthhcopeejhhpgaaDoor
open Go.RowKit Wire Evt Bat

set_option maxHeartbeats 1600000 in
set_option maxRecDepth 100000 in
theorem sum_no (g : Nat) (l : List UInt8) (hl : l.length < 32) (w : World) (hg : Has w g 112 [.string ⟨l.toArray⟩]) :
    Calls Tryd.prog 85 #[.pointer (some ⟨g, 0, none⟩)] w fun e w' => e = .panicked [thrown] ∧ Only2 w w' g g := by
  have hlt := hg.lt
  have hsz := text_list l
  have f1 := hg.at (i := 0) rfl
  generalize (⟨l.toArray⟩ : ByteArray) = s at *
  have d : ¬ (32 : Int) ≤ (s.size : Int) := by omega
  clear hsz
  have O0 := Lib.hid ((Only2.refl w g g).up2 (up_alloc (up_alloc (Below.refl w.heap.size w) (.cells zdig.toArray 23)) (.cells zdig.toArray 23)))
  clear hg
  go_enter Tryd.func85, Tryd.ntmps85
  go_wp2_with fail
  refine (must_no _).mono ?_; rintro e w2 ⟨rfl, rfl⟩
  exact ⟨rfl, rfl, O0.out⟩

set_option maxHeartbeats 1600000 in
set_option maxRecDepth 100000 in
theorem sum_yes (g : Nat) (l : List UInt8) (hl : 32 ≤ l.length) (hm : l.length ≤ 20000) (w : World) (hg : Has w g 112 [.string ⟨l.toArray⟩]) :
    Calls Tryd.prog 85 #[.pointer (some ⟨g, 0, none⟩)] w fun e w' => e = .returned (.agg (bys (l.take 32)).toArray) ∧ Moved w w' g (l.drop 32) := by
  have hlt := hg.lt
  have hsz := text_list l
  have B := Lib.hid (back_of ⟨l.toArray⟩ 32)
  have L := Lib.hid (show (⟨l.toArray⟩ : ByteArray).data.toList = l from rfl)
  have f1 := hg.at (i := 0) rfl
  have HG := Lib.hid ((hg.alloc (.cells zdig.toArray 23)).alloc (.cells zdig.toArray 23))
  generalize (⟨l.toArray⟩ : ByteArray) = s at *
  have d : (32 : Int) ≤ (s.size : Int) := by omega
  have d2 : (s.size : Int) ≤ 20000 := by omega
  have d3 : 32 ≤ s.size := by omega
  clear hsz
  have HR := Lib.hid ((Has.make w 23 zdig).alloc (.cells zdig.toArray 23))
  have HZ := Lib.hid (Has.make2 w (.cells zdig.toArray 23) 23 zdig)
  have O0 := Lib.hid ((Only2.refl w g g).up2 (up_alloc (up_alloc (Below.refl w.heap.size w) (.cells zdig.toArray 23)) (.cells zdig.toArray 23)))
  clear hg
  go_enter Tryd.func85, Tryd.ntmps85
  go_wp2_with fail
  refine (must_yes _).mono ?_; rintro e w2 ⟨rfl, rfl⟩
  generalize hw2 : (w.alloc (Obj.cells _ _)).alloc _ = w2
  replace HG : Hid (Has w2 g 112 [.string s]) := by rw [← hw2]; exact HG
  replace HR : Hid (Has w2 w.heap.size 23 zdig) := by rw [← hw2]; exact HR
  replace HZ : Hid (Has w2 (w.heap.size + 1) 23 zdig) := by rw [← hw2]; exact HZ
  replace O0 : Hid (Only2 w w2 g g) := by rw [← hw2]; exact O0
  clear hw2 f1
  go_wp2_with fail
  refine wp_region_held_drew (S := fun W => W.cell? ⟨g, 0, none⟩ = some (.string s)) (by kernel_rfl) (HG.out.at (i := 0) rfl) (fun hHeld => ?_)
  refine wpAnyH_take (i := 0) (v := ?_) rfl (by kernel_rfl) (by kernel_rfl) (by kernel_rfl) (fun _ _ _ h => h) (Or.inl ⟨by rfl, ?_⟩) (by assumption) ?_
  rotate_left
  · intro w hSw; (try dsimp only at hSw); go_simp; try with_reducible rfl
  try simp only [Act.put, List.getElem_toArray, List.getElem_cons_zero, List.setIfInBounds_toArray, List.set_cons_zero, List.set_cons_succ]
  refine wpAnyH_take (i := 1) (v := ?_) rfl (by kernel_rfl) (by kernel_rfl) (by kernel_rfl) (fun _ _ _ h => h) (Or.inl ⟨by rfl, ?_⟩) (by assumption) ?_
  rotate_left
  · intro w hSw; (try dsimp only at hSw); go_simp; try with_reducible rfl
  try simp only [Act.put, List.getElem_toArray, List.getElem_cons_zero, List.getElem_cons_succ, List.setIfInBounds_toArray, List.set_cons_zero, List.set_cons_succ]
  refine wpAnyH_take (i := 2) (v := ?_) rfl (by kernel_rfl) (by kernel_rfl) (by kernel_rfl) (fun _ _ _ h => h) (Or.inl ⟨by rfl, ?_⟩) (by assumption) ?_
  rotate_left
  · intro w hSw; (try dsimp only at hSw); go_simp; try with_reducible rfl
  try simp only [Act.put, List.getElem_toArray, List.getElem_cons_zero, List.getElem_cons_succ, List.setIfInBounds_toArray, List.set_cons_zero, List.set_cons_succ]
  refine wpAnyH_take (i := 3) (v := ?_) rfl (by kernel_rfl) (by kernel_rfl) (by kernel_rfl) (fun _ _ _ h => h) (Or.inl ⟨by rfl, ?_⟩) (by assumption) ?_
  rotate_left
  · intro w hSw; (try dsimp only at hSw); go_simp; try with_reducible rfl
  try simp only [Act.put, List.getElem_toArray, List.getElem_cons_zero, List.getElem_cons_succ, List.setIfInBounds_toArray, List.set_cons_zero, List.set_cons_succ]
  refine wpAnyH_take (i := 4) (v := ?_) rfl (by kernel_rfl) (by kernel_rfl) (by kernel_rfl) (fun _ _ _ h => h) (Or.inl ⟨by rfl, ?_⟩) (by assumption) ?_
  rotate_left
  · intro w hSw; (try dsimp only at hSw); go_simp; try with_reducible rfl
  try simp only [Act.put, List.getElem_toArray, List.getElem_cons_zero, List.getElem_cons_succ, List.setIfInBounds_toArray, List.set_cons_zero, List.set_cons_succ]
  refine wpAnyH_ready (rs := [5]) (by kernel_rfl) (by simp) (AllReadyH.cons rfl (fun K hK => ?_) AllReadyH.nil)
  refine wp_copy_text _ _ rfl (w.heap.size + 1) 0 32 32 23 zdig s (by rfl) (by rfl) HZ.out.drew d3 (by simp [zdig, bys]) ?_
  intro w3 hF hO
  replace HG := Lib.hid (hO.keep (by omega) HG.out.drew)
  replace HR := Lib.hid (hO.keep (by omega) HR.out.drew)
  replace O0 := Lib.hid ((O0.out.up2 (Below.refl _ _).drew).only hO (by omega) hlt)
  replace HZ : Hid (Has w3 (w.heap.size + 1) 23 (bys (l.take 32))) := by
    rw [L.out] at hF
    refine Lib.hid ?_
    simpa [zdig, bys] using hF
  clear hF hO
  refine hK.out _ _ (HG.out.at (i := 0) rfl) (fun hHeld => ?_)
  clear hK K
  try simp only [Act.put, List.getElem_toArray, List.getElem_cons_zero, List.getElem_cons_succ, List.setIfInBounds_toArray, List.set_cons_zero, List.set_cons_succ]
  refine wpAnyH_done (by kernel_rfl) ?_ _
  have g1 := HG.out.at (i := 0) rfl
  have g2 := HG.out.free 0
  have hi := info_digest
  have hu := Tryd.underlying23
  have hbl : (bys (l.take 32)).length = 32 := by rw [bys_length, List.length_take]; omega
  have ho := bys_one (l.take 32)
  have HB2 : Hid (s.extract 32 s.size = ⟨(l.drop 32).toArray⟩) := Lib.hid (by rw [B.out, L.out])
  clear B L
  go_wp2_with (first
    | (refine wpList_load_row rfl 23 _ rfl (w.heap.size + 1) (by rfl) _ _ _ _ (HZ.out.other (p := ⟨g, 0, none⟩) (by simp; omega) _) hu rfl (by rw [hi, List.size_toArray, hbl]) ?_)
    | (refine wpList_store_whole rfl 23 _ _ rfl w.heap.size 23 zdig (bys (l.take 32)) (by rfl) (by rfl) (HR.out.other (p := ⟨g, 0, none⟩) (by simp; omega) _) (by rw [hbl]; rfl) (by rw [hi, hbl]) ho ?_; intro w7 hF7 hO7))
  rw [HB2.out] at hO7
  refine bodyPost_ret_by (results_cell_row Tryd.results85 _ _ w.heap.size _ _ _ _ (by rfl) hF7 hu rfl (by rw [hi, List.size_toArray, hbl])) rfl ⟨rfl, hO7.keep (by omega) (HG.out.set 0 _), (O0.out.set (Or.inl rfl) _).only hO7 (Nat.le_refl _) hlt⟩
end Go.Proofs.YthhcopeejhhpgaaDoor

/- A row of events, read one behind the other: the contract of batch.row. -/
namespace Go.Proofs.YthhcopeejhhpgaaDoor
open Go.RowKit Wire Evt Bat

theorem OwnE.only {B : Nat} {v : Value} {l : List Ev} {w w' : World} {g : Nat} (h : OwnE B v l w) (ho : Only2 w w' g g) (hg : g < B) : OwnE B v l w' := by
  obtain ⟨h0, h1 | ⟨b, cap, cur, hv, hb, hh, hr⟩⟩ := h.out
  · exact ⟨⟨h0, Or.inl h1⟩⟩
  · refine ⟨⟨h0, Or.inr ⟨b, cap, cur, hv, hb, ?_, hr⟩⟩⟩
    have := ho.keep (g' := b) (t := 47) (l := cur.toList) (by omega) (by omega) (by show _ = _; rw [hh])
    have h2 : w'.heap[b]? = some (.cells cur.toList.toArray 47 (0, 0)) := this
    rwa [Array.toArray_toList] at h2

theorem evK_len {k : Nat} {l r : List UInt8} {acc : List Ev} (h : evK k l = some (acc, r)) : r.length ≤ l.length := by
  have := (evK_back h).1
  rw [← this, List.length_append]; omega

theorem Moved.start {w : World} {g : Nat} {l : List UInt8} (h : Has w g 112 [.string ⟨l.toArray⟩]) : Moved w w g l := ⟨h, Only2.refl _ _ _⟩
theorem Moved.over {w w1 w' : World} {g : Nat} {l : List UInt8} (h : Moved w w1 g l) (hb : Below w.heap.size w1 w') (hg : g < w.heap.size) : Moved w w' g l := ⟨h.has.below hb hg, h.only.over hb⟩

theorem evSl_one {w : World} {b : Nat} {x : Ev} (h : Has w b 47 (evc x)) : EvSl w (some ⟨b, 0, none⟩) [x] := fun _ => ⟨b, 0, rfl, EvAt.of_has (by simpa using h)⟩

theorem event_ok2 (g : Nat) (l r : List UInt8) (x : Ev) (hl : l.length ≤ 20000) (h : oneO l = some (x, r)) (w : World) (hg : Has w g 112 [.string ⟨l.toArray⟩]) :
    Calls Tryd.prog 88 #[.pointer (some ⟨g, 0, none⟩)] w fun e w' => e = .returned (.agg #[.int .u64 (x.seq : Nat), .int .i64 x.tick, .int .i64 x.part, .int .i64 x.kind, .int .i64 x.a, .int .i64 x.b]) ∧ Moved w w' g r :=
  event_ok g l r x hl h w hg

set_option maxHeartbeats 1600000 in
set_option maxRecDepth 100000 in
theorem row_yes (g many : Nat) (l left : List UInt8) (evs : List Ev) (hl : l.length ≤ 20000) (hk : evK many l = some (evs, left)) (hm : many ≤ 256) (w : World) (hg : Has w g 112 [.string ⟨l.toArray⟩]) :
    Calls Tryd.prog 87 #[.int .u64 (many : Nat), .func (.func 88) #[.pointer (some ⟨g, 0, none⟩)] #[]] w fun e w' => ∃ v, e = .returned v ∧ OwnE w.heap.size v evs w' ∧ Moved w w' g left := by
  have hlt := hg.lt
  have HK := Lib.hid hk
  have HG := Lib.hid hg
  have H0 := Lib.hid (show evK 0 l = some ([], l) from rfl)
  have d1 : (many : Int) ≤ 256 := by omega
  clear hk hg
  go_enter Tryd.func87, Tryd.ntmps87
  go_wp2_with fail
  refine (must_yes _).mono ?_; rintro e w2 ⟨rfl, rfl⟩
  go_wp2_with fail
  go_loopw [5, 10] (fun v i wr => ∃ (k : Nat) (acc : List Ev) (r : List UInt8), k ≤ many ∧ i = .int .u64 (k : Nat) ∧ Hid (evK k l = some (acc, r)) ∧ OwnE w.heap.size v acc wr ∧ Moved w wr g r) (fun _ i _ => many - (intOf i).toNat)
  case atStart => exact ⟨0, [], l, by omega, rfl, H0, OwnE.nil _ _, Moved.start HG.out⟩
  case round =>
    clear H0 HG
    obtain ⟨k, acc, r, hkm, rfl, hk, hO, hM⟩ := hrel
    have HO := Lib.hid hO
    have HM := Lib.hid hM
    have hal := evK_length hk.out
    have hrl := evK_len hk.out
    clear hO hM
    by_cases h : k < many
    · have h' : (k : Int) < (many : Int) := by omega
      cases h1 : oneO r with
      | none =>
        have := evK_stop hk.out h1 (many - k - 1)
        rw [show k + 1 + (many - k - 1) = many by omega, HK.out] at this
        cases this
      | some p =>
        obtain ⟨x, r'⟩ := p
        have HN := Lib.hid (evK_next hk.out h1)
        have HC := Lib.hid (event_ok2 g r r' x (by omega) h1 _ HM.out.has)
        have hs1 := HM.out.only.size
        clear h1
        go_wp2_with fail
        refine HC.out.mono ?_; rintro e w1 ⟨rfl, hM1⟩
        have HO1 := Lib.hid (HO.out.only hM1.only hlt)
        have HM1 := Lib.hid (show Moved w w1 g r' from ⟨hM1.has, HM.out.only.trans hM1.only⟩)
        have hs2 := hM1.only.size
        clear hM1
        go_wp2_with (refine wpList_pushE rfl _ _ rfl w.heap.size _ acc (by rfl) ⟨HO1.out.out.alloc _⟩ (some ⟨w1.heap.size, 0, none⟩) 1 1 [x] (by rfl) rfl (evSl_one (Has.make w1 _ (evc x))) (by simp) (by omega) (by simp; omega) ?_; intro v' w' hO' hB')
        go_roundw
        case rel => exact ⟨k + 1, acc ++ [x], r', by omega, by go_num, HN, hO', HM1.out.over (((Below.refl w.heap.size w1).alloc (by omega) _).trans hB') hlt⟩
        case measure => simp [intOf]; omega
    · obtain rfl : k = many := by omega
      obtain ⟨rfl, rfl⟩ : acc = evs ∧ r = left := by
        have := hk.out.symm.trans HK.out
        simpa using this
      go_wp2_with fail
      go_ret
      exact ⟨_, rfl, HO.out, HM.out⟩

theorem row_many (g many : Nat) (hm : 256 < many) (w : World) :
    Calls Tryd.prog 87 #[.int .u64 (many : Nat), .func (.func 88) #[.pointer (some ⟨g, 0, none⟩)] #[]] w fun e w' => e = .panicked [thrown] ∧ Only2 w w' g g := by
  have d1 : ¬ (many : Int) ≤ 256 := by omega
  have d2 : decide ((many : Int) ≤ 256) = false := by simp; omega
  go_enter Tryd.func87, Tryd.ntmps87
  go_wp2_with fail
  refine (must_no _).mono ?_; rintro e w2 ⟨rfl, rfl⟩
  exact ⟨rfl, rfl, Only2.refl _ _ _⟩

set_option maxHeartbeats 1600000 in
set_option maxRecDepth 100000 in
theorem row_no (g many : Nat) (l : List UInt8) (hl : l.length ≤ 20000) (hk : evK many l = none) (hm : many ≤ 256) (w : World) (hg : Has w g 112 [.string ⟨l.toArray⟩]) :
    Calls Tryd.prog 87 #[.int .u64 (many : Nat), .func (.func 88) #[.pointer (some ⟨g, 0, none⟩)] #[]] w fun e w' => e = .panicked [thrown] ∧ Only2 w w' g g := by
  have hlt := hg.lt
  have HK := Lib.hid hk
  have HG := Lib.hid hg
  have H0 := Lib.hid (show evK 0 l = some ([], l) from rfl)
  have d1 : (many : Int) ≤ 256 := by omega
  clear hk hg
  go_enter Tryd.func87, Tryd.ntmps87
  go_wp2_with fail
  refine (must_yes _).mono ?_; rintro e w2 ⟨rfl, rfl⟩
  go_wp2_with fail
  go_loopw [5, 10] (fun v i wr => ∃ (k : Nat) (acc : List Ev) (r : List UInt8), k ≤ many ∧ i = .int .u64 (k : Nat) ∧ Hid (evK k l = some (acc, r)) ∧ OwnE w.heap.size v acc wr ∧ Moved w wr g r) (fun _ i _ => many - (intOf i).toNat)
  case atStart => exact ⟨0, [], l, by omega, rfl, H0, OwnE.nil _ _, Moved.start HG.out⟩
  case round =>
    clear H0 HG
    obtain ⟨k, acc, r, hkm, rfl, hk, hO, hM⟩ := hrel
    have HO := Lib.hid hO
    have HM := Lib.hid hM
    have hal := evK_length hk.out
    have hrl := evK_len hk.out
    clear hO hM
    by_cases h : k < many
    · have h' : (k : Int) < (many : Int) := by omega
      cases h1 : oneO r with
      | none =>
        have HC := Lib.hid (event_no g r (by omega) h1 _ HM.out.has)
        clear h1
        go_wp2_with fail
        refine HC.out.mono ?_; rintro e w1 ⟨rfl, hM1⟩
        exact ⟨rfl, rfl, HM.out.only.trans hM1⟩
      | some p =>
        obtain ⟨x, r'⟩ := p
        have HN := Lib.hid (evK_next hk.out h1)
        have HC := Lib.hid (event_ok2 g r r' x (by omega) h1 _ HM.out.has)
        have hs1 := HM.out.only.size
        clear h1
        go_wp2_with fail
        refine HC.out.mono ?_; rintro e w1 ⟨rfl, hM1⟩
        have HO1 := Lib.hid (HO.out.only hM1.only hlt)
        have HM1 := Lib.hid (show Moved w w1 g r' from ⟨hM1.has, HM.out.only.trans hM1.only⟩)
        have hs2 := hM1.only.size
        clear hM1
        go_wp2_with (refine wpList_pushE rfl _ _ rfl w.heap.size _ acc (by rfl) ⟨HO1.out.out.alloc _⟩ (some ⟨w1.heap.size, 0, none⟩) 1 1 [x] (by rfl) rfl (evSl_one (Has.make w1 _ (evc x))) (by simp) (by omega) (by simp; omega) ?_; intro v' w' hO' hB')
        go_roundw
        case rel => exact ⟨k + 1, acc ++ [x], r', by omega, by go_num, HN, hO', HM1.out.over (((Below.refl w.heap.size w1).alloc (by omega) _).trans hB') hlt⟩
        case measure => simp [intOf]; omega
    · obtain rfl : k = many := by omega
      have := hk.out.symm.trans HK.out
      cases this

end Go.Proofs.YthhcopeejhhpgaaDoor
