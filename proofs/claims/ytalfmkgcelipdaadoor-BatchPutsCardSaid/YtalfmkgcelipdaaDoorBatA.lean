/- A body's readers: contracts of batch.must and of the methods number and event of batch.reader. -/
import Derived.Test.YtalfmkgcelipdaaDoorPureBat
import Derived.Test.YtalfmkgcelipdaaDoorEvGetB
import Derived.Test.YtalfmkgcelipdaaDoorEvRunA
import Derived.Test.YtalfmkgcelipdaaDoorWires
import Derived.WalkLawsBesides
namespace Go.Proofs.YtalfmkgcelipdaaDoor
open Go.RowKit Wire Evt Bat

/-- What is thrown where a body is no batch's. -/
def thrown : PanicEntry := { v := .iface 29 (.int .i64 3), recovered := false }

theorem must_yes (w : World) : Calls Tryd.prog 57 #[.bool true] w fun e w' => e = .returned (.tuple #[]) ∧ w = w' := by
  go_enter Tryd.func57, Tryd.ntmps57
  go_wp2
  go_end0
  exact ⟨rfl, rfl⟩
theorem must_no (w : World) : Calls Tryd.prog 57 #[.bool false] w fun e w' => e = .panicked [thrown] ∧ w = w' := by
  go_enter Tryd.func57, Tryd.ntmps57
  go_wp2
  exact ⟨rfl, rfl, rfl⟩

/-- What a reader's method leaves: its text is l, all else is as it was. -/
structure Moved (w w' : World) (g : Nat) (l : List UInt8) : Prop where
  has : Has w' g 79 [.string ⟨l.toArray⟩]
  only : Only2 w w' g g

theorem Only2.up2 {w w1 w' : World} {g g2 : Nat} (h : Only2 w w1 g g2) (hb : Below w1.heap.size w1 w') : Only2 w w' g g2 :=
  ⟨Nat.le_trans h.size hb.size, fun h1 h2 k => (h.keep h1 h2 k).up hb, fun h1 h2 hB k => (h.below h1 h2 hB k).trans (hb.mono (Nat.le_trans hB h.size))⟩
theorem Only2.trans {w w1 w' : World} {g g2 : Nat} (h : Only2 w w1 g g2) (h' : Only2 w1 w' g g2) : Only2 w w' g g2 :=
  ⟨Nat.le_trans h.size h'.size, fun h1 h2 k => h'.keep h1 h2 (h.keep h1 h2 k), fun h1 h2 hB k => h'.below h1 h2 (Nat.le_trans hB h.size) (h.below h1 h2 hB k)⟩

theorem num_str (l : List UInt8) (h : l.length ≤ 20000) : (⟨l.toArray⟩ : ByteArray).size ≤ maxLen := by
  rw [text_list]; unfold maxLen; omega

set_option maxRecDepth 100000 in
theorem number_yes (g : Nat) (l : List UInt8) (hl : l.length ≤ 20000) (h0 : (tk l).2.2 = 0) (w : World) (hg : Has w g 79 [.string ⟨l.toArray⟩]) :
    Calls Tryd.prog 54 #[.pointer (some ⟨g, 0, none⟩)] w fun e w' => e = .returned (.int .u64 ((tk l).1 : Nat)) ∧ Moved w w' g (tk l).2.1 := by
  have c := fun w => take_any ⟨l.toArray⟩ (num_str l hl) w
  rw [show (⟨l.toArray⟩ : ByteArray).data.toList = l from rfl, h0] at c
  generalize (tk l).1 = v at *
  generalize (tk l).2.1 = r at *
  have C := Lib.hid c
  have f1 := hg.at (i := 0) rfl
  have HG := Lib.hid hg
  clear c hg h0
  go_enter Tryd.func54, Tryd.ntmps54
  go_wp2_with fail
  refine (C.out _).mono ?_; rintro e w1 ⟨rfl, b1⟩
  have G1 := Lib.hid (HG.out.up b1)
  have O1 := Lib.hid (Only2.up (g := g) (g2 := g) b1)
  clear b1
  have g1 := G1.out.at (i := 0) rfl
  have g2 := G1.out.free 0
  go_wp2_with fail
  refine (must_yes _).mono ?_; rintro e w2 ⟨rfl, rfl⟩
  go_wp2_with fail
  go_ret
  exact ⟨rfl, G1.out.set 0 _, O1.out.set (Or.inl rfl) _⟩

set_option maxRecDepth 100000 in
theorem number_no (g : Nat) (l : List UInt8) (hl : l.length ≤ 20000) (h0 : (tk l).2.2 ≠ 0) (w : World) (hg : Has w g 79 [.string ⟨l.toArray⟩]) :
    Calls Tryd.prog 54 #[.pointer (some ⟨g, 0, none⟩)] w fun e w' => e = .panicked [thrown] ∧ Only2 w w' g g := by
  have c := fun w => take_any ⟨l.toArray⟩ (num_str l hl) w
  rw [show (⟨l.toArray⟩ : ByteArray).data.toList = l from rfl] at c
  generalize (tk l).1 = v at *
  generalize (tk l).2.1 = r at *
  generalize (tk l).2.2 = k at *
  have d : ((k : Int) == 0) = false := by rw [beq_eq_false_iff_ne]; omega
  have C := Lib.hid c
  have f1 := hg.at (i := 0) rfl
  clear c hg h0
  go_enter Tryd.func54, Tryd.ntmps54
  go_wp2_with fail
  refine (C.out _).mono ?_; rintro e w1 ⟨rfl, b1⟩
  have O1 := Lib.hid (Only2.up (g := g) (g2 := g) b1)
  clear b1
  go_wp2_with fail
  refine (must_no _).mono ?_; rintro e w2 ⟨rfl, rfl⟩
  exact ⟨rfl, rfl, O1.out⟩

end Go.Proofs.YtalfmkgcelipdaaDoor
