/- Numbers taken one behind the other: the contract of the closure event.Get$1, which keeps what is left and the first error. -/
import Derived.Test.YtalfmkgcelipdaaDoorEvA
import Derived.Test.YtalfmkgcelipdaaDoorWires
import Derived.Lib.Hide
namespace Go.Proofs.YtalfmkgcelipdaaDoor
open Go.RowKit Wire Evt

/-- What stores into two blocks leave: all else as it was. -/
structure Only2 (w w' : World) (g g2 : Nat) : Prop where
  size : w.heap.size ≤ w'.heap.size
  keep : ∀ {g' : Nat} {t : TypeId} {l : List Value}, g' ≠ g → g' ≠ g2 → Has w g' t l → Has w' g' t l
  below : ∀ {B : Nat} {a : World}, B ≤ g → B ≤ g2 → B ≤ w.heap.size → Below B a w → Below B a w'

theorem Only2.refl (w : World) (g g2 : Nat) : Only2 w w g g2 := ⟨Nat.le_refl _, fun _ _ h => h, fun _ _ _ h => h⟩
theorem Only2.up {w w' : World} {g g2 : Nat} (h : Below w.heap.size w w') : Only2 w w' g g2 := ⟨h.size, fun _ _ k => k.up h, fun _ _ hB k => k.trans (h.mono hB)⟩
theorem Only2.set {w w' : World} {g g2 : Nat} (h : Only2 w w' g g2) {b i : Nat} (hb : b = g ∨ b = g2) (v : Value) : Only2 w (w'.setCell ⟨b, i, none⟩ v) g g2 :=
  ⟨by simpa [World.setCell] using h.size, fun h1 h2 k => (h.keep h1 h2 k).other (by rcases hb with rfl | rfl <;> simpa using by assumption) v,
   fun h1 h2 hB k => (h.below h1 h2 hB k).setCell (by rcases hb with rfl | rfl <;> assumption) v⟩

theorem tk_stp {q : List UInt8 × Nat} (h : q.2 = 0) : stp q = (tk q.1).2 ∧ vlu q = (tk q.1).1 := by rw [stp, if_pos h, vlu, if_pos h]; exact ⟨rfl, rfl⟩
theorem tk_not {q : List UInt8 × Nat} (h : q.2 ≠ 0) : stp q = q ∧ vlu q = 0 := by rw [stp, if_neg h, vlu, if_neg h]; exact ⟨rfl, rfl⟩

set_option maxRecDepth 100000 in
theorem closure_any (q : List UInt8 × Nat) (hq : q.1.length ≤ 140737488355327) (gf gr : Nat) (hne : gf ≠ gr) (w : World) (hF : Has w gf 29 [.int .i64 (q.2 : Nat)]) (hR : Has w gr 9 [.string ⟨q.1.toArray⟩]) :
    Calls Tryd.prog 80 #[.pointer (some ⟨gf, 0, none⟩), .pointer (some ⟨gr, 0, none⟩)] w fun e w' => e = .returned (.int .u64 (vlu q : Nat)) ∧ Has w' gf 29 [.int .i64 ((stp q).2 : Nat)] ∧ Has w' gr 9 [.string ⟨(stp q).1.toArray⟩] ∧ Only2 w w' gf gr := by
  obtain ⟨l, e⟩ := q
  simp only at hq hF hR
  by_cases h0 : e = 0
  · subst h0
    obtain ⟨h1, h2⟩ := tk_stp (q := (l, 0)) rfl
    simp only at h1 h2
    rw [h1, h2]
    have c := fun w => take_any ⟨l.toArray⟩ (by show l.toArray.size ≤ maxLen; unfold maxLen; simp; omega) w
    rw [show (⟨l.toArray⟩ : ByteArray).data.toList = l from rfl] at c
    generalize tk l = p at *
    obtain ⟨v, r, e⟩ := p
    simp only at c
    have C := Lib.hid c
    have f1 := hF.at (i := 0) rfl
    have f2 := hR.at (i := 0) rfl
    have HF := Lib.hid hF
    have HR := Lib.hid hR
    clear c hF hR h1 h2
    go_enter Tryd.func80, Tryd.ntmps80
    go_wp2_with fail
    refine (C.out _).mono ?_; rintro e' w1 ⟨rfl, b1⟩
    have F1 := Lib.hid (HF.out.up b1)
    have R1 := Lib.hid (HR.out.up b1)
    have O1 := Lib.hid (Only2.up (g := gf) (g2 := gr) b1)
    have g1 := F1.out.at (i := 0) rfl
    have g2 := R1.out.at (i := 0) rfl
    have g3 := F1.out.free 0
    have g4 := R1.out.free 0
    have hne' := hne.symm
    go_wp2_with fail
    go_ret
    exact ⟨rfl, (F1.out.other hne _).set 0 _, (R1.out.set 0 _).other hne.symm _, (O1.out.set (Or.inr rfl) _).set (Or.inl rfl) _⟩
  · obtain ⟨h1, h2⟩ := tk_not (q := (l, e)) h0
    rw [h1, h2]
    have f1 := hF.at (i := 0) rfl
    have d : ((e : Int) == 0) = false := by rw [beq_eq_false_iff_ne]; omega
    have HF := Lib.hid hF
    have HR := Lib.hid hR
    clear hF hR h1 h2
    go_enter Tryd.func80, Tryd.ntmps80
    go_wp2_with fail
    go_ret
    exact ⟨rfl, HF.out, HR.out, Only2.refl _ _ _⟩

end Go.Proofs.YtalfmkgcelipdaaDoor
