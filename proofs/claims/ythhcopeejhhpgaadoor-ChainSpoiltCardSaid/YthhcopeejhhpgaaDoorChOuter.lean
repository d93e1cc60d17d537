/- What the laws' inputs read as: slices of texts, slices of ints. -/
import Derived.Test.YthhcopeejhhpgaaDoorSlOuter
import Derived.Test.YthhcopeejhhpgaaDoorStrs
import Derived.Test.YthhcopeejhhpgaaDoorChRows
import Derived.ChangeSlices
import Derived.Deep.Strs
namespace Go.Proofs.YthhcopeejhhpgaaDoor
open Go.ChangeShapes Go.WideShapes Go.ChangeAt Go.RowKit

section
variable {H : Type} {enc : TypeId × Value → H} {w : World}

/-- A slice that reads as a slice of texts has them. -/
theorem strs_of_trod {base fuel : Nat} {held : Bool} {sp : Nat → Bool} {cs : List Value} {x : DataW H × List MemPlace} (h : DataW.trod enc Tryd.prog w base sp held fuel 34 cs = some x) :
    ∃ (A : Option Addr) (l : List (List UInt8)) (cap : Nat), cs = [.slice A l.length cap] ∧ l.length ≤ cap ∧ l.length ≤ 9223372036854775807 ∧ StSl w A l := by
  rcases Go.Deep.open_strs Tryd.underlying34 Tryd.underlying9 (by kernel_rfl) h with ⟨rfl, _⟩ | ⟨a, len, cap, m, Sx, rfl, _, hl, hm, hmm, _, hcell⟩
  · exact ⟨none, [], 0, rfl, Nat.le_refl _, by simp, ⟨fun hl => by simp at hl⟩⟩
  · have hlm : len ≤ m := by rw [hmm]; split <;> omega
    have hlen : ((List.range len).map fun i => (Sx i).data.toList).length = len := by simp
    refine ⟨some a, (List.range len).map fun i => (Sx i).data.toList, cap, by rw [hlen], by rw [hlen]; exact hl, by rw [hlen]; unfold maxLen at hm; omega, ⟨fun hp => ?_⟩⟩
    rw [hlen] at hp
    have c0 := (hcell 0 (by omega)).1
    have e0 : a.add 0 = a := by unfold Addr.add; simp
    rw [e0] at c0
    have ha := spot_none c0
    obtain ⟨g, o, s⟩ := a
    obtain rfl : s = none := by injection ha
    refine ⟨g, o, rfl, fun i y hy => ?_⟩
    rw [List.getElem?_map] at hy
    obtain ⟨j, hj, rfl⟩ := Option.map_eq_some_iff.1 hy
    obtain ⟨hi, hj2⟩ := List.getElem?_eq_some_iff.1 hj
    rw [List.length_range] at hi
    rw [List.getElem_range] at hj2
    subst hj2
    have := (hcell i (by omega)).1
    rw [ad_add] at this
    rw [this]

/-- A slice that reads as a slice of ints has them. -/
theorem zs_of_trod {base fuel : Nat} {held : Bool} {sp : Nat → Bool} {cs : List Value} {x : DataW H × List MemPlace} (h : DataW.trod enc Tryd.prog w base sp held fuel 43 cs = some x) :
    ∃ (A : Option Addr) (l : List Int) (cap : Nat), cs = [.slice A l.length cap] ∧ ZSl w A l := by
  rcases open_ints Tryd.underlying43 Tryd.underlying3 (by kernel_rfl) h with ⟨rfl, _⟩ | ⟨a, len, cap, zs, rfl, _, hl, hm, hz, _, hcell, _⟩
  · exact ⟨none, [], 0, rfl, ⟨fun hl => by simp at hl⟩⟩
  · have hlz : len ≤ zs.length := by rw [hz]; split <;> omega
    have hlen : (zs.take len).length = len := by rw [List.length_take]; omega
    refine ⟨some a, zs.take len, cap, by rw [hlen], ⟨fun hp => ?_⟩⟩
    rw [hlen] at hp
    have c0 := hcell 0 (by omega)
    have e0 : a.add 0 = a := by unfold Addr.add; simp
    rw [e0] at c0
    have ha := spot_none c0
    obtain ⟨g, o, s⟩ := a
    obtain rfl : s = none := by injection ha
    refine ⟨g, o, rfl, fun i y hy => ?_⟩
    rw [List.getElem?_take] at hy
    split at hy
    · next hi =>
      have hiz : i < zs.length := (List.getElem?_eq_some_iff.1 hy).1
      have := hcell i hiz
      rw [ad_add, List.getD_eq_getElem?_getD, hy] at this
      exact this
    · cases hy
end

end Go.Proofs.YthhcopeejhhpgaaDoor
