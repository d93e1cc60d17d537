/- What a law's inputs read as: slices of ints, slices of bools. -/
import Derived.Test.YtbkieheebilopaaWrittenB
import Derived.Test.YtbkieheebilopaaOuter
import Derived.ChangeSlices
import Derived.Deep.Grids
namespace Go.Proofs.Ytbkieheebilopaa
open Go.ChangeShapes Go.WideShapes Go.ChangeAt Go.RowKit Sec

section
variable {H : Type} {enc : TypeId × Value → H} {w : World}

theorem plain_spot {a : Addr} {v : Value} (h : w.cell? a = some v) : a = ⟨a.block, a.off, none⟩ := by
  obtain ⟨b, o, s⟩ := a
  cases s with
  | none => rfl
  | some s =>
    exfalso
    unfold World.cell? at h
    split at h
    · simp at h
    · cases h

theorem add_plain (g o j : Nat) : (⟨g, o, none⟩ : Addr).add j = ⟨g, o + j, none⟩ := by
  unfold Addr.add
  split
  · next h => rw [h, Nat.add_zero]
  · rfl

/-- A slice that reads as a slice of ints has them. -/
theorem ints_of_trod {base fuel : Nat} {held : Bool} {sp : Nat → Bool} {cs : List Value} {x : DataW H × List MemPlace} (h : DataW.trod enc Try.prog w base sp held fuel 22 cs = some x) :
    ∃ (A : Option Addr) (l : List Int) (cap : Nat), cs = [.slice A l.length cap] ∧ l.length ≤ 9223372036854775807 ∧ InSl w A l := by
  rcases open_ints Try.underlying22 Try.underlying3 (by kernel_rfl) h with ⟨rfl, _⟩ | ⟨a, len, cap, zs, rfl, _, hl, hm, hz, _, hcell, _⟩
  · exact ⟨none, [], 0, rfl, by simp, ⟨fun hl => by simp at hl⟩⟩
  · have hlz : len ≤ zs.length := by rw [hz]; split <;> omega
    have hlen : (zs.take len).length = len := by rw [List.length_take]; omega
    refine ⟨some a, zs.take len, cap, by rw [hlen], by rw [hlen]; unfold maxLen at hm; omega, ⟨fun hp => ?_⟩⟩
    rw [hlen] at hp
    have c0 := hcell 0 (by omega)
    have e0 : a.add 0 = a := by unfold Addr.add; simp
    rw [e0] at c0
    have ha := plain_spot c0
    obtain ⟨g, o, s⟩ := a
    obtain rfl : s = none := by injection ha
    refine ⟨g, o, rfl, fun i y hy => ?_⟩
    rw [List.getElem?_take] at hy
    split at hy
    · next hi =>
      have hiz : i < zs.length := (List.getElem?_eq_some_iff.1 hy).1
      have := hcell i hiz
      rw [add_plain, List.getD_eq_getElem?_getD, hy] at this
      exact this
    · cases hy

/-- A slice that reads as a slice of bools has them. -/
theorem bools_of_trod {base fuel : Nat} {held : Bool} {cs : List Value} {x : DataW H × List MemPlace} (h : DataW.trod enc Try.prog w base (fun _ => true) held fuel 23 cs = some x) :
    ∃ (A : Option Addr) (l : List Bool) (cap : Nat), cs = [.slice A l.length cap] ∧ l.length ≤ 9223372036854775807 ∧ BoSl w A l := by
  rcases Go.Deep.open_bools Try.underlying23 Try.underlying4 (by kernel_rfl) h with ⟨rfl, _⟩ | ⟨a, len, cap, B, rfl, _, hl, hm, _, hcell⟩
  · exact ⟨none, [], 0, rfl, by simp, ⟨fun hl => by simp at hl⟩⟩
  · have hlen : ((List.range len).map B).length = len := by simp
    refine ⟨some a, (List.range len).map B, cap, by rw [hlen], by rw [hlen]; unfold maxLen at hm; omega, ⟨fun hp => ?_⟩⟩
    rw [hlen] at hp
    have c0 := hcell 0 (by omega)
    have e0 : a.add 0 = a := by unfold Addr.add; simp
    rw [e0] at c0
    have ha := plain_spot c0
    obtain ⟨g, o, s⟩ := a
    obtain rfl : s = none := by injection ha
    refine ⟨g, o, rfl, fun i y hy => ?_⟩
    have hi : i < len := by
      have := (List.getElem?_eq_some_iff.1 hy).1
      simpa using this
    have h1 := hcell i (by omega)
    rw [add_plain] at h1
    simp [hi] at hy
    subst hy
    exact h1
end

end Go.Proofs.Ytbkieheebilopaa
