/- What the laws' inputs read as: events, slices of events. -/
import Derived.Test.YthhcopeejhhpgaaDoorOwnE
import Derived.Test.YthhcopeejhhpgaaDoorOuter
import Derived.Lib.LaidTab
import Derived.Deep.Slices
namespace Go.Proofs.YthhcopeejhhpgaaDoor
open Go.ChangeShapes Go.WideShapes Go.ChangeAt Go.RowKit Evt

theorem cells_ev : Tryd.prog.cellsOf 47 = 6 := by kernel_rfl
section
variable {H : Type} {enc : TypeId × Value → H} {w : World} {base : Nat} {sp : Nat → Bool} {held : Bool}

set_option maxRecDepth 100000 in
/-- Cells that read as an event are an event's. -/
theorem ev_of_trod {fuel : Nat} {cs : List Value} {x : DataW H × List MemPlace} (h : DataW.trod enc Tryd.prog w base sp held fuel 47 cs = some x) : ∃ e : Ev, cs = evc e ∧ e.seq < 18446744073709551616 := by
  obtain ⟨xs, n, _, _, hlen, hxl, hf⟩ := DataW.trod_struct Tryd.underlying47 h
  rw [cells_ev] at hlen
  have hy : ∀ i, i < 6 → ∃ z, xs[i]? = some z := fun i hi => ⟨_, List.getElem?_eq_getElem (by rw [hxl]; exact hi)⟩
  have g0 : DataW.trod enc Tryd.prog w base sp held n 25 ((cs.drop 0).take (Tryd.prog.cellsOf 25)) = xs[0]? := hf 0 _ rfl
  have g1 : DataW.trod enc Tryd.prog w base sp held n 3 ((cs.drop 1).take (Tryd.prog.cellsOf 3)) = xs[1]? := hf 1 _ rfl
  have g2 : DataW.trod enc Tryd.prog w base sp held n 3 ((cs.drop 2).take (Tryd.prog.cellsOf 3)) = xs[2]? := hf 2 _ rfl
  have g3 : DataW.trod enc Tryd.prog w base sp held n 3 ((cs.drop 3).take (Tryd.prog.cellsOf 3)) = xs[3]? := hf 3 _ rfl
  have g4 : DataW.trod enc Tryd.prog w base sp held n 3 ((cs.drop 4).take (Tryd.prog.cellsOf 3)) = xs[4]? := hf 4 _ rfl
  have g5 : DataW.trod enc Tryd.prog w base sp held n 3 ((cs.drop 5).take (Tryd.prog.cellsOf 3)) = xs[5]? := hf 5 _ rfl
  rw [cells_u64] at g0
  rw [cells_int] at g1 g2 g3 g4 g5
  obtain ⟨m0, e0, w0⟩ := num_at Tryd.underlying25 (hy 0 (by omega)) g0
  obtain ⟨m1, e1, _⟩ := num_at Tryd.underlying3 (hy 1 (by omega)) g1
  obtain ⟨m2, e2, _⟩ := num_at Tryd.underlying3 (hy 2 (by omega)) g2
  obtain ⟨m3, e3, _⟩ := num_at Tryd.underlying3 (hy 3 (by omega)) g3
  obtain ⟨m4, e4, _⟩ := num_at Tryd.underlying3 (hy 4 (by omega)) g4
  obtain ⟨m5, e5, _⟩ := num_at Tryd.underlying3 (hy 5 (by omega)) g5
  have hb := bounds_u64 w0
  refine ⟨⟨m0.toNat, m1, m2, m3, m4, m5⟩, ?_, by show m0.toNat < _; omega⟩
  have em : ((m0.toNat : Nat) : Int) = m0 := by omega
  match cs, hlen with
  | [c0, c1, c2, c3, c4, c5], _ =>
    simp only [List.getElem?_cons_zero, List.getElem?_cons_succ, Option.some.injEq] at e0 e1 e2 e3 e4 e5
    simp only [evc, em, e0, e1, e2, e3, e4, e5]

theorem spot_none {a : Addr} {v : Value} (h : w.cell? a = some v) : a = ⟨a.block, a.off, none⟩ := by
  obtain ⟨b, o, s⟩ := a
  cases s with
  | none => rfl
  | some s =>
    exfalso
    unfold World.cell? at h
    split at h
    · simp at h
    · cases h

set_option maxRecDepth 100000 in
/-- A slice that reads as a slice of events has them. -/
theorem sl_of_trod {fuel : Nat} {cs : List Value} {x : DataW H × List MemPlace} (h : DataW.trod enc Tryd.prog w base sp held fuel 24 cs = some x) :
    ∃ (A : Option Addr) (l : List Ev) (cap : Nat), cs = [.slice A l.length cap] ∧ l.length ≤ cap ∧ (A = none → cap = 0) ∧ (∀ e ∈ l, e.seq < 18446744073709551616) ∧ EvSl w A l := by
  rcases Go.Deep.open_slice Tryd.underlying24 h with ⟨rfl, _⟩ | ⟨a, len, cap, m, n, D, Pl, rfl, hb, hl, hm, hmm, _, hi⟩
  · exact ⟨none, [], 0, rfl, by simp, fun _ => rfl, by simp, fun hl => by simp at hl⟩
  · have hlm : len ≤ m := by rw [hmm]; split <;> omega
    have each : ∀ i, i < len → ∃ e : Ev, e.seq < 18446744073709551616 ∧ ∀ j v, (evc e)[j]? = some v → w.cell? ((a.add (i * 6)).add j) = some v := by
      intro i hil
      obtain ⟨cs', h1, h2⟩ := hi i (by omega)
      rw [cells_ev] at h1
      obtain ⟨e, rfl, hs⟩ := ev_of_trod h2
      obtain ⟨_, hlen, hat⟩ := World.cells?_some h1
      refine ⟨e, hs, fun j v hv => ?_⟩
      have hj : j < (evc e).length := (List.getElem?_eq_some_iff.1 hv).1
      have hj6 : j < 6 := hj
      rw [hat j hj6]
      exact hv
    have hc : ∃ f : Nat → Ev, ∀ i, i < len → (f i).seq < 18446744073709551616 ∧ ∀ j v, (evc (f i))[j]? = some v → w.cell? ((a.add (i * 6)).add j) = some v := by
      refine ⟨fun i => if h : i < len then Classical.choose (each i h) else ⟨0, 0, 0, 0, 0, 0⟩, fun i h => ?_⟩
      simp only [dif_pos h]
      exact Classical.choose_spec (each i h)
    obtain ⟨f, hf⟩ := hc
    refine ⟨some a, (List.range len).map f, cap, by simp, by simpa using hl, (fun h => by cases h), ?_, ?_⟩
    · intro e he
      obtain ⟨i, hi, rfl⟩ := List.mem_map.1 he
      exact (hf i (by simpa using hi)).1
    · intro hp
      have h0 : 0 < len := by simpa using hp
      have c0 := (hf 0 h0).2 0 _ rfl
      simp only [Nat.zero_mul, Addr.add, if_true] at c0
      have ha := spot_none c0
      obtain ⟨g, o, s⟩ := a
      obtain rfl : s = none := by injection ha
      refine ⟨g, o, rfl, fun i y hy j v hv => ?_⟩
      have hil : i < len := by
        have := (List.getElem?_eq_some_iff.1 hy).1
        simpa using this
      obtain rfl : f i = y := by simpa [hil] using hy
      have := (hf i hil).2 j v hv
      rw [ad_add, ad_add] at this
      exact this
end

end Go.Proofs.YthhcopeejhhpgaaDoor
