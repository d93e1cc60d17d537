/- What the laws' inputs read as: heads and supers. -/
import Derived.Test.YtfnjegjieglbbaaOuter
import Derived.Test.YtfnjegjieglbbaaHeadA
namespace Go.Proofs.Ytfnjegjieglbbaa
open Go.ChangeShapes Go.WideShapes Go.ChangeAt Go.RowKit Head

theorem cells_head : Try.prog.cellsOf 26 = 34 := by kernel_rfl
theorem cells_super : Try.prog.cellsOf 34 = 70 := by kernel_rfl

section
variable {H : Type} {enc : TypeId × Value → H} {w : World} {base : Nat} {sp : Nat → Bool} {held : Bool}

theorem cast_nat {m : Int} (h : 0 ≤ m) : ((m.toNat : Nat) : Int) = m := by omega

set_option maxRecDepth 100000 in
/-- Cells that read as a head are a head's. -/
theorem hd_of_trod {fuel : Nat} {cs : List Value} {x : DataW H × List MemPlace} (h : DataW.trod enc Try.prog w base sp held fuel 26 cs = some x) : ∃ d : Hd, cs = hdc d ∧ d.Fits := by
  obtain ⟨xs, n, _, _, hlen, hxl, hf⟩ := DataW.trod_struct Try.underlying26 h
  rw [cells_head] at hlen
  have hy : ∀ i, i < 3 → ∃ z, xs[i]? = some z := fun i hi => ⟨_, List.getElem?_eq_getElem (by rw [hxl]; exact hi)⟩
  have g0 : DataW.trod enc Try.prog w base sp held n 22 ((cs.drop 0).take (Try.prog.cellsOf 22)) = xs[0]? := hf 0 _ rfl
  have g1 : DataW.trod enc Try.prog w base sp held n 22 ((cs.drop 1).take (Try.prog.cellsOf 22)) = xs[1]? := hf 1 _ rfl
  have g2 : DataW.trod enc Try.prog w base sp held n 24 ((cs.drop 2).take (Try.prog.cellsOf 24)) = xs[2]? := hf 2 _ rfl
  rw [cells_u64] at g0 g1
  rw [cells_dig] at g2
  obtain ⟨m0, e0, w0⟩ := num_at Try.underlying22 (hy 0 (by omega)) g0
  obtain ⟨m1, e1, w1⟩ := num_at Try.underlying22 (hy 1 (by omega)) g1
  obtain ⟨d, hd, hdl⟩ := dig_at (hy 2 (by omega)) g2
  have b0 := bounds_u64 w0
  have b1 := bounds_u64 w1
  refine ⟨⟨m0.toNat, m1.toNat, d⟩, ?_, ⟨by show m0.toNat < _; omega, by show m1.toNat < _; omega, hdl⟩⟩
  have hd3 : cs.drop 2 = bys d := by rw [← hd, List.take_of_length_le (by rw [List.length_drop]; omega)]
  match cs, hlen with
  | c0 :: c1 :: r, _ =>
    simp only [List.getElem?_cons_zero, List.getElem?_cons_succ, Option.some.injEq] at e0 e1
    simp only [List.drop_succ_cons, List.drop_zero] at hd3
    simp only [hdc, cast_nat b0.1, cast_nat b1.1, e0, e1, hd3]

set_option maxRecDepth 100000 in
/-- Cells that read as a super are a super's. -/
theorem sp_of_trod {fuel : Nat} {cs : List Value} {x : DataW H × List MemPlace} (h : DataW.trod enc Try.prog w base sp held fuel 34 cs = some x) : ∃ d : Sp, cs = spc d ∧ d.Fits := by
  obtain ⟨xs, n, _, _, hlen, hxl, hf⟩ := DataW.trod_struct Try.underlying34 h
  rw [cells_super] at hlen
  have hy : ∀ i, i < 8 → ∃ z, xs[i]? = some z := fun i hi => ⟨_, List.getElem?_eq_getElem (by rw [hxl]; exact hi)⟩
  have g0 : DataW.trod enc Try.prog w base sp held n 22 ((cs.drop 0).take (Try.prog.cellsOf 22)) = xs[0]? := hf 0 _ rfl
  have g1 : DataW.trod enc Try.prog w base sp held n 22 ((cs.drop 1).take (Try.prog.cellsOf 22)) = xs[1]? := hf 1 _ rfl
  have g2 : DataW.trod enc Try.prog w base sp held n 22 ((cs.drop 2).take (Try.prog.cellsOf 22)) = xs[2]? := hf 2 _ rfl
  have g3 : DataW.trod enc Try.prog w base sp held n 24 ((cs.drop 3).take (Try.prog.cellsOf 24)) = xs[3]? := hf 3 _ rfl
  have g4 : DataW.trod enc Try.prog w base sp held n 22 ((cs.drop 35).take (Try.prog.cellsOf 22)) = xs[4]? := hf 4 _ rfl
  have g5 : DataW.trod enc Try.prog w base sp held n 22 ((cs.drop 36).take (Try.prog.cellsOf 22)) = xs[5]? := hf 5 _ rfl
  have g6 : DataW.trod enc Try.prog w base sp held n 22 ((cs.drop 37).take (Try.prog.cellsOf 22)) = xs[6]? := hf 6 _ rfl
  have g7 : DataW.trod enc Try.prog w base sp held n 24 ((cs.drop 38).take (Try.prog.cellsOf 24)) = xs[7]? := hf 7 _ rfl
  rw [cells_u64] at g0 g1 g2 g4 g5 g6
  rw [cells_dig] at g3 g7
  obtain ⟨m0, e0, w0⟩ := num_at Try.underlying22 (hy 0 (by omega)) g0
  obtain ⟨m1, e1, w1⟩ := num_at Try.underlying22 (hy 1 (by omega)) g1
  obtain ⟨m2, e2, w2⟩ := num_at Try.underlying22 (hy 2 (by omega)) g2
  obtain ⟨a, ha, hal⟩ := dig_at (hy 3 (by omega)) g3
  obtain ⟨m4, e4, w4⟩ := num_at Try.underlying22 (hy 4 (by omega)) g4
  obtain ⟨m5, e5, w5⟩ := num_at Try.underlying22 (hy 5 (by omega)) g5
  obtain ⟨m6, e6, w6⟩ := num_at Try.underlying22 (hy 6 (by omega)) g6
  obtain ⟨d, hd, hdl⟩ := dig_at (hy 7 (by omega)) g7
  have b0 := bounds_u64 w0
  have b1 := bounds_u64 w1
  have b2 := bounds_u64 w2
  have b4 := bounds_u64 w4
  have b5 := bounds_u64 w5
  have b6 := bounds_u64 w6
  refine ⟨⟨m0.toNat, m1.toNat, m2.toNat, a, m4.toNat, m5.toNat, m6.toNat, d⟩, ?_, ⟨by show m0.toNat < _; omega, by show m1.toNat < _; omega, by show m2.toNat < _; omega, hal, by show m4.toNat < _; omega, by show m5.toNat < _; omega, by show m6.toNat < _; omega, hdl⟩⟩
  have hd3 : cs.drop 38 = bys d := by rw [← hd, List.take_of_length_le (by rw [List.length_drop]; omega)]
  match cs, hlen with
  | c0 :: c1 :: c2 :: r, hlen =>
    simp only [List.getElem?_cons_zero, List.getElem?_cons_succ, Option.some.injEq] at e0 e1 e2
    have hrl : r.length = 67 := by simpa using hlen
    have ha' : r.take 32 = bys a := ha
    have f4 : (r.drop 32)[0]? = some (.int .u64 m4) := by rw [List.getElem?_drop]; exact e4
    have f5 : (r.drop 32)[1]? = some (.int .u64 m5) := by rw [List.getElem?_drop]; exact e5
    have f6 : (r.drop 32)[2]? = some (.int .u64 m6) := by rw [List.getElem?_drop]; exact e6
    have hd' : (r.drop 32).drop 3 = bys d := by rw [List.drop_drop]; exact hd3
    have hrr : r = bys a ++ r.drop 32 := by rw [← ha', List.take_append_drop]
    have htl : (r.drop 32).length = 35 := by rw [List.length_drop]; omega
    generalize r.drop 32 = t at *
    match t, htl with
    | d0 :: d1 :: d2 :: u, _ =>
      simp only [List.getElem?_cons_zero, List.getElem?_cons_succ, Option.some.injEq] at f4 f5 f6
      simp only [List.drop_succ_cons, List.drop_zero] at hd'
      simp only [spc, cast_nat b0.1, cast_nat b1.1, cast_nat b2.1, cast_nat b4.1, cast_nat b5.1, cast_nat b6.1]
      rw [hrr, e0, e1, e2, f4, f5, f6, hd']
end

end Go.Proofs.Ytfnjegjieglbbaa
