/- What the laws' inputs read as: a batch. -/
import Derived.Test.YtalfmkgcelipdaaDoorSlOuter
import Derived.Test.YtalfmkgcelipdaaDoorBatE
namespace Go.Proofs.YtalfmkgcelipdaaDoor
open Go.ChangeShapes Go.WideShapes Go.ChangeAt Go.RowKit Evt Bat

theorem cells_bat : Tryd.prog.cellsOf 27 = 34 := by kernel_rfl
theorem cells_evs : Tryd.prog.cellsOf 23 = 1 := by kernel_rfl
theorem cells_dig : Tryd.prog.cellsOf 25 = 32 := by kernel_rfl
theorem cells_u8 : Tryd.prog.cellsOf 5 = 1 := by kernel_rfl

theorem nums_bys : ∀ l : List Nat, (∀ m ∈ l, m < 256) → nums .u8 l = bys (l.map UInt8.ofNat)
  | [], _ => rfl
  | m :: l, h => by
    have hm : m < 256 := h m (by simp)
    have ih := nums_bys l fun x hx => h x (by simp [hx])
    simp only [nums, bys, List.map_cons, List.map_map] at ih ⊢
    rw [ih]
    have : (UInt8.ofNat m).toNat = m := by simp; omega
    rw [this]

section
variable {H : Type} {enc : TypeId × Value → H} {w : World} {base : Nat} {sp : Nat → Bool} {held : Bool}

set_option maxRecDepth 100000 in
/-- Cells that read as a batch are a batch's. -/
theorem bt_of_trod {fuel : Nat} {cs : List Value} {x : DataW H × List MemPlace} (h : DataW.trod enc Tryd.prog w base sp held fuel 27 cs = some x) :
    ∃ (b : Bt) (A : Option Addr) (cap : Nat), cs = btc b.first (.slice A b.evs.length cap) b.prev ∧ b.Fits ∧ b.evs.length ≤ cap ∧ EvSl w A b.evs := by
  obtain ⟨xs, n, _, _, hlen, hxl, hf⟩ := DataW.trod_struct Tryd.underlying27 h
  rw [cells_bat] at hlen
  have hy : ∀ i, i < 3 → ∃ z, xs[i]? = some z := fun i hi => ⟨_, List.getElem?_eq_getElem (by rw [hxl]; exact hi)⟩
  have g0 : DataW.trod enc Tryd.prog w base sp held n 22 ((cs.drop 0).take (Tryd.prog.cellsOf 22)) = xs[0]? := hf 0 _ rfl
  have g1 : DataW.trod enc Tryd.prog w base sp held n 23 ((cs.drop 1).take (Tryd.prog.cellsOf 23)) = xs[1]? := hf 1 _ rfl
  have g2 : DataW.trod enc Tryd.prog w base sp held n 25 ((cs.drop 2).take (Tryd.prog.cellsOf 25)) = xs[2]? := hf 2 _ rfl
  rw [cells_u64] at g0
  rw [cells_evs] at g1
  rw [cells_dig] at g2
  obtain ⟨m0, e0, w0⟩ := num_at Tryd.underlying22 (hy 0 (by omega)) g0
  have hb := bounds_u64 w0
  obtain ⟨z1, hz1⟩ := hy 1 (by omega)
  obtain ⟨z2, hz2⟩ := hy 2 (by omega)
  rw [hz1] at g1
  rw [hz2] at g2
  obtain ⟨A, l, cap, hc, hcap, _, hseq, hsl⟩ := sl_of_trod g1
  have e1 := one_of hc
  obtain ⟨d, hd, hdl, hdw⟩ := nums_of_trod Tryd.underlying25 Tryd.underlying5 cells_u8 cells_dig (fun z hz => (bounds_u8 hz).1) g2
  have hd2 : (cs.drop 2).take 32 = bys (d.map UInt8.ofNat) := by
    rw [hd, nums_bys d fun m hm => wf_small8 (hdw m hm)]
  have hd3 : cs.drop 2 = bys (d.map UInt8.ofNat) := by
    rw [← hd2, List.take_of_length_le (by rw [List.length_drop]; omega)]
  refine ⟨⟨m0.toNat, l, d.map UInt8.ofNat⟩, A, cap, ?_, ⟨by show m0.toNat < _; omega, by simp [hdl], hseq⟩, hcap, hsl⟩
  have em : ((m0.toNat : Nat) : Int) = m0 := by omega
  match cs, hlen with
  | c0 :: c1 :: r, _ =>
    simp only [List.getElem?_cons_zero, List.getElem?_cons_succ, Option.some.injEq] at e0 e1
    simp only [List.drop_succ_cons, List.drop_zero] at hd3
    simp only [btc, em, e0, e1, hd3]
end

end Go.Proofs.YtalfmkgcelipdaaDoor
