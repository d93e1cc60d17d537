/- Bytes of a text in a block of their own, that are written to and turned into a text again. -/
import Derived.Test.YthhcopeejhhpgaaDoorText
import Derived.Test.YthhcopeejhhpgaaDoorPureFour
import Derived.Laws.IdiomStrings
import Derived.StillTailTactics
namespace Go.Proofs.YthhcopeejhhpgaaDoor
open Go.RowKit Wire Bat

/-- Bytes in a block of their own, that may be written. -/
structure RowB (w : World) (g : Nat) (l : List UInt8) : Prop where
  cell : ∀ j x, l[j]? = some x → w.cell? ⟨g, j, none⟩ = some (.int .u8 (x.toNat : Int))
  free : ∀ j, j < l.length → w.frozen? ⟨g, j, none⟩ = false

theorem RowB.set {w : World} {g : Nat} {l : List UInt8} (h : RowB w g l) {i : Nat} (hi : i < l.length) (x : UInt8) : RowB (w.setCell ⟨g, i, none⟩ (.int .u8 (x.toNat : Int))) g (l.set i x) := by
  refine ⟨fun j y hy => ?_, fun j hj => ?_⟩
  · by_cases hij : i = j
    · subst hij
      rw [List.getElem?_set_self hi] at hy
      cases hy
      exact World.cell?_setCell_same _ _ _ (h.cell i l[i] (List.getElem?_eq_getElem hi))
    · rw [List.getElem?_set_ne hij] at hy
      rw [World.cell?_setCell_other _ _ _ _ (fun e => hij (congrArg Addr.off e))]
      exact h.cell j y hy
  · rw [World.frozen?_setCell]
    exact h.free j (by simpa using hj)

theorem bytesRow_at (s : ByteArray) (cap j : Nat) (x : UInt8) (h : s.data.toList[j]? = some x) : (bytesRow s cap)[j]? = some (.int .u8 (x.toNat : Int)) := by
  have hj : j < s.data.size := by
    have := (List.getElem?_eq_some_iff.1 h).1
    simpa using this
  have hx : s.data[j]? = some x := by rw [← Array.getElem?_toList]; exact h
  unfold bytesRow
  rw [Array.getElem?_append_left (by simpa using hj)]
  simp [hx]

theorem RowB.made (w : World) (s : ByteArray) (cap : Nat) (e : TypeId) : RowB (w.drew.alloc (.cells (bytesRow s cap) e ((bytesRow s cap).size, (bytesRow s cap).size + 1))) w.heap.size s.data.toList := by
  have hh : (w.drew.alloc (.cells (bytesRow s cap) e ((bytesRow s cap).size, (bytesRow s cap).size + 1))).heap[w.heap.size]? = some (.cells (bytesRow s cap) e ((bytesRow s cap).size, (bytesRow s cap).size + 1)) := heap_alloc_new w.drew _
  refine ⟨fun j x hx => ?_, fun j hj => ?_⟩
  · unfold World.cell?
    simp only [hh]
    exact bytesRow_at s cap j x hx
  · have hl : (bytesRow s cap).size = s.size + (cap - s.size) := by simp [bytesRow]
    rw [list_size] at hj
    unfold World.frozen?
    simp only [hh]
    rw [hl]
    simp
    omega

theorem RowB.drew {w : World} {g : Nat} {l : List UInt8} (h : RowB w g l) : RowB w.drew g l := ⟨h.cell, h.free⟩

theorem RowB.text {w : World} {g cap : Nat} {l : List UInt8} (h : RowB w g l) : (convert 51 9 (.slice (some ⟨g, 0, none⟩) l.length cap)).run Tryd.prog w = .ok (.string ⟨l.toArray⟩) w := by
  refine run_convert_bytes_back (P := Tryd.prog) w 51 9 5 ⟨g, 0, none⟩ cap l Tryd.underlying51 Tryd.underlying5 Tryd.underlying9 ?_
  intro j hj
  have hadd : (⟨g, 0, none⟩ : Addr).add j = ⟨g, j, none⟩ := by unfold Addr.add; split <;> simp_all
  rw [hadd]
  exact h.cell j _ (List.getElem?_eq_getElem hj)

theorem bent_at (c : Nat) (c0 c1 c2 c3 : UInt8) {j : Nat} (h : j < 4) : at4b (c0 ^^^ byb c 0) (c1 ^^^ byb c 1) (c2 ^^^ byb c 2) (c3 ^^^ byb c 3) j = at4b c0 c1 c2 c3 j ^^^ byt c j := by
  match j, h with
  | 0, _ => rfl
  | 1, _ => rfl
  | 2, _ => rfl
  | 3, _ => rfl

theorem xor_u8 (x y : UInt8) : bits .xor .u8 (x.toNat : Int) (y.toNat : Int) = (((x ^^^ y).toNat : Nat) : Int) := by
  rw [u8_xor_nat x.toNat y.toNat x.toNat_lt y.toNat_lt, UInt8.toNat_xor]

end Go.Proofs.YthhcopeejhhpgaaDoor
