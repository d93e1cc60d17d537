/- A block of memory that is known whole: what becomes of it behind draws, new blocks, stores, and calls that write nothing old. -/
import Derived.Test.YtalfmkgcelipdaaKit
import Derived.Below
import Derived.Laws.OwnMore
import Derived.Deep.Draws
import Derived.Laws.Rows
import Derived.Deep.MidRow
namespace Go.Proofs.Ytalfmkgcelipdaa
open Go.RowKit

/-- Block g is just these cells, and each may be written. -/
def Has (w : World) (g : Nat) (t : TypeId) (l : List Value) : Prop := w.heap[g]? = some (.cells l.toArray t (0, 0))

theorem Has.lt {w : World} {g : Nat} {t : TypeId} {l : List Value} (h : Has w g t l) : g < w.heap.size := by
  refine Nat.lt_of_not_le fun hge => ?_
  have h' : w.heap[g]? = some _ := h
  rw [Array.getElem?_eq_none hge] at h'
  cases h'
theorem Has.cell {w : World} {g : Nat} {t : TypeId} {l : List Value} (h : Has w g t l) (i : Nat) : w.cell? ⟨g, i, none⟩ = l[i]? := by
  rw [cell_of_row w g i _ t (0, 0) h]; simp
theorem Has.at {w : World} {g : Nat} {t : TypeId} {l : List Value} (h : Has w g t l) {i : Nat} {v : Value} (hi : l[i]? = some v) : w.cell? ⟨g, i, none⟩ = some v := (h.cell i).trans hi
theorem Has.free {w : World} {g : Nat} {t : TypeId} {l : List Value} (h : Has w g t l) (i : Nat) : w.frozen? ⟨g, i, none⟩ = false := frozen_of_row w g i _ t h
theorem Has.make (w : World) (t : TypeId) (l : List Value) : Has (w.alloc (.cells l.toArray t)) w.heap.size t l := heap_alloc_new w _
theorem Has.make2 (w : World) (o : Obj) (t : TypeId) (l : List Value) : Has ((w.alloc o).alloc (.cells l.toArray t)) (w.heap.size + 1) t l := heap_alloc2_new w o _
theorem Has.make3 (w : World) (o p : Obj) (t : TypeId) (l : List Value) : Has (((w.alloc o).alloc p).alloc (.cells l.toArray t)) (w.heap.size + 1 + 1) t l := by
  have := heap_alloc2_new (w.alloc o) p (.cells l.toArray t)
  rwa [show (w.alloc o).heap.size = w.heap.size + 1 by simp] at this
theorem Has.drew {w : World} {g : Nat} {t : TypeId} {l : List Value} (h : Has w g t l) : Has w.drew g t l := h
theorem Has.drewN {w : World} {g : Nat} {t : TypeId} {l : List Value} (h : Has w g t l) (n : Nat) : Has (w.drewN n) g t l := h
theorem Has.alloc {w : World} {g : Nat} {t : TypeId} {l : List Value} (h : Has w g t l) (o : Obj) : Has (w.alloc o) g t l := (Below.heap_alloc w o g h.lt).trans h
theorem Has.other {w : World} {g : Nat} {t : TypeId} {l : List Value} (h : Has w g t l) {p : Addr} (hp : g ≠ p.block) (v : Value) : Has (w.setCell p v) g t l := (Below.heap_setCell w p v g hp).trans h
theorem Has.set {w : World} {g : Nat} {t : TypeId} {l : List Value} (h : Has w g t l) (i : Nat) (v : Value) : Has (w.setCell ⟨g, i, none⟩ v) g t (l.set i v) := by
  have := heap_setCell_same w g i l.toArray t v h
  unfold Has
  rw [this]
  simp
theorem Has.below {w w' : World} {g B : Nat} {t : TypeId} {l : List Value} (h : Has w g t l) (hb : Below B w w') (hg : g < B) : Has w' g t l := (hb.block g hg).trans h
theorem Has.up {w w' : World} {g : Nat} {t : TypeId} {l : List Value} (h : Has w g t l) (hb : Below w.heap.size w w') : Has w' g t l := h.below hb h.lt
theorem Has.range {w : World} {g : Nat} {t : TypeId} {l : List Value} (h : Has w g t l) (o n : Nat) : w.rangeAt g o ((l.drop o).take n) := fun j v hv => by
  rw [h.cell]
  rw [List.getElem?_take] at hv
  split at hv
  · rwa [List.getElem?_drop] at hv
  · cases hv
theorem Has.whole {w : World} {g : Nat} {t : TypeId} {l : List Value} (h : Has w g t l) : w.rangeAt g 0 l := fun j v hv => by
  rw [h.cell, Nat.zero_add]; exact hv
theorem Has.there {w : World} {g : Nat} {t : TypeId} {l : List Value} (h : Has w g t l) (o n : Nat) (hn : o + n ≤ l.length) : w.there g o n := fun j hj => by
  rw [h.cell, List.getElem?_eq_getElem (by omega)]
  exact ⟨rfl, h.free _⟩

theorem Has.setCells {g : Nat} {t : TypeId} : ∀ (vs : List Value) (o : Nat) {w : World} {l : List Value}, Has w g t l → o + vs.length ≤ l.length → Has (w.setCells g o vs) g t (l.take o ++ vs ++ l.drop (o + vs.length))
  | [], o, w, l, h, _ => by simpa [World.setCells] using h
  | v :: vs, o, w, l, h, hl => by
    have hl' : o + (vs.length + 1) ≤ l.length := hl
    have ih := Has.setCells vs (o + 1) (h.set o v) (by simp; omega)
    rw [World.setCells]
    have e1 : (l.set o v).take (o + 1) = l.take o ++ [v] := by
      rw [List.take_succ_eq_append_getElem (by simp; omega), List.take_set]
      rw [List.set_eq_of_length_le (by simp; omega)]
      simp
    have e2 : (l.set o v).drop (o + 1 + vs.length) = l.drop (o + (v :: vs).length) := by
      rw [List.drop_set_of_lt (by omega)]
      congr 1
      simp; omega
    rw [e1, e2] at ih
    simpa using ih

theorem Has.setWhole {g : Nat} {t : TypeId} {w : World} {l vs : List Value} (h : Has w g t l) (hl : vs.length = l.length) : Has (w.setCells g 0 vs) g t vs := by
  have := Has.setCells vs 0 h (by omega)
  simpa [hl] using this

theorem Has.setOther {g b : Nat} {t : TypeId} (hb : g ≠ b) : ∀ (vs : List Value) (o : Nat) {w : World} {l : List Value}, Has w g t l → Has (w.setCells b o vs) g t l
  | [], _, _, _, h => h
  | v :: vs, o, w, l, h => by
    rw [World.setCells]
    exact Has.setOther hb vs (o + 1) (h.other (p := ⟨b, o, none⟩) hb v)

theorem below_setCells {B b : Nat} (hb : B ≤ b) : ∀ (vs : List Value) (o : Nat) {a w : World}, Below B a w → Below B a (w.setCells b o vs)
  | [], _, _, _, h => h
  | v :: vs, o, a, w, h => by
    rw [World.setCells]
    exact below_setCells hb vs (o + 1) (h.setCell (p := ⟨b, o, none⟩) hb v)

theorem size_setCells (b : Nat) : ∀ (vs : List Value) (o : Nat) (w : World), (w.setCells b o vs).heap.size = w.heap.size
  | [], _, _ => rfl
  | v :: vs, o, w => by
    rw [World.setCells, size_setCells b vs (o + 1)]
    simp [World.setCell]

theorem below_drewN {B : Nat} {a w : World} (h : Below B a w) (n : Nat) : Below B a (w.drewN n) := ⟨h.os, h.tape, h.output, h.size, h.block⟩

/-- What a store into the whole of one block leaves: that block's new cells, and all else as it was. -/
structure Only (w w' : World) (g : Nat) : Prop where
  size : w'.heap.size = w.heap.size
  keep : ∀ {g' : Nat} {t : TypeId} {l : List Value}, g' ≠ g → Has w g' t l → Has w' g' t l
  below : ∀ {B : Nat} {a : World}, B ≤ g → Below B a w → Below B a w'

/-- THE STORE of a value of as many cells as a block has into the whole of it: the world behind it is a letter. -/
theorem wpList_store_whole {P : Program} {ops : Array Oper} {rest : List Oper} {op : Oper} {a : Act} {w : World} {Q : Exit → Act → World → Prop} (hgd : op.guard = none) (ty : TypeId) (x y : Operand) (ho : op.op = .store ty x y)
    (g : Nat) (t : TypeId) (l vs : List Value) (hx : a.eval x = .pointer (some ⟨g, 0, none⟩)) (hy : a.eval y = .agg vs.toArray) (hg : Has w g t l) (hl : vs.length = l.length)
    (hi : (P.info? ty).map (·.size) = some vs.length) (h1 : ∀ v ∈ vs, v.oneCell' = true)
    (h : ∀ w', Has w' g t vs → Only w w' g → wpList P ops Q rest (a.put op.dst undef) w') : wpList P ops Q (op :: rest) a w :=
  wpList_store_mid hgd ty x y ho g 0 vs.toArray hx hy (hg.there 0 _ (by simp; omega)) (by simpa using hi) (all_oneCell_toArray h1)
    (h _ (hg.setWhole hl) ⟨size_setCells _ _ _ _, fun hne hk => hk.setOther hne vs 0, fun hB hb => below_setCells hB _ _ hb⟩)

/-- THE STORE into a part of a block. -/
theorem wpList_store_part {P : Program} {ops : Array Oper} {rest : List Oper} {op : Oper} {a : Act} {w : World} {Q : Exit → Act → World → Prop} (hgd : op.guard = none) (ty : TypeId) (x y : Operand) (ho : op.op = .store ty x y)
    (g o : Nat) (t : TypeId) (l vs : List Value) (hx : a.eval x = .pointer (some ⟨g, o, none⟩)) (hy : a.eval y = .agg vs.toArray) (hg : Has w g t l) (hl : o + vs.length ≤ l.length)
    (hi : (P.info? ty).map (·.size) = some vs.length) (h1 : ∀ v ∈ vs, v.oneCell' = true)
    (h : ∀ w', Has w' g t (l.take o ++ vs ++ l.drop (o + vs.length)) → Only w w' g → wpList P ops Q rest (a.put op.dst undef) w') : wpList P ops Q (op :: rest) a w :=
  wpList_store_mid hgd ty x y ho g o vs.toArray hx hy (hg.there o _ (by simpa using hl)) (by simpa using hi) (all_oneCell_toArray h1)
    (h _ (Has.setCells vs o hg hl) ⟨size_setCells _ _ _ _, fun hne hk => hk.setOther hne vs o, fun hB hb => below_setCells hB _ _ hb⟩)

/-- Numbers of one kind, as cells. -/
def nums (k : IntKind) (l : List Nat) : List Value := l.map fun n => .int k (n : Nat)
theorem nums_length (k : IntKind) (l : List Nat) : (nums k l).length = l.length := by simp [nums]
theorem nums_one (k : IntKind) (l : List Nat) : ∀ v ∈ nums k l, v.oneCell' = true := by
  intro v hv
  obtain ⟨n, _, rfl⟩ := List.mem_map.1 hv
  rfl
theorem nums_at (k : IntKind) (l : List Nat) {i : Nat} (h : i < l.length) : (nums k l)[i]? = some (.int k (l[i] : Nat)) := by simp [nums, h]

end Go.Proofs.Ytalfmkgcelipdaa
