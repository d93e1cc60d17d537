/- What a call may leave of memory, by the blocks that it may write to. -/
import Derived.Test.YthhcopeejhhpgaaDoorMemory
import Derived.Deep.AppendLies
import Derived.Lib.Hide
import Derived.Lib.LazyBuf
import Derived.Lib.SliceRun
namespace Go.Proofs.YthhcopeejhhpgaaDoor
open Go.RowKit

/-- All blocks that were there are as they were, but those of which F speaks. -/
structure Save (F : Nat → Prop) (w w' : World) : Prop where
  os : w'.os = w.os
  tape : w'.tape = w.tape
  output : w'.output = w.output
  size : w.heap.size ≤ w'.heap.size
  block : ∀ k, k < w.heap.size → ¬ F k → w'.heap[k]? = w.heap[k]?

/-- Blocks of which F speaks, and all new ones. -/
def Grow (F : Nat → Prop) (w : World) (k : Nat) : Prop := F k ∨ w.heap.size ≤ k

theorem Save.refl (F : Nat → Prop) (w : World) : Save F w w := ⟨rfl, rfl, rfl, Nat.le_refl _, fun _ _ _ => rfl⟩
theorem Save.trans {F : Nat → Prop} {a b c : World} (h : Save F a b) (k : Save (Grow F a) b c) : Save F a c :=
  ⟨k.os.trans h.os, k.tape.trans h.tape, k.output.trans h.output, Nat.le_trans h.size k.size, fun i hi hF =>
    (k.block i (Nat.lt_of_lt_of_le hi h.size) (fun hg => by rcases hg with hg | hg; exact hF hg; omega)).trans (h.block i hi hF)⟩
theorem Save.mono {F G : Nat → Prop} {w w' : World} (h : Save F w w') (hFG : ∀ k, k < w.heap.size → F k → G k) : Save G w w' :=
  ⟨h.os, h.tape, h.output, h.size, fun k hk hG => h.block k hk fun hF => hG (hFG k hk hF)⟩
theorem Save.up {F : Nat → Prop} {w w' : World} (h : Below w.heap.size w w') : Save F w w' := ⟨h.os, h.tape, h.output, h.size, fun k hk _ => h.block k hk⟩
theorem Save.below {F : Nat → Prop} {w w' : World} {B : Nat} (h : Save F w w') (hF : ∀ k, F k → B ≤ k) (hB : B ≤ w.heap.size) : Below B w w' :=
  ⟨h.os, h.tape, h.output, h.size, fun k hk => h.block k (Nat.lt_of_lt_of_le hk hB) fun hf => by have := hF k hf; omega⟩
theorem Save.least {w w' : World} (h : Save (fun _ => False) w w') : Below w.heap.size w w' := h.below (fun _ h => h.elim) (Nat.le_refl _)
theorem Save.on {F : Nat → Prop} {a b c : World} (h : Save F a b) (k : Below b.heap.size b c) : Save F a c := h.trans (Save.up k)
theorem Save.has {F : Nat → Prop} {w w' : World} {g : Nat} {t : TypeId} {l : List Value} (h : Save F w w') (hg : Has w g t l) (hF : ¬ F g) : Has w' g t l := (h.block g hg.lt hF).trans hg
theorem Save.alloc {F : Nat → Prop} {a w : World} (h : Save F a w) (o : Obj) : Save F a (w.alloc o) := h.on ((Below.refl _ _).alloc (Nat.le_refl _) o)
theorem Save.drew {F : Nat → Prop} {a w : World} (h : Save F a w) : Save F a w.drew := ⟨h.os, h.tape, h.output, h.size, h.block⟩
theorem Save.drewN {F : Nat → Prop} {a w : World} (h : Save F a w) (n : Nat) : Save F a (w.drewN n) := ⟨h.os, h.tape, h.output, h.size, h.block⟩
theorem Save.setCell {F : Nat → Prop} {a w : World} (h : Save F a w) {p : Addr} (hp : Grow F a p.block) (v : Value) : Save F a (w.setCell p v) :=
  ⟨h.os, h.tape, h.output, by have := h.size; simpa [World.setCell] using this, fun k hk hF => by
    rw [Below.heap_setCell _ _ _ _ (fun e => by subst e; rcases hp with hp | hp; exact hF hp; omega)]
    exact h.block k hk hF⟩
theorem Save.setCells {F : Nat → Prop} {b : Nat} : ∀ (vs : List Value) (o : Nat) {a w : World}, Save F a w → Grow F a b → Save F a (w.setCells b o vs)
  | [], _, _, _, h, _ => h
  | v :: vs, o, a, w, h, hb => by
    rw [World.setCells]
    exact Save.setCells vs (o + 1) (h.setCell (p := ⟨b, o, none⟩) hb v) hb
theorem Save.grown {F : Nat → Prop} {a w w' : World} {row : Option Nat} (h : Save F a w) (hg : w.grownBy w' row) (hr : ∀ k, row = some k → Grow F a k) : Save F a w' :=
  ⟨hg.os.trans h.os, hg.tape.trans h.tape, hg.output.trans h.output, Nat.le_trans h.size hg.size, fun k hk hF =>
    (hg.block k (Nat.lt_of_lt_of_le hk h.size) (fun e => by rcases hr k e.symm with h' | h'; exact hF h'; omega)).trans (h.block k hk hF)⟩

theorem Grow.grow {F : Nat → Prop} {w w' : World} (h : w.heap.size ≤ w'.heap.size) {k : Nat} (hk : Grow (Grow F w) w' k) : Grow F w k := by
  rcases hk with hk | hk
  · exact hk
  · exact Or.inr (Nat.le_trans h hk)

theorem Has.ne {w : World} {g g' : Nat} {t t' : TypeId} {l l' : List Value} (h : Has w g t l) (h' : Has w g' t' l') (ht : t ≠ t') : g ≠ g' := by
  intro e
  subst e
  have h1 : some (Obj.cells l.toArray t (0, 0)) = some (Obj.cells l'.toArray t' (0, 0)) := h.symm.trans h'
  simp at h1
  exact ht h1.2

theorem Has.same {w : World} {g : Nat} {t t' : TypeId} {l l' : List Value} (h : Has w g t l) (h' : Has w g t' l') : t = t' := by
  have h1 : some (Obj.cells l.toArray t (0, 0)) = some (Obj.cells l'.toArray t' (0, 0)) := h.symm.trans h'
  simp at h1
  exact h1.2

theorem Save.one (w : World) (b i : Nat) (v : Value) : Save (fun k => k = b) w (w.setCell ⟨b, i, none⟩ v) := (Save.refl (fun k => k = b) w).setCell (p := ⟨b, i, none⟩) (Or.inl rfl) v
theorem Save.row (w : World) (b o : Nat) (vs : List Value) : Save (fun k => k = b) w (w.setCells b o vs) := (Save.refl _ w).setCells vs o (Or.inl rfl)
theorem Save.push {w w' : World} {row : Option Nat} (h : w.grownBy w' row) : Save (fun k => row = some k) w w' := (Save.refl _ w).grown h (fun _ hk => Or.inl hk)

/-- A row that the call owns, where its block was left alone. -/
theorem Save.own {R : Nat → Prop} {w w' : World} {B e s n : Nat} {v : Value} {xs : List Value} (s' : Save R w w') (h : w.ownsRow B e s v n xs) (hR : ∀ g, v.ownBlock = some g → ¬ R g) : w'.ownsRow B e s v n xs := by
  obtain ⟨h0, h1 | ⟨g, cap, cur, hv, hg, hh, hr⟩⟩ := h
  · exact ⟨h0, Or.inl h1⟩
  · refine ⟨h0, Or.inr ⟨g, cap, cur, hv, hg, ?_, hr⟩⟩
    subst hv
    exact (s'.block g (lt_of_block hh) (hR g rfl)).trans hh

end Go.Proofs.YthhcopeejhhpgaaDoor
