/- A body, read: the contract of batch.read. -/
import Derived.Test.YtalfmkgcelipdaaDoorBatF
import Derived.Test.YtalfmkgcelipdaaDoorBase
namespace Go.Proofs.YtalfmkgcelipdaaDoor
open Go.RowKit Wire Evt Bat

theorem results_cell_cell {fn : Func} {p u : Tmp} {ty ty' : TypeId} (h : fn.results = #[.cell p ty, .cell u ty']) (tmps : Array Value) (P : Program) (w : World) :
    (results fn tmps).run P w =
      ((asAddr (tmps.getD p undef)).run P w).andThen fun a w₁ => ((loadVar ty a).run P w₁).andThen fun v w₂ => ((asAddr (tmps.getD u undef)).run P w₂).andThen fun a' w₃ => ((loadVar ty' a').run P w₃).andThen fun v' w₄ => .ok (.tuple #[v, v']) w₄ := by
  simp only [results, h]
  simp [Sem.run_bind, Result.andThen]

/-- The results of a function that gives a batch and an error, both captured. -/
theorem results_bat {fn : Func} {p u : Tmp} (h : fn.results = #[.cell p 27, .cell u 29]) (tmps : Array Value) (w : World) (gb ge : Nat) (L : List Value) (v : Value)
    (hp : tmps.getD p undef = .pointer (some ⟨gb, 0, none⟩)) (hu : tmps.getD u undef = .pointer (some ⟨ge, 0, none⟩)) (hB : Has w gb 27 L) (hL : L.length = 34) (hE : Has w ge 29 [v]) :
    (results fn tmps).run Tryd.prog w = .ok (.tuple #[.agg L.toArray, v]) w := by
  have hi : (Tryd.prog.info? 27).map (·.size) = some L.toArray.size := by rw [List.size_toArray, hL, info_batch]
  have h1 := run_loadVar_row (P := Tryd.prog) w gb 27 27 L.toArray (0, 0) _ hB Tryd.underlying27 rfl hi
  have h2 := hE.at (i := 0) rfl
  have h3 : (loadVar 29 ⟨ge, 0, none⟩).run Tryd.prog w = .ok v w := by simp [go_sem, h2]
  rw [results_cell_cell h, hp, hu]
  simp [asAddr, h1, h3]

/-- Where batch.read stands: the batch, the error, and the reader's text. -/
structure Rd (w w1 : World) (L : List Value) (l : List UInt8) : Prop where
  B : Has w1 w.heap.size 27 L
  E : Has w1 (w.heap.size + 1) 29 [.int .i64 0]
  R : Has w1 (w.heap.size + 1 + 1) 79 [.string ⟨l.toArray⟩]
  below : Below w.heap.size w w1

/-- .. where a reader has thrown. -/
structure Rp (w w1 : World) (L : List Value) : Prop where
  B : Has w1 w.heap.size 27 L
  E : Has w1 (w.heap.size + 1) 29 [.int .i64 0]
  below : Below w.heap.size w w1

theorem Rd.next {w w1 w2 : World} {L : List Value} {l l' : List UInt8} (h : Rd w w1 L l) (m : Moved w1 w2 (w.heap.size + 1 + 1) l') : Rd w w2 L l' :=
  ⟨m.only.keep (by omega) (by omega) h.B, m.only.keep (by omega) (by omega) h.E, m.has, m.only.below (by omega) (by omega) h.below.size h.below⟩
theorem Rd.lost {w w1 w2 : World} {L : List Value} {l : List UInt8} (h : Rd w w1 L l) (o : Only2 w1 w2 (w.heap.size + 1 + 1) (w.heap.size + 1 + 1)) : Rp w w2 L :=
  ⟨o.keep (by omega) (by omega) h.B, o.keep (by omega) (by omega) h.E, o.below (by omega) (by omega) h.below.size h.below⟩
theorem Rd.up {w w1 w2 : World} {L : List Value} {l : List UInt8} (h : Rd w w1 L l) (hb : Below w1.heap.size w1 w2) : Rd w w2 L l :=
  ⟨h.B.up hb, h.E.up hb, h.R.up hb, up_trans h.below hb⟩
theorem Rd.set {w w1 : World} {L : List Value} {l : List UInt8} (h : Rd w w1 L l) (i : Nat) (v : Value) : Rd w (w1.setCell ⟨w.heap.size, i, none⟩ v) (L.set i v) l :=
  ⟨h.B.set i v, h.E.other (p := ⟨w.heap.size, i, none⟩) (by simp) v, h.R.other (p := ⟨w.heap.size, i, none⟩) (by simp; omega) v, h.below.setCell (p := ⟨w.heap.size, i, none⟩) (Nat.le_refl _) v⟩
theorem Rd.only {w w1 w2 : World} {L L' : List Value} {l : List UInt8} (h : Rd w w1 L l) (hF : Has w2 w.heap.size 27 L') (o : Only w1 w2 w.heap.size) : Rd w w2 L' l :=
  ⟨hF, o.keep (by omega) h.E, o.keep (by omega) h.R, o.below (Nat.le_refl _) h.below⟩
theorem Rd.plain {w w1 : World} {L : List Value} {l : List UInt8} (h : Rd w w1 L l) : Rp w w1 L := ⟨h.B, h.E, h.below⟩

/-- THE DOOR, where something was thrown: the closure recovers. -/
theorem door_panic {w w1 : World} {L : List Value} {R : Ending → World → Prop} (tmps : Array Value) (h : Rp w w1 L) (hL : L.length = 34) (h2 : tmps.getD 2 undef = .pointer (some ⟨w.heap.size, 0, none⟩)) (h3 : tmps.getD 3 undef = .pointer (some ⟨w.heap.size + 1, 0, none⟩))
    (hR : ∀ w', Below w.heap.size w w' → R (.returned (.tuple #[.agg zbt.toArray, .int .i64 3])) w') :
    bodyPostD Tryd.prog Tryd.f30 R (.panic [thrown]) { tmps := tmps, defers := [{ target := .fn (.func 52) #[.pointer (some ⟨w.heap.size, 0, none⟩), .pointer (some ⟨w.heap.size + 1, 0, none⟩)], args := #[] }] } w1 := by
  have hz : zbt.length = 34 := btc_length _ _ (by simp)
  refine leaves_cons (f := 52) (args := #[.pointer (some ⟨w.heap.size, 0, none⟩), .pointer (some ⟨w.heap.size + 1, 0, none⟩)]) (by simp) (by simp [go_sem]) ?_
  refine (catch_yes w.heap.size (w.heap.size + 1) _ L hL (by omega) w1 h.B h.E).mono ?_
  rintro e u' w2 ⟨rfl, rfl, hB, hE, hO⟩
  simp only [settle, caught, List.dropWhile]
  exact ⟨_, results_bat Tryd.results30 tmps w2 _ _ zbt _ h2 h3 hB hz hE, hR w2 (hO.below (Nat.le_refl _) (by omega) h.below.size h.below)⟩

/-- THE DOOR, where nothing was. -/
theorem door_plain {w w1 : World} {L : List Value} {R : Ending → World → Prop} (tmps : Array Value) (h : Rp w w1 L) (hL : L.length = 34) (h2 : tmps.getD 2 undef = .pointer (some ⟨w.heap.size, 0, none⟩)) (h3 : tmps.getD 3 undef = .pointer (some ⟨w.heap.size + 1, 0, none⟩))
    (hR : R (.returned (.tuple #[.agg L.toArray, .int .i64 0])) w1) :
    bodyPostD Tryd.prog Tryd.f30 R .ret { tmps := tmps, defers := [{ target := .fn (.func 52) #[.pointer (some ⟨w.heap.size, 0, none⟩), .pointer (some ⟨w.heap.size + 1, 0, none⟩)], args := #[] }] } w1 := by
  refine leaves_cons (f := 52) (args := #[.pointer (some ⟨w.heap.size, 0, none⟩), .pointer (some ⟨w.heap.size + 1, 0, none⟩)]) (by simp) (by simp [go_sem]) ?_
  refine (catch_idle ⟨w.heap.size, 0, none⟩ ⟨w.heap.size + 1, 0, none⟩ w1).mono ?_
  rintro e u' w2 ⟨rfl, rfl, rfl⟩
  exact ⟨_, results_bat Tryd.results30 tmps w2 _ _ L _ h2 h3 h.B hL h.E, hR⟩

theorem Rd.start (w : World) (l : List UInt8) : Rd w (((w.alloc (.cells zbt.toArray 27)).alloc (.cells #[.int .i64 0] 29)).alloc (.cells #[.string ⟨l.toArray⟩] 79)) zbt l :=
  ⟨((Has.make w _ _).alloc _).alloc _, (Has.make2 w _ _ [.int .i64 0]).alloc _, Has.make3 w _ _ _ [.string ⟨l.toArray⟩], up_alloc (up_alloc (up_alloc (Below.refl _ _) _) _) _⟩

theorem btc_prev (first : Nat) (v : Value) {p q : List UInt8} (hp : p.length = 32) : (btc first v p).take 2 ++ bys q ++ (btc first v p).drop (2 + 32) = btc first v q := by
  have : (btc first v p).drop (2 + 32) = [] := List.drop_of_length_le (by rw [btc_length _ _ hp]; omega)
  rw [this, List.append_nil]
  rfl

/-- What a body's reading gives. -/
def BreadPost (l : List UInt8) (w : World) (e : Ending) (w' : World) : Prop :=
  Below w.heap.size w w' ∧ match rdB l with
    | none => e = .returned (.tuple #[.agg zbt.toArray, .int .i64 3])
    | some b => ∃ v, e = .returned (.tuple #[.agg (btc b.first v b.prev).toArray, .int .i64 0]) ∧ OwnE w.heap.size v b.evs w'
theorem bread_bad {l : List UInt8} {w w' : World} (h : rdB l = none) (hb : Below w.heap.size w w') : BreadPost l w (.returned (.tuple #[.agg zbt.toArray, .int .i64 3])) w' := by
  unfold BreadPost
  rw [h]
  exact ⟨hb, rfl⟩

theorem rdB_short {l : List UInt8} (h : l.length < 32) : rdB l = none := by rw [rdB, if_pos h]
theorem rdB_first {l : List UInt8} (h : 32 ≤ l.length) (h1 : numO (l.drop 32) = none) : rdB l = none := by rw [rdB, if_neg (by omega), h1]
theorem rdB_num {l l1 : List UInt8} {first : Nat} (h : 32 ≤ l.length) (h1 : numO (l.drop 32) = some (first, l1)) (h2 : numO l1 = none) : rdB l = none := by
  rw [rdB, if_neg (by omega), h1]; simp only [h2]
theorem rdB_many {l l1 l2 : List UInt8} {first many : Nat} (h : 32 ≤ l.length) (h1 : numO (l.drop 32) = some (first, l1)) (h2 : numO l1 = some (many, l2)) (h3 : 256 < many) : rdB l = none := by
  rw [rdB, if_neg (by omega), h1]; simp only [h2]; rw [if_pos h3]
theorem rdB_row {l l1 l2 : List UInt8} {first many : Nat} (h : 32 ≤ l.length) (h1 : numO (l.drop 32) = some (first, l1)) (h2 : numO l1 = some (many, l2)) (h3 : many ≤ 256) (h4 : evK many l2 = none) : rdB l = none := by
  rw [rdB, if_neg (by omega), h1]; simp only [h2]; rw [if_neg (by omega), h4]
theorem rdB_end {l l1 l2 l3 : List UInt8} {first many : Nat} {evs : List Ev} (h : 32 ≤ l.length) (h1 : numO (l.drop 32) = some (first, l1)) (h2 : numO l1 = some (many, l2)) (h3 : many ≤ 256) (h4 : evK many l2 = some (evs, l3)) :
    rdB l = if l3 = [] ∧ isB first evs = true then some ⟨first, evs, l.take 32⟩ else none := by
  rw [rdB, if_neg (by omega), h1]; simp only [h2]; rw [if_neg (by omega), h4]

end Go.Proofs.YtalfmkgcelipdaaDoor
