/- Rows of events: the plain functions. -/
import Derived.Test.YthhcopeejhhpgaaDoorPureEv
namespace Go.Proofs.YthhcopeejhhpgaaDoor.Evt

/-- An event's numbers. -/
structure Ev where
  seq : Nat
  tick : Int
  part : Int
  kind : Int
  a : Int
  b : Int

/-- Is it right? -/
def Ev.ok (x : Ev) : Bool := isE x.tick x.part x.kind x.a x.b
/-- Does it go on from the number ahead? -/
def on (p s : Nat) : Bool := decide (s ≠ 0) && decide (s - 1 = p)
theorem on_yes {p s : Nat} : on p s = true ↔ s = p + 1 := by
  simp only [on, Bool.and_eq_true, decide_eq_true_eq]
  omega
theorem on_no {p s : Nat} (h : s ≠ p + 1) : on p s = false := by
  cases h' : on p s with
  | false => rfl
  | true => exact absurd (on_yes.1 h') h

/-- Does a row run on from a number, or from nothing? -/
def runFrom : Option Nat → List Ev → Bool
  | _, [] => true
  | none, x :: l => x.ok && runFrom (some x.seq) l
  | some p, x :: l => x.ok && on p x.seq && runFrom (some x.seq) l
def runL (l : List Ev) : Bool := runFrom none l

/-- The last number, or what was ahead. -/
def lastOf (p : Option Nat) (l : List Ev) : Option Nat := l.foldl (fun _ x => some x.seq) p

theorem runFrom_append (l m : List Ev) : ∀ p, runFrom p (l ++ m) = (runFrom p l && runFrom (lastOf p l) m) := by
  induction l with
  | nil => intro p; cases p <;> simp [runFrom, lastOf]
  | cons x l ih =>
    intro p
    cases p with
    | none => rw [List.cons_append, runFrom, ih]; simp [runFrom, lastOf, Bool.and_assoc]
    | some q => rw [List.cons_append, runFrom, ih]; simp [runFrom, lastOf, Bool.and_assoc]

theorem lastOf_snoc (p : Option Nat) (l : List Ev) (x : Ev) : lastOf p (l ++ [x]) = some x.seq := by simp [lastOf]

theorem run_one (x : Ev) : ∀ p, runFrom p [x] = (x.ok && match p with | none => true | some q => on q x.seq)
  | none => by simp [runFrom]
  | some q => by simp [runFrom]

/-- A row's beginning, one event longer. -/
theorem run_next {l : List Ev} {k : Nat} {x : Ev} (hx : l[k]? = some x) : runL (l.take (k + 1)) = (runL (l.take k) && (x.ok && match lastOf none (l.take k) with | none => true | some q => on q x.seq)) := by
  have hk : k < l.length := (List.getElem?_eq_some_iff.1 hx).1
  have e : l.take (k + 1) = l.take k ++ [x] := by
    rw [List.take_succ_eq_append_getElem hk, (List.getElem?_eq_some_iff.1 hx).2]
  rw [e, runL, runFrom_append, run_one]
  rfl

theorem run_stop {l : List Ev} {k : Nat} (h : runL (l.take k) = false) : runL l = false := by
  have e : l = l.take k ++ l.drop k := (List.take_append_drop k l).symm
  rw [e, runL, runFrom_append]
  rw [runL] at h
  rw [h]; rfl

theorem last_zero (l : List Ev) : lastOf none (l.take 0) = none := by simp [lastOf]
theorem last_succ {l : List Ev} {k : Nat} {x : Ev} (hx : l[k]? = some x) : lastOf none (l.take (k + 1)) = some x.seq := by
  have hk : k < l.length := (List.getElem?_eq_some_iff.1 hx).1
  have e : l.take (k + 1) = l.take k ++ [x] := by
    rw [List.take_succ_eq_append_getElem hk, (List.getElem?_eq_some_iff.1 hx).2]
  rw [e, lastOf_snoc]

/-- What stands behind a number that is known: with the first one's number or without. -/
theorem runFrom_some (p : Nat) (x : Ev) (l : List Ev) : runFrom (some p) (x :: l) = (runL (x :: l) && on p x.seq) := by
  simp only [runL, runFrom]
  cases x.ok <;> cases on p x.seq <;> simp

theorem run_two {l : List Ev} {z x : Ev} {m : List Ev} : runL (l ++ [z] ++ (x :: m)) = (runL (l ++ [z]) && runL (x :: m) && on z.seq x.seq) := by
  rw [runL, runFrom_append, lastOf_snoc, runFrom_some, ← Bool.and_assoc]
  rfl

/-- Does a number go on from what is ahead, if there is anything? -/
def onB (p : Option Nat) (s : Nat) : Bool := match p with | none => true | some q => on q s
theorem step_bad {l : List Ev} {k : Nat} {x : Ev} (hx : l[k]? = some x) (h : x.ok = false) : runL l = false := by
  refine run_stop (k := k + 1) ?_
  rw [run_next hx, h]; simp
theorem step_on {l : List Ev} {k : Nat} {x : Ev} (hx : l[k]? = some x) (hr : runL (l.take k) = true) (h : x.ok = true) (ho : onB (lastOf none (l.take k)) x.seq = true) : runL (l.take (k + 1)) = true := by
  rw [run_next hx, h, hr]
  simpa [onB] using ho
theorem step_off {l : List Ev} {k : Nat} {x : Ev} (hx : l[k]? = some x) (ho : onB (lastOf none (l.take k)) x.seq = false) : runL l = false := by
  refine run_stop (k := k + 1) ?_
  rw [run_next hx]
  have : (match lastOf none (l.take k) with | none => true | some q => on q x.seq) = false := ho
  rw [this]; simp

end Go.Proofs.YthhcopeejhhpgaaDoor.Evt
