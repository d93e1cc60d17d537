/- Batches as bytes: the plain functions. -/
import Derived.Test.YtalfmkgcelipdaaDoorPureRun
import Derived.Test.YtalfmkgcelipdaaDoorPureCrc
namespace Go.Proofs.YtalfmkgcelipdaaDoor.Bat
open Wire Evt Crc

/-- A batch. -/
structure Bt where
  first : Nat
  evs : List Ev
  prev : List UInt8

/-- Its numbers have 64 bits, its sum 32 bytes. -/
structure Bt.Fits (b : Bt) : Prop where
  first : b.first < 18446744073709551616
  prev : b.prev.length = 32
  seqs : ∀ x ∈ b.evs, x.seq < 18446744073709551616

def headSeq (l : List Ev) : Nat := match l with | [] => 0 | x :: _ => x.seq

/-- Is a batch right? -/
def isB (first : Nat) (l : List Ev) : Bool := decide (1 ≤ l.length) && decide (l.length ≤ 256) && decide (headSeq l = first) && runL l
theorem isB_yes {first : Nat} {l : List Ev} : isB first l = true ↔ 1 ≤ l.length ∧ l.length ≤ 256 ∧ headSeq l = first ∧ runL l = true := by
  simp only [isB, Bool.and_eq_true, decide_eq_true_eq, and_assoc]

/-- An event's bytes, and its text's. -/
def enc (x : Ev) : List UInt8 := putE x.seq x.tick x.part x.kind x.a x.b
def evB (x : Ev) : List UInt8 := putL (enc x).length ++ enc x
def bodyB (b : Bt) : List UInt8 := b.prev ++ (putL b.first ++ (putL b.evs.length ++ b.evs.flatMap evB))
def framedB (b : Bt) : List UInt8 := 66 :: (fx (bodyB b).length 4 ++ bodyB b)
def whole (b : Bt) : List UInt8 := framedB b ++ fx (sumOf (framedB b)) 4
def putB (b : Bt) : List UInt8 × Nat := if isB b.first b.evs then (whole b, 0) else ([], 1)
theorem putB_yes {b : Bt} (h : isB b.first b.evs = true) : putB b = (whole b, 0) := by rw [putB, if_pos h]
theorem putB_no {b : Bt} (h : isB b.first b.evs = false) : putB b = ([], 1) := by rw [putB, if_neg (by rw [h]; simp)]

/-- Events that are right, as a row that runs on has them. -/
theorem run_ok {l : List Ev} : ∀ {p : Option Nat}, runFrom p l = true → ∀ x ∈ l, x.ok = true := by
  induction l with
  | nil => intro p _ x hx; cases hx
  | cons y l ih =>
    intro p h x hx
    have h2 : y.ok = true ∧ runFrom (some y.seq) l = true := by
      cases p with
      | none => rw [runFrom] at h; simpa using h
      | some q => rw [runFrom] at h; simp only [Bool.and_eq_true] at h; exact ⟨h.1.1, h.2⟩
    rcases List.mem_cons.1 hx with rfl | hx
    · exact h2.1
    · exact ih h2.2 x hx

theorem evB_len {x : Ev} (hs : x.seq < 18446744073709551616) (h : x.ok = true) : (evB x).length ≤ 40 := by
  have h1 := (putE_len hs (isE_yes.1 h)).2
  have h2 := putL_ten (n := (enc x).length) (by unfold enc; omega)
  rw [evB, List.length_append]
  unfold enc at h2 ⊢
  omega
theorem evB_row {l : List Ev} (hs : ∀ x ∈ l, x.seq < 18446744073709551616) (h : ∀ x ∈ l, x.ok = true) : (l.flatMap evB).length ≤ 40 * l.length := by
  induction l with
  | nil => simp
  | cons x l ih =>
    rw [List.flatMap_cons, List.length_append, List.length_cons]
    have h1 := evB_len (hs x (by simp)) (h x (by simp))
    have h2 := ih (fun y hy => hs y (by simp [hy])) (fun y hy => h y (by simp [hy]))
    omega

theorem body_len {b : Bt} (hf : b.Fits) (h : isB b.first b.evs = true) : 32 ≤ (bodyB b).length ∧ (bodyB b).length ≤ 10400 := by
  obtain ⟨h1, h2, _, h4⟩ := isB_yes.1 h
  have e1 := evB_row hf.seqs (run_ok h4)
  have e2 := putL_ten hf.first
  have e3 := putL_ten (n := b.evs.length) (by omega)
  simp only [bodyB, List.length_append, hf.prev]
  omega
theorem framed_len (b : Bt) : (framedB b).length = (bodyB b).length + 5 := by simp [framedB, fx_length]; omega
theorem whole_len (b : Bt) : (whole b).length = (bodyB b).length + 9 := by rw [whole, List.length_append, fx_length, framed_len]

/-! ### What is read of a body -/

def numO (l : List UInt8) : Option (Nat × List UInt8) := if (tk l).2.2 = 0 then some ((tk l).1, (tk l).2.1) else none
def evOf (x : Evt.Told) : Ev := ⟨x.seq, x.tick, x.part, x.kind, x.a, x.b⟩
def oneO (l : List UInt8) : Option (Ev × List UInt8) := if (tkt l).2.2 = 0 ∧ (got (tkt l).1).err = 0 then some (evOf (got (tkt l).1), (tkt l).2.1) else none
/-- As many events, one behind the other. -/
def evK : Nat → List UInt8 → Option (List Ev × List UInt8)
  | 0, l => some ([], l)
  | k + 1, l => match evK k l with
    | none => none
    | some (acc, r) => match oneO r with
      | none => none
      | some (x, r') => some (acc ++ [x], r')
def rdB (l : List UInt8) : Option Bt :=
  if l.length < 32 then none else
  match numO (l.drop 32) with
  | none => none
  | some (first, l1) => match numO l1 with
    | none => none
    | some (many, l2) => if 256 < many then none else
      match evK many l2 with
      | none => none
      | some (evs, l3) => if l3 = [] ∧ isB first evs = true then some ⟨first, evs, l.take 32⟩ else none

theorem numO_put {n : Nat} (h : n < 18446744073709551616) (s : List UInt8) : numO (putL n ++ s) = some (n, s) := by
  rw [numO, tk_put h]; simp
theorem numO_back {l r : List UInt8} {n : Nat} (h : numO l = some (n, r)) : putL n ++ r = l ∧ n < 18446744073709551616 ∧ (tk l).1 = n ∧ (tk l).2.1 = r ∧ (tk l).2.2 = 0 := by
  unfold numO at h
  split at h
  · rename_i h0
    cases h
    have := tk_back (tk_three (l := l) rfl rfl h0)
    exact ⟨this.1, this.2, rfl, rfl, h0⟩
  · cases h
theorem numO_no {l : List UInt8} (h : numO l = none) : (tk l).2.2 ≠ 0 := by
  intro h0
  rw [numO, if_pos h0] at h
  cases h

theorem enc_got {x : Ev} (hs : x.seq < 18446744073709551616) (h : x.ok = true) : evOf (got (enc x)) = x ∧ (got (enc x)).err = 0 := by
  rw [enc, got_put hs (isE_yes.1 h)]
  exact ⟨rfl, rfl⟩
theorem tkt_evB {x : Ev} (hs : x.seq < 18446744073709551616) (h : x.ok = true) (s : List UInt8) : tkt (evB x ++ s) = (enc x, s, 0) := by
  have hl := (putE_len hs (isE_yes.1 h)).2
  have hl' : (enc x).length ≤ 65536 := by unfold enc; omega
  have := tkt_txt (s := s) hl'
  rwa [txt, if_neg (by omega)] at this
theorem oneO_put {x : Ev} (hs : x.seq < 18446744073709551616) (h : x.ok = true) (s : List UInt8) : oneO (evB x ++ s) = some (x, s) := by
  obtain ⟨h1, h2⟩ := enc_got hs h
  rw [oneO, tkt_evB hs h, if_pos ⟨rfl, h2⟩]
  simp only [h1]
theorem got_of_err {l : List UInt8} (h : (got l).err = 0) : (evOf (got l)).ok = true ∧ enc (evOf (got l)) = l ∧ (evOf (got l)).seq < 18446744073709551616 := by
  obtain ⟨s, t, p, k, a, b, e, hg⟩ : ∃ s t p k a b e, got l = ⟨s, t, p, k, a, b, e⟩ := ⟨_, _, _, _, _, _, _, rfl⟩
  have he : e = 0 := by rw [hg] at h; exact h
  subst he
  rw [hg]
  exact got_back hg
theorem oneO_back {l r : List UInt8} {x : Ev} (h : oneO l = some (x, r)) : x.ok = true ∧ evB x ++ r = l ∧ x.seq < 18446744073709551616 ∧ (tkt l).2.2 = 0 ∧ (got (tkt l).1).err = 0 ∧ evOf (got (tkt l).1) = x ∧ (tkt l).2.1 = r := by
  unfold oneO at h
  split at h
  · rename_i h0
    obtain ⟨c, left, e, ht⟩ : ∃ c left e, tkt l = (c, left, e) := ⟨_, _, _, rfl⟩
    rw [ht] at h h0
    simp only at h h0
    obtain ⟨rfl, h0⟩ := h0
    cases h
    obtain ⟨h1, h2, h3⟩ := got_of_err h0
    have hb := (tkt_back ht).2.1
    rw [ht]
    exact ⟨h1, by rw [evB, h2]; exact hb, h3, rfl, h0, rfl, rfl⟩
  · cases h
theorem oneO_no {l : List UInt8} (h : oneO l = none) : (tkt l).2.2 ≠ 0 ∨ (tkt l).2.2 = 0 ∧ (got (tkt l).1).err ≠ 0 := by
  by_cases h1 : (tkt l).2.2 = 0
  · by_cases h2 : (got (tkt l).1).err = 0
    · rw [oneO, if_pos ⟨h1, h2⟩] at h; cases h
    · exact Or.inr ⟨h1, h2⟩
  · exact Or.inl h1

theorem evK_next {k : Nat} {l r r' : List UInt8} {acc : List Ev} {x : Ev} (h : evK k l = some (acc, r)) (h1 : oneO r = some (x, r')) : evK (k + 1) l = some (acc ++ [x], r') := by
  rw [evK, h]; simp only [h1]
theorem evK_stop {k : Nat} {l r : List UInt8} {acc : List Ev} (h : evK k l = some (acc, r)) (h1 : oneO r = none) : ∀ d, evK (k + 1 + d) l = none
  | 0 => by rw [Nat.add_zero, evK, h]; simp only [h1]
  | d + 1 => by rw [← Nat.add_assoc, evK, evK_stop h h1 d]
theorem evK_before {k d : Nat} {l : List UInt8} (h : evK (k + d) l ≠ none) : evK k l ≠ none := by
  induction d with
  | zero => exact h
  | succ d ih =>
    refine ih fun h' => h ?_
    rw [← Nat.add_assoc, evK, h']
theorem evK_length : ∀ {k : Nat} {l r : List UInt8} {acc : List Ev}, evK k l = some (acc, r) → acc.length = k
  | 0, l, r, acc, h => by cases h; rfl
  | k + 1, l, r, acc, h => by
    rw [evK] at h
    cases h1 : evK k l with
    | none => rw [h1] at h; cases h
    | some p =>
      obtain ⟨a, q⟩ := p
      rw [h1] at h
      simp only at h
      cases h2 : oneO q with
      | none => rw [h2] at h; cases h
      | some y =>
        obtain ⟨x, q'⟩ := y
        rw [h2] at h
        cases h
        rw [List.length_append, evK_length h1]; rfl
theorem evK_put (l : List Ev) (hs : ∀ x ∈ l, x.seq < 18446744073709551616) (h : ∀ x ∈ l, x.ok = true) (s : List UInt8) : ∀ k, k ≤ l.length → evK k (l.flatMap evB ++ s) = some (l.take k, (l.drop k).flatMap evB ++ s)
  | 0, _ => by simp [evK]
  | k + 1, hk => by
    have ih := evK_put l hs h s k (by omega)
    have hd : l.drop k = l[k] :: l.drop (k + 1) := List.drop_eq_getElem_cons (by omega)
    rw [hd, List.flatMap_cons, List.append_assoc] at ih
    rw [evK_next ih (oneO_put (hs _ (List.getElem_mem _)) (h _ (List.getElem_mem _)) _), List.take_succ_eq_append_getElem (by omega)]
theorem evK_back : ∀ {k : Nat} {l r : List UInt8} {acc : List Ev}, evK k l = some (acc, r) → acc.flatMap evB ++ r = l ∧ ∀ x ∈ acc, x.seq < 18446744073709551616
  | 0, l, r, acc, h => by cases h; exact ⟨rfl, fun x hx => by cases hx⟩
  | k + 1, l, r, acc, h => by
    rw [evK] at h
    cases h1 : evK k l with
    | none => rw [h1] at h; cases h
    | some p =>
      obtain ⟨a, q⟩ := p
      rw [h1] at h
      simp only at h
      cases h2 : oneO q with
      | none => rw [h2] at h; cases h
      | some y =>
        obtain ⟨x, q'⟩ := y
        rw [h2] at h
        cases h
        obtain ⟨e1, e2⟩ := evK_back h1
        obtain ⟨_, e3, e4, _⟩ := oneO_back h2
        refine ⟨?_, ?_⟩
        · rw [List.flatMap_append, List.append_assoc]
          simp only [List.flatMap_cons, List.flatMap_nil, List.append_nil]
          rw [e3, e1]
        · intro z hz
          rcases List.mem_append.1 hz with hz | hz
          · exact e2 z hz
          · obtain rfl : z = x := by simpa using hz
            exact e4

/-- What is put is read again. -/
theorem rdB_put {b : Bt} (hf : b.Fits) (h : isB b.first b.evs = true) : rdB (bodyB b) = some b := by
  obtain ⟨h1, h2, h3, h4⟩ := isB_yes.1 h
  have hl := (body_len hf h).1
  have hd : (bodyB b).drop 32 = putL b.first ++ (putL b.evs.length ++ b.evs.flatMap evB) := by
    rw [bodyB, List.drop_append, hf.prev, List.drop_of_length_le (by rw [hf.prev]; exact Nat.le_refl _)]; simp
  have ht : (bodyB b).take 32 = b.prev := by
    rw [bodyB, List.take_append, hf.prev, List.take_of_length_le (by rw [hf.prev]; exact Nat.le_refl _)]; simp
  have hk := evK_put b.evs hf.seqs (run_ok h4) [] b.evs.length (Nat.le_refl _)
  rw [List.take_length, List.drop_length] at hk
  simp only [List.append_nil, List.flatMap_nil] at hk
  rw [rdB, if_neg (by omega), hd, numO_put hf.first]
  simp only
  rw [numO_put (by omega)]
  simp only
  rw [if_neg (by omega), hk]
  simp only
  rw [if_pos (by simp [h]), ht]

theorem rdB_back {l : List UInt8} {b : Bt} (h : rdB l = some b) : isB b.first b.evs = true ∧ bodyB b = l ∧ b.Fits := by
  unfold rdB at h
  by_cases h32 : l.length < 32
  · rw [if_pos h32] at h; cases h
  · rw [if_neg h32] at h
    cases h1 : numO (l.drop 32) with
    | none => rw [h1] at h; cases h
    | some p =>
      obtain ⟨first, l1⟩ := p
      rw [h1] at h
      simp only at h
      cases h2 : numO l1 with
      | none => rw [h2] at h; cases h
      | some p =>
        obtain ⟨many, l2⟩ := p
        rw [h2] at h
        simp only at h
        by_cases h256 : 256 < many
        · rw [if_pos h256] at h; cases h
        · rw [if_neg h256] at h
          cases h3 : evK many l2 with
          | none => rw [h3] at h; cases h
          | some p =>
            obtain ⟨evs, l3⟩ := p
            rw [h3] at h
            simp only at h
            by_cases h4 : l3 = [] ∧ isB first evs = true
            · rw [if_pos h4] at h
              obtain ⟨rfl, h5⟩ := h4
              cases h
              obtain ⟨a1, a2, _⟩ := numO_back h1
              obtain ⟨b1, _, _⟩ := numO_back h2
              obtain ⟨c1, c2⟩ := evK_back h3
              refine ⟨h5, ?_, ⟨a2, by simp; omega, c2⟩⟩
              rw [List.append_nil] at c1
              simp only [bodyB]
              rw [evK_length h3, c1, b1, a1, List.take_append_drop]
            · rw [if_neg h4] at h; cases h

end Go.Proofs.YtalfmkgcelipdaaDoor.Bat
