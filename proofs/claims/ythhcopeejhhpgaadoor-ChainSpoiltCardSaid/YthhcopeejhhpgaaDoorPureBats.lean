/- Batches as bytes: the plain functions. -/
import Derived.Test.YthhcopeejhhpgaaDoorPureRun
import Derived.Test.YthhcopeejhhpgaaDoorPureCrc
import Derived.Test.YthhcopeejhhpgaaDoorPureFour
namespace Go.Proofs.YthhcopeejhhpgaaDoor.Bat
open Wire Evt Crc

/-- A batch. -/
structure Bt where
  first : Nat
  evs : List Ev
  prev : List UInt8

/-- Its numbers have 64 bits, its sum 32 bytes. -/
structure Bt.Fits (b : Bt) : Prop where
  first : b.first < 18446744073709551616
  prev : b.prev.length = 32
  seqs : ∀ x ∈ b.evs, x.seq < 18446744073709551616

def headSeq (l : List Ev) : Nat := match l with | [] => 0 | x :: _ => x.seq

/-- Is a batch right? -/
def isB (first : Nat) (l : List Ev) : Bool := decide (1 ≤ l.length) && decide (l.length ≤ 256) && decide (headSeq l = first) && runL l
theorem isB_yes {first : Nat} {l : List Ev} : isB first l = true ↔ 1 ≤ l.length ∧ l.length ≤ 256 ∧ headSeq l = first ∧ runL l = true := by
  simp only [isB, Bool.and_eq_true, decide_eq_true_eq, and_assoc]

/-- An event's bytes, and its text's. -/
def enc (x : Ev) : List UInt8 := putE x.seq x.tick x.part x.kind x.a x.b
def evB (x : Ev) : List UInt8 := putL (enc x).length ++ enc x
def bodyB (b : Bt) : List UInt8 := b.prev ++ (putL b.first ++ (putL b.evs.length ++ b.evs.flatMap evB))
def framedB (b : Bt) : List UInt8 := 66 :: (fx (bodyB b).length 4 ++ bodyB b)
def whole (b : Bt) : List UInt8 := framedB b ++ fx (sumOf (framedB b)) 4
def putB (b : Bt) : List UInt8 × Nat := if isB b.first b.evs then (whole b, 0) else ([], 1)
theorem putB_yes {b : Bt} (h : isB b.first b.evs = true) : putB b = (whole b, 0) := by rw [putB, if_pos h]
theorem putB_no {b : Bt} (h : isB b.first b.evs = false) : putB b = ([], 1) := by rw [putB, if_neg (by rw [h]; simp)]

/-- Events that are right, as a row that runs on has them. -/
theorem run_ok {l : List Ev} : ∀ {p : Option Nat}, runFrom p l = true → ∀ x ∈ l, x.ok = true := by
  induction l with
  | nil => intro p _ x hx; cases hx
  | cons y l ih =>
    intro p h x hx
    have h2 : y.ok = true ∧ runFrom (some y.seq) l = true := by
      cases p with
      | none => rw [runFrom] at h; simpa using h
      | some q => rw [runFrom] at h; simp only [Bool.and_eq_true] at h; exact ⟨h.1.1, h.2⟩
    rcases List.mem_cons.1 hx with rfl | hx
    · exact h2.1
    · exact ih h2.2 x hx

theorem evB_len {x : Ev} (hs : x.seq < 18446744073709551616) (h : x.ok = true) : (evB x).length ≤ 40 := by
  have h1 := (putE_len hs (isE_yes.1 h)).2
  have h2 := putL_ten (n := (enc x).length) (by unfold enc; omega)
  rw [evB, List.length_append]
  unfold enc at h2 ⊢
  omega
theorem evB_row {l : List Ev} (hs : ∀ x ∈ l, x.seq < 18446744073709551616) (h : ∀ x ∈ l, x.ok = true) : (l.flatMap evB).length ≤ 40 * l.length := by
  induction l with
  | nil => simp
  | cons x l ih =>
    rw [List.flatMap_cons, List.length_append, List.length_cons]
    have h1 := evB_len (hs x (by simp)) (h x (by simp))
    have h2 := ih (fun y hy => hs y (by simp [hy])) (fun y hy => h y (by simp [hy]))
    omega

theorem body_len {b : Bt} (hf : b.Fits) (h : isB b.first b.evs = true) : 32 ≤ (bodyB b).length ∧ (bodyB b).length ≤ 10400 := by
  obtain ⟨h1, h2, _, h4⟩ := isB_yes.1 h
  have e1 := evB_row hf.seqs (run_ok h4)
  have e2 := putL_ten hf.first
  have e3 := putL_ten (n := b.evs.length) (by omega)
  simp only [bodyB, List.length_append, hf.prev]
  omega
theorem framed_len (b : Bt) : (framedB b).length = (bodyB b).length + 5 := by simp [framedB, fx_length]; omega
theorem whole_len (b : Bt) : (whole b).length = (bodyB b).length + 9 := by rw [whole, List.length_append, fx_length, framed_len]

/-! ### What is read of a body -/

def numO (l : List UInt8) : Option (Nat × List UInt8) := if (tk l).2.2 = 0 then some ((tk l).1, (tk l).2.1) else none
def evOf (x : Evt.Told) : Ev := ⟨x.seq, x.tick, x.part, x.kind, x.a, x.b⟩
def oneO (l : List UInt8) : Option (Ev × List UInt8) := if (tkt l).2.2 = 0 ∧ (got (tkt l).1).err = 0 then some (evOf (got (tkt l).1), (tkt l).2.1) else none
/-- As many events, one behind the other. -/
def evK : Nat → List UInt8 → Option (List Ev × List UInt8)
  | 0, l => some ([], l)
  | k + 1, l => match evK k l with
    | none => none
    | some (acc, r) => match oneO r with
      | none => none
      | some (x, r') => some (acc ++ [x], r')
def rdB (l : List UInt8) : Option Bt :=
  if l.length < 32 then none else
  match numO (l.drop 32) with
  | none => none
  | some (first, l1) => match numO l1 with
    | none => none
    | some (many, l2) => if 256 < many then none else
      match evK many l2 with
      | none => none
      | some (evs, l3) => if l3 = [] ∧ isB first evs = true then some ⟨first, evs, l.take 32⟩ else none

theorem numO_put {n : Nat} (h : n < 18446744073709551616) (s : List UInt8) : numO (putL n ++ s) = some (n, s) := by
  rw [numO, tk_put h]; simp
theorem numO_back {l r : List UInt8} {n : Nat} (h : numO l = some (n, r)) : putL n ++ r = l ∧ n < 18446744073709551616 ∧ (tk l).1 = n ∧ (tk l).2.1 = r ∧ (tk l).2.2 = 0 := by
  unfold numO at h
  split at h
  · rename_i h0
    cases h
    have := tk_back (tk_three (l := l) rfl rfl h0)
    exact ⟨this.1, this.2, rfl, rfl, h0⟩
  · cases h
theorem numO_no {l : List UInt8} (h : numO l = none) : (tk l).2.2 ≠ 0 := by
  intro h0
  rw [numO, if_pos h0] at h
  cases h

theorem enc_got {x : Ev} (hs : x.seq < 18446744073709551616) (h : x.ok = true) : evOf (got (enc x)) = x ∧ (got (enc x)).err = 0 := by
  rw [enc, got_put hs (isE_yes.1 h)]
  exact ⟨rfl, rfl⟩
theorem tkt_evB {x : Ev} (hs : x.seq < 18446744073709551616) (h : x.ok = true) (s : List UInt8) : tkt (evB x ++ s) = (enc x, s, 0) := by
  have hl := (putE_len hs (isE_yes.1 h)).2
  have hl' : (enc x).length ≤ 65536 := by unfold enc; omega
  have := tkt_txt (s := s) hl'
  rwa [txt, if_neg (by omega)] at this
theorem oneO_put {x : Ev} (hs : x.seq < 18446744073709551616) (h : x.ok = true) (s : List UInt8) : oneO (evB x ++ s) = some (x, s) := by
  obtain ⟨h1, h2⟩ := enc_got hs h
  rw [oneO, tkt_evB hs h, if_pos ⟨rfl, h2⟩]
  simp only [h1]
theorem got_of_err {l : List UInt8} (h : (got l).err = 0) : (evOf (got l)).ok = true ∧ enc (evOf (got l)) = l ∧ (evOf (got l)).seq < 18446744073709551616 := by
  obtain ⟨s, t, p, k, a, b, e, hg⟩ : ∃ s t p k a b e, got l = ⟨s, t, p, k, a, b, e⟩ := ⟨_, _, _, _, _, _, _, rfl⟩
  have he : e = 0 := by rw [hg] at h; exact h
  subst he
  rw [hg]
  exact got_back hg
theorem oneO_back {l r : List UInt8} {x : Ev} (h : oneO l = some (x, r)) : x.ok = true ∧ evB x ++ r = l ∧ x.seq < 18446744073709551616 ∧ (tkt l).2.2 = 0 ∧ (got (tkt l).1).err = 0 ∧ evOf (got (tkt l).1) = x ∧ (tkt l).2.1 = r := by
  unfold oneO at h
  split at h
  · rename_i h0
    obtain ⟨c, left, e, ht⟩ : ∃ c left e, tkt l = (c, left, e) := ⟨_, _, _, rfl⟩
    rw [ht] at h h0
    simp only at h h0
    obtain ⟨rfl, h0⟩ := h0
    cases h
    obtain ⟨h1, h2, h3⟩ := got_of_err h0
    have hb := (tkt_back ht).2.1
    rw [ht]
    exact ⟨h1, by rw [evB, h2]; exact hb, h3, rfl, h0, rfl, rfl⟩
  · cases h
theorem oneO_no {l : List UInt8} (h : oneO l = none) : (tkt l).2.2 ≠ 0 ∨ (tkt l).2.2 = 0 ∧ (got (tkt l).1).err ≠ 0 := by
  by_cases h1 : (tkt l).2.2 = 0
  · by_cases h2 : (got (tkt l).1).err = 0
    · rw [oneO, if_pos ⟨h1, h2⟩] at h; cases h
    · exact Or.inr ⟨h1, h2⟩
  · exact Or.inl h1

theorem evK_next {k : Nat} {l r r' : List UInt8} {acc : List Ev} {x : Ev} (h : evK k l = some (acc, r)) (h1 : oneO r = some (x, r')) : evK (k + 1) l = some (acc ++ [x], r') := by
  rw [evK, h]; simp only [h1]
theorem evK_stop {k : Nat} {l r : List UInt8} {acc : List Ev} (h : evK k l = some (acc, r)) (h1 : oneO r = none) : ∀ d, evK (k + 1 + d) l = none
  | 0 => by rw [Nat.add_zero, evK, h]; simp only [h1]
  | d + 1 => by rw [← Nat.add_assoc, evK, evK_stop h h1 d]
theorem evK_before {k d : Nat} {l : List UInt8} (h : evK (k + d) l ≠ none) : evK k l ≠ none := by
  induction d with
  | zero => exact h
  | succ d ih =>
    refine ih fun h' => h ?_
    rw [← Nat.add_assoc, evK, h']
theorem evK_length : ∀ {k : Nat} {l r : List UInt8} {acc : List Ev}, evK k l = some (acc, r) → acc.length = k
  | 0, l, r, acc, h => by cases h; rfl
  | k + 1, l, r, acc, h => by
    rw [evK] at h
    cases h1 : evK k l with
    | none => rw [h1] at h; cases h
    | some p =>
      obtain ⟨a, q⟩ := p
      rw [h1] at h
      simp only at h
      cases h2 : oneO q with
      | none => rw [h2] at h; cases h
      | some y =>
        obtain ⟨x, q'⟩ := y
        rw [h2] at h
        cases h
        rw [List.length_append, evK_length h1]; rfl
theorem evK_put (l : List Ev) (hs : ∀ x ∈ l, x.seq < 18446744073709551616) (h : ∀ x ∈ l, x.ok = true) (s : List UInt8) : ∀ k, k ≤ l.length → evK k (l.flatMap evB ++ s) = some (l.take k, (l.drop k).flatMap evB ++ s)
  | 0, _ => by simp [evK]
  | k + 1, hk => by
    have ih := evK_put l hs h s k (by omega)
    have hd : l.drop k = l[k] :: l.drop (k + 1) := List.drop_eq_getElem_cons (by omega)
    rw [hd, List.flatMap_cons, List.append_assoc] at ih
    rw [evK_next ih (oneO_put (hs _ (List.getElem_mem _)) (h _ (List.getElem_mem _)) _), List.take_succ_eq_append_getElem (by omega)]
theorem evK_back : ∀ {k : Nat} {l r : List UInt8} {acc : List Ev}, evK k l = some (acc, r) → acc.flatMap evB ++ r = l ∧ ∀ x ∈ acc, x.seq < 18446744073709551616
  | 0, l, r, acc, h => by cases h; exact ⟨rfl, fun x hx => by cases hx⟩
  | k + 1, l, r, acc, h => by
    rw [evK] at h
    cases h1 : evK k l with
    | none => rw [h1] at h; cases h
    | some p =>
      obtain ⟨a, q⟩ := p
      rw [h1] at h
      simp only at h
      cases h2 : oneO q with
      | none => rw [h2] at h; cases h
      | some y =>
        obtain ⟨x, q'⟩ := y
        rw [h2] at h
        cases h
        obtain ⟨e1, e2⟩ := evK_back h1
        obtain ⟨_, e3, e4, _⟩ := oneO_back h2
        refine ⟨?_, ?_⟩
        · rw [List.flatMap_append, List.append_assoc]
          simp only [List.flatMap_cons, List.flatMap_nil, List.append_nil]
          rw [e3, e1]
        · intro z hz
          rcases List.mem_append.1 hz with hz | hz
          · exact e2 z hz
          · obtain rfl : z = x := by simpa using hz
            exact e4

/-- What is put is read again. -/
theorem rdB_put {b : Bt} (hf : b.Fits) (h : isB b.first b.evs = true) : rdB (bodyB b) = some b := by
  obtain ⟨h1, h2, h3, h4⟩ := isB_yes.1 h
  have hl := (body_len hf h).1
  have hd : (bodyB b).drop 32 = putL b.first ++ (putL b.evs.length ++ b.evs.flatMap evB) := by
    rw [bodyB, List.drop_append, hf.prev, List.drop_of_length_le (by rw [hf.prev]; exact Nat.le_refl _)]; simp
  have ht : (bodyB b).take 32 = b.prev := by
    rw [bodyB, List.take_append, hf.prev, List.take_of_length_le (by rw [hf.prev]; exact Nat.le_refl _)]; simp
  have hk := evK_put b.evs hf.seqs (run_ok h4) [] b.evs.length (Nat.le_refl _)
  rw [List.take_length, List.drop_length] at hk
  simp only [List.append_nil, List.flatMap_nil] at hk
  rw [rdB, if_neg (by omega), hd, numO_put hf.first]
  simp only
  rw [numO_put (by omega)]
  simp only
  rw [if_neg (by omega), hk]
  simp only
  rw [if_pos (by simp [h]), ht]

theorem rdB_back {l : List UInt8} {b : Bt} (h : rdB l = some b) : isB b.first b.evs = true ∧ bodyB b = l ∧ b.Fits := by
  unfold rdB at h
  by_cases h32 : l.length < 32
  · rw [if_pos h32] at h; cases h
  · rw [if_neg h32] at h
    cases h1 : numO (l.drop 32) with
    | none => rw [h1] at h; cases h
    | some p =>
      obtain ⟨first, l1⟩ := p
      rw [h1] at h
      simp only at h
      cases h2 : numO l1 with
      | none => rw [h2] at h; cases h
      | some p =>
        obtain ⟨many, l2⟩ := p
        rw [h2] at h
        simp only at h
        by_cases h256 : 256 < many
        · rw [if_pos h256] at h; cases h
        · rw [if_neg h256] at h
          cases h3 : evK many l2 with
          | none => rw [h3] at h; cases h
          | some p =>
            obtain ⟨evs, l3⟩ := p
            rw [h3] at h
            simp only at h
            by_cases h4 : l3 = [] ∧ isB first evs = true
            · rw [if_pos h4] at h
              obtain ⟨rfl, h5⟩ := h4
              cases h
              obtain ⟨a1, a2, _⟩ := numO_back h1
              obtain ⟨b1, _, _⟩ := numO_back h2
              obtain ⟨c1, c2⟩ := evK_back h3
              refine ⟨h5, ?_, ⟨a2, by simp; omega, c2⟩⟩
              rw [List.append_nil] at c1
              simp only [bodyB]
              rw [evK_length h3, c1, b1, a1, List.take_append_drop]
            · rw [if_neg h4] at h; cases h

end Go.Proofs.YthhcopeejhhpgaaDoor.Bat

/- Batches in their frames: the plain functions. -/
namespace Go.Proofs.YthhcopeejhhpgaaDoor.Bat
open Wire Evt Crc

def zeroBt : Bt := ⟨0, [], List.replicate 32 0⟩

/-- The body of the bytes that a text begins with, and the error. -/
def frO (s : List UInt8) : List UInt8 × Nat :=
  match s with
  | [] => ([], 4)
  | c :: r => if c.toNat ≠ 66 then ([], 3)
    else if r.length < 4 then ([], 4)
    else if 16384 < be (r.take 4) then ([], 2)
    else if r.length < be (r.take 4) + 8 then ([], 4)
    else if (r.drop (4 + be (r.take 4))).take 4 ≠ fx (sumOf (s.take (5 + be (r.take 4)))) 4 then ([], 10)
    else ((r.drop 4).take (be (r.take 4)), 0)

/-- A batch that is told of bytes, how many it has, and the error. -/
structure Gb where
  bt : Bt
  used : Nat
  err : Nat
def noB (e : Nat) : Gb := ⟨zeroBt, 0, e⟩
def gotB (s : List UInt8) : Gb :=
  if (frO s).2 ≠ 0 then noB (frO s).2 else
  match rdB (frO s).1 with
  | none => noB 3
  | some b => ⟨b, (frO s).1.length + 9, 0⟩

theorem gotB_err {s : List UInt8} {l : List UInt8} {e : Nat} (h : frO s = (l, e)) (he : e ≠ 0) : gotB s = noB e := by rw [gotB, h, if_pos he]
theorem gotB_none {s : List UInt8} {l : List UInt8} (h : frO s = (l, 0)) (hr : rdB l = none) : gotB s = noB 3 := by
  rw [gotB, h, if_neg (by simp)]; simp only [hr]
theorem gotB_some {s : List UInt8} {l : List UInt8} {b : Bt} (h : frO s = (l, 0)) (hr : rdB l = some b) : gotB s = ⟨b, l.length + 9, 0⟩ := by
  rw [gotB, h, if_neg (by simp)]; simp only [hr]

theorem fr_nil : frO [] = ([], 4) := rfl
theorem fr_mark {c : UInt8} {r : List UInt8} (h : c.toNat ≠ 66) : frO (c :: r) = ([], 3) := by rw [frO, if_pos h]
theorem fr_few {c : UInt8} {r : List UInt8} (h : c.toNat = 66) (h4 : r.length < 4) : frO (c :: r) = ([], 4) := by
  rw [frO, if_neg (by simpa using h), if_pos h4]
theorem fr_big {c : UInt8} {r : List UInt8} (h : c.toNat = 66) (h4 : 4 ≤ r.length) (hb : 16384 < be (r.take 4)) : frO (c :: r) = ([], 2) := by
  rw [frO, if_neg (by simpa using h), if_neg (by omega), if_pos hb]
theorem fr_more {c : UInt8} {r : List UInt8} (h : c.toNat = 66) (h4 : 4 ≤ r.length) (hb : be (r.take 4) ≤ 16384) (hm : r.length < be (r.take 4) + 8) : frO (c :: r) = ([], 4) := by
  rw [frO, if_neg (by simpa using h), if_neg (by omega), if_neg (by omega), if_pos hm]
theorem fr_sum {c : UInt8} {r : List UInt8} (h : c.toNat = 66) (hb : be (r.take 4) ≤ 16384) (hm : be (r.take 4) + 8 ≤ r.length)
    (hs : (r.drop (4 + be (r.take 4))).take 4 ≠ fx (sumOf ((c :: r).take (5 + be (r.take 4)))) 4) : frO (c :: r) = ([], 10) := by
  rw [frO, if_neg (by simpa using h), if_neg (by omega), if_neg (by omega), if_neg (by omega), if_pos hs]
theorem fr_fine {c : UInt8} {r : List UInt8} (h : c.toNat = 66) (hb : be (r.take 4) ≤ 16384) (hm : be (r.take 4) + 8 ≤ r.length)
    (hs : (r.drop (4 + be (r.take 4))).take 4 = fx (sumOf ((c :: r).take (5 + be (r.take 4)))) 4) : frO (c :: r) = ((r.drop 4).take (be (r.take 4)), 0) := by
  rw [frO, if_neg (by simpa using h), if_neg (by omega), if_neg (by omega), if_neg (by omega), if_neg (by simpa using hs)]

theorem u8_66 {c : UInt8} (h : c.toNat = 66) : c = 66 := UInt8.toNat_inj.1 h

/-- What is fine, in pieces. -/
theorem fr_back {s l : List UInt8} (h : frO s = (l, 0)) : ∃ behind, s = 66 :: (fx l.length 4 ++ (l ++ (fx (sumOf (66 :: (fx l.length 4 ++ l))) 4 ++ behind))) ∧ l.length ≤ 16384 := by
  unfold frO at h
  match s with
  | [] => cases h
  | c :: r =>
    simp only at h
    by_cases h1 : c.toNat = 66
    · rw [if_neg (by simpa using h1)] at h
      by_cases h2 : r.length < 4
      · rw [if_pos h2] at h; cases h
      · rw [if_neg h2] at h
        by_cases h3 : 16384 < be (r.take 4)
        · rw [if_pos h3] at h; cases h
        · rw [if_neg h3] at h
          by_cases h4 : r.length < be (r.take 4) + 8
          · rw [if_pos h4] at h; cases h
          · rw [if_neg h4] at h
            by_cases h5 : (r.drop (4 + be (r.take 4))).take 4 = fx (sumOf ((c :: r).take (5 + be (r.take 4)))) 4
            · rw [if_neg (by simpa using h5)] at h
              obtain ⟨n, hn⟩ : ∃ n, n = be (r.take 4) := ⟨_, rfl⟩
              rw [← hn] at h h3 h4 h5
              cases h
              have hl : ((r.drop 4).take n).length = n := by rw [List.length_take, List.length_drop]; omega
              have ht : fx n 4 = r.take 4 := by
                rw [hn]
                exact fx_be' (by rw [List.length_take]; omega)
              have e1 : r.take 4 ++ (r.drop 4).take n = r.take (4 + n) := by rw [List.take_add]
              have e0 : c = 66 := u8_66 h1
              subst e0
              have e2 : (66 : UInt8) :: (r.take 4 ++ (r.drop 4).take n) = (66 :: r).take (5 + n) := by rw [e1, show 5 + n = (4 + n) + 1 by omega, List.take_succ_cons]
              refine ⟨r.drop (4 + n + 4), ?_, by omega⟩
              rw [hl, ht, e2, ← h5]
              have e3 : (r.drop (4 + n)).take 4 ++ r.drop (4 + n + 4) = r.drop (4 + n) := by
                have := List.take_append_drop 4 (r.drop (4 + n))
                rwa [List.drop_drop] at this
              rw [e3, ← List.append_assoc, e1, List.take_append_drop]
            · rw [if_pos h5] at h; cases h
    · rw [if_pos (by simpa using h1)] at h; cases h
where
  fx_be' {l : List UInt8} (h : l.length = 4) : fx (be l) 4 = l := by
    match l, h with
    | [a, b, c, d], _ =>
      have ha := a.toNat_lt
      have hb := b.toNat_lt
      have hc := c.toNat_lt
      have hd := d.toNat_lt
      have e : be [a, b, c, d] = 256 * (256 * (256 * a.toNat + b.toNat) + c.toNat) + d.toNat := by simp [be]
      rw [e]
      simp only [fx]
      have e1 : (256 * (256 * (256 * a.toNat + b.toNat) + c.toNat) + d.toNat) / 256 ^ 3 % 256 = a.toNat := by omega
      have e2 : (256 * (256 * (256 * a.toNat + b.toNat) + c.toNat) + d.toNat) / 256 ^ 2 % 256 = b.toNat := by omega
      have e3 : (256 * (256 * (256 * a.toNat + b.toNat) + c.toNat) + d.toNat) / 256 ^ 1 % 256 = c.toNat := by omega
      have e4 : (256 * (256 * (256 * a.toNat + b.toNat) + c.toNat) + d.toNat) / 256 ^ 0 % 256 = d.toNat := by omega
      rw [e1, e2, e3, e4]
      simp

theorem fx_be4 {l : List UInt8} (h : l.length = 4) : fx (be l) 4 = l := fr_back.fx_be' h

/-- A body in its frame is told, whatever stands behind. -/
theorem fr_put {l : List UInt8} (hl : l.length ≤ 16384) (behind : List UInt8) : frO (66 :: (fx l.length 4 ++ (l ++ (fx (sumOf (66 :: (fx l.length 4 ++ l))) 4 ++ behind)))) = (l, 0) := by
  obtain ⟨r, hr⟩ : ∃ r, r = fx l.length 4 ++ (l ++ (fx (sumOf (66 :: (fx l.length 4 ++ l))) 4 ++ behind)) := ⟨_, rfl⟩
  have t4 : r.take 4 = fx l.length 4 := by rw [hr, List.take_left' (fx_length _ _)]
  have d4 : r.drop 4 = l ++ (fx (sumOf (66 :: (fx l.length 4 ++ l))) 4 ++ behind) := by rw [hr, List.drop_left' (fx_length _ _)]
  have hb : be (r.take 4) = l.length := by rw [t4, be_four _ (by omega)]
  have tl : (r.drop 4).take l.length = l := by rw [d4, List.take_left]
  have dl : r.drop (4 + l.length) = fx (sumOf (66 :: (fx l.length 4 ++ l))) 4 ++ behind := by rw [← List.drop_drop, d4, List.drop_left]
  have tk : ((66 : UInt8) :: r).take (5 + l.length) = 66 :: (fx l.length 4 ++ l) := by
    rw [show 5 + l.length = (4 + l.length) + 1 by omega, List.take_succ_cons, List.take_add, t4, tl]
  rw [← hr, fr_fine (by decide) (by omega) (by rw [hb, hr]; simp only [List.length_append, fx_length]; omega) (by rw [hb, dl, tk, List.take_left' (fx_length _ _)]), hb, tl]

theorem whole_form (b : Bt) (behind : List UInt8) : whole b ++ behind = 66 :: (fx (bodyB b).length 4 ++ (bodyB b ++ (fx (sumOf (66 :: (fx (bodyB b).length 4 ++ bodyB b))) 4 ++ behind))) := by
  simp [whole, framedB]

/-- What is put is got again, whatever stands behind it. -/
theorem gotB_put {b : Bt} (hf : b.Fits) (h : isB b.first b.evs = true) (behind : List UInt8) : gotB (whole b ++ behind) = ⟨b, (whole b).length, 0⟩ := by
  have hl := body_len hf h
  have := gotB_some (s := whole b ++ behind) (by rw [whole_form]; exact fr_put (by omega) behind) (rdB_put hf h)
  rw [this, whole_len]

theorem take_four {c : UInt8} {l m : List UInt8} {n : Nat} (hl : l.length = 4) (hn : 5 ≤ n) : (((c :: (l ++ m)).take n).drop 1).take 4 = l := by
  obtain ⟨k, rfl⟩ : ∃ k, n = k + 1 := ⟨n - 1, by omega⟩
  rw [List.take_succ_cons, List.drop_one, List.tail_cons, List.take_take, Nat.min_eq_left (by omega), List.take_left' hl]

/-- A beginning of a batch's bytes is none, but tells ErrMore. -/
theorem gotB_less {b : Bt} (hf : b.Fits) (h : isB b.first b.evs = true) {n : Nat} (hn : n < (whole b).length) : (gotB ((whole b).take n)).err = 4 := by
  have hl := body_len hf h
  have hw := whole_len b
  have hwf := whole_form b []
  rw [List.append_nil] at hwf
  have key : ∃ l, frO ((whole b).take n) = (l, 4) := by
    match n, hn with
    | 0, _ => exact ⟨[], rfl⟩
    | n + 1, hn =>
      have hlen : ((whole b).take (n + 1)).length = n + 1 := by rw [List.length_take]; omega
      rw [hwf] at hlen ⊢
      rw [List.take_succ_cons] at hlen ⊢
      simp only [List.length_cons] at hlen
      by_cases h4 : n < 4
      · exact ⟨[], fr_few (by decide) (by omega)⟩
      · have hb := take_four (c := 66) (l := fx (bodyB b).length 4) (m := bodyB b ++ (fx (sumOf (66 :: (fx (bodyB b).length 4 ++ bodyB b))) 4 ++ [])) (n := n + 1) (fx_length _ _) (by omega)
        rw [List.take_succ_cons, List.drop_one, List.tail_cons] at hb
        have he := congrArg be hb
        rw [be_four _ (by omega)] at he
        exact ⟨[], fr_more (by decide) (by omega) (by omega) (by omega)⟩
  obtain ⟨l, hk⟩ := key
  rw [gotB_err hk (by omega)]
  rfl

/-- What is got is right, and its bytes are just what would be put. -/
theorem gotB_back {s : List UInt8} {b : Bt} {n : Nat} (h : gotB s = ⟨b, n, 0⟩) : isB b.first b.evs = true ∧ b.Fits ∧ whole b = s.take n ∧ n ≤ s.length := by
  obtain ⟨l, e, hf⟩ : ∃ l e, frO s = (l, e) := ⟨_, _, rfl⟩
  by_cases he : e = 0
  · subst he
    cases hr : rdB l with
    | none => rw [gotB_none hf hr] at h; cases h
    | some b' =>
      rw [gotB_some hf hr] at h
      cases h
      obtain ⟨h1, h2, h3⟩ := rdB_back hr
      obtain ⟨behind, hs, hl⟩ := fr_back hf
      refine ⟨h1, h3, ?_⟩
      have hw := whole_len b
      have hwf := whole_form b behind
      rw [h2] at hwf hw
      rw [hs, ← hwf, ← hw, List.take_left]
      exact ⟨rfl, by rw [List.length_append]; omega⟩
  · rw [gotB_err hf he] at h
    have : e = 0 := congrArg Gb.err h
    exact absurd this he

theorem gotB_bad {s : List UInt8} (h : (gotB s).err ≠ 0) : gotB s = noB (gotB s).err := by
  obtain ⟨l, e, hf⟩ : ∃ l e, frO s = (l, e) := ⟨_, _, rfl⟩
  by_cases he : e = 0
  · subst he
    cases hr : rdB l with
    | none => rw [gotB_none hf hr]; rfl
    | some b => rw [gotB_some hf hr] at h; exact absurd rfl h
  · rw [gotB_err hf he]; rfl

theorem gotB_fits (s : List UInt8) : (gotB s).bt.Fits := by
  by_cases h : (gotB s).err = 0
  · obtain ⟨b, n, e, hg⟩ : ∃ b n e, gotB s = ⟨b, n, e⟩ := ⟨_, _, _, rfl⟩
    rw [hg] at h ⊢
    simp only at h
    subst h
    exact (gotB_back hg).2.1
  · rw [gotB_bad h]
    exact ⟨by simp [noB, zeroBt], by simp [noB, zeroBt], fun x hx => by simp [noB, zeroBt] at hx⟩

end Go.Proofs.YthhcopeejhhpgaaDoor.Bat

/- Batches of which four bytes were changed: the plain functions. -/
namespace Go.Proofs.YthhcopeejhhpgaaDoor.Bat
open Wire Evt Crc

/-- Some of four bytes changed, that stand in the body one behind the other, or are the last four, are told. -/
theorem gotB_bent {b : Bt} (hf : b.Fits) (h : isB b.first b.evs = true) {p q : List UInt8} {c0 c1 c2 c3 d0 d1 d2 d3 : UInt8} (hw : whole b = p ++ ([c0, c1, c2, c3] ++ q)) (h5 : 5 ≤ p.length) (hq : 4 ≤ q.length ∨ q = [])
    (hne : ¬ (c0 = d0 ∧ c1 = d1 ∧ c2 = d2 ∧ c3 = d3)) : (gotB (p ++ ([d0, d1, d2, d3] ++ q))).err = 10 := by
  have hl := body_len hf h
  have hwl := whole_len b
  have hwf := whole_form b []
  rw [List.append_nil, List.append_nil] at hwf
  obtain ⟨m, hm⟩ : ∃ m, m = (bodyB b).length := ⟨_, rfl⟩
  rw [← hm] at hwf hwl hl
  -- the first five bytes are as they were
  match p, h5 with
  | c :: p', h5 =>
    have hpl : 4 ≤ p'.length := by simpa using h5
    have hw' : c :: (p' ++ ([c0, c1, c2, c3] ++ q)) = 66 :: (fx m 4 ++ (bodyB b ++ fx (sumOf (66 :: (fx m 4 ++ bodyB b))) 4)) := by rw [← hwf, hw]; rfl
    injection hw' with hc hr
    subst hc
    have ht : ∀ x : List UInt8, (p' ++ x).take 4 = p'.take 4 := fun x => List.take_append_of_le_length hpl
    have hp4 : p'.take 4 = fx m 4 := by
      rw [← ht ([c0, c1, c2, c3] ++ q), hr, List.take_left' (fx_length _ _)]
    have hlen : p'.length + 4 + q.length = m + 8 := by
      have := congrArg List.length hw
      rw [hwl] at this
      simp at this
      omega
    have hbe : be ((p' ++ ([d0, d1, d2, d3] ++ q)).take 4) = m := by rw [ht, hp4, be_four _ (by omega)]
    have key : frO (66 :: (p' ++ ([d0, d1, d2, d3] ++ q))) = ([], 10) := by
      refine fr_sum (by decide) (by rw [hbe]; omega) (by rw [hbe]; simp; omega) ?_
      rw [hbe]
      have hdrop : fx m 4 ++ bodyB b = (p' ++ ([c0, c1, c2, c3] ++ q)).take (4 + m) := by
        rw [hr, ← List.append_assoc, List.take_left' (by rw [List.length_append, fx_length, hm])]
      have hsum : (p' ++ ([c0, c1, c2, c3] ++ q)).drop (4 + m) = fx (sumOf (66 :: (fx m 4 ++ bodyB b))) 4 := by
        rw [hr, ← List.append_assoc, List.drop_left' (by rw [List.length_append, fx_length, hm])]
      rw [show 5 + m = (4 + m) + 1 by omega, List.take_succ_cons]
      rcases hq with hq | hq
      · -- in the body
        obtain ⟨q1, S, rfl, hS⟩ : ∃ q1 S, q = q1 ++ S ∧ S.length = 4 := ⟨q.take (q.length - 4), q.drop (q.length - 4), (List.take_append_drop _ _).symm, by rw [List.length_drop]; omega⟩
        have hq1 : p'.length + 4 + q1.length = 4 + m := by
          rw [List.length_append] at hlen; omega
        have e1 : ∀ x0 x1 x2 x3 : UInt8, p' ++ ([x0, x1, x2, x3] ++ (q1 ++ S)) = (p' ++ ([x0, x1, x2, x3] ++ q1)) ++ S := by simp
        have e2 : ∀ x0 x1 x2 x3 : UInt8, (p' ++ ([x0, x1, x2, x3] ++ q1)).length = 4 + m := by intros; simp; omega
        rw [e1, List.drop_left' (e2 _ _ _ _)] at hsum
        rw [e1, List.take_left' (e2 _ _ _ _)] at hdrop
        rw [e1, List.drop_left' (e2 _ _ _ _), List.take_left' (e2 _ _ _ _), hsum, hdrop]
        rw [List.take_of_length_le (by rw [fx_length]; omega)]
        intro hx
        have := fx_inj (sumOf_lt _) (sumOf_lt _) hx
        exact hne (sum_four (p := 66 :: p') (q := q1) this)
      · -- the last four
        subst hq
        have hp : p'.length = 4 + m := by simp at hlen; omega
        rw [List.append_nil] at hsum hdrop ⊢
        rw [List.drop_left' hp] at hsum ⊢
        rw [List.take_left' hp] at hdrop ⊢
        rw [hdrop] at hsum
        intro hx
        have hx' : [d0, d1, d2, d3] = fx (sumOf (66 :: p')) 4 := hx
        rw [← hx'] at hsum
        injection hsum with a0 hsum
        injection hsum with a1 hsum
        injection hsum with a2 hsum
        injection hsum with a3 _
        exact hne ⟨a0, a1, a2, a3⟩
    have e : (66 :: p') ++ ([d0, d1, d2, d3] ++ q) = 66 :: (p' ++ ([d0, d1, d2, d3] ++ q)) := rfl
    rw [e, gotB_err key (by omega)]
    rfl

end Go.Proofs.YthhcopeejhhpgaaDoor.Bat
