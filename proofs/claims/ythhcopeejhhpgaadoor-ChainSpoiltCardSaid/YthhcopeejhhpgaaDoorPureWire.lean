/- Numbers and texts as bytes: the plain functions, and what follows of them. -/
import Derived.Laws.BitsAllLaws
namespace Go.Proofs.YthhcopeejhhpgaaDoor.Wire

/-- A number's bytes. -/
def putL (n : Nat) : List UInt8 := if n < 128 then [UInt8.ofNat n] else UInt8.ofNat (n % 128 + 128) :: putL (n / 128)
termination_by n

theorem ofNat_toNat (n : Nat) (h : n < 256) : (UInt8.ofNat n).toNat = n := by simp; omega

theorem putL_lt {n : Nat} (h : n < 128) : putL n = [UInt8.ofNat n] := by rw [putL, if_pos h]
theorem putL_ge {n : Nat} (h : 128 ≤ n) : putL n = UInt8.ofNat (n % 128 + 128) :: putL (n / 128) := by rw [putL, if_neg (by omega)]

theorem putL_pos (n : Nat) : 1 ≤ (putL n).length := by
  by_cases h : n < 128
  · rw [putL_lt h]; simp
  · rw [putL_ge (by omega)]; simp

theorem putL_mono (a : Nat) : ∀ b, a ≤ b → (putL a).length ≤ (putL b).length := by
  induction a using Nat.strongRecOn with
  | _ a ih =>
    intro b hb
    by_cases h : a < 128
    · rw [putL_lt h]; exact putL_pos b
    · rw [putL_ge (show 128 ≤ a by omega), putL_ge (show 128 ≤ b by omega)]
      have := ih (a / 128) (by omega) (b / 128) (by omega)
      simp; omega

theorem putL_len (k : Nat) : ∀ n, n < 128 ^ (k + 1) → (putL n).length ≤ k + 1 := by
  induction k with
  | zero => intro n h; rw [putL_lt (by omega)]; simp
  | succ k ih =>
    intro n h
    by_cases h1 : n < 128
    · rw [putL_lt h1]; simp
    · rw [putL_ge (by omega)]
      have := ih (n / 128) (by rw [Nat.pow_succ] at h; omega)
      simp; omega

theorem putL_ten {n : Nat} (h : n < 18446744073709551616) : (putL n).length ≤ 10 := putL_len 9 n (by omega)

/-- What is taken of bytes: the number, what is left, and the error's number. -/
def tkGo : Nat → Nat → List UInt8 → Nat × List UInt8 × Nat
  | i, _, [] => if 10 ≤ i then (0, [], 6) else (0, [], 4)
  | i, acc, c :: r => if 10 ≤ i then (0, [], 6) else if i = 9 ∧ 1 < c.toNat then (0, [], 6)
      else if c.toNat < 128 then (if c.toNat = 0 ∧ 0 < i then (0, [], 3) else (acc + c.toNat % 128 * 128 ^ i, r, 0))
      else tkGo (i + 1) (acc + c.toNat % 128 * 128 ^ i) r

def tk (l : List UInt8) : Nat × List UInt8 × Nat := tkGo 0 0 l

theorem tkGo_nil {i acc : Nat} (h : i < 10) : tkGo i acc [] = (0, [], 4) := by rw [tkGo, if_neg (by omega)]
theorem tkGo_ten {i acc : Nat} (h : 10 ≤ i) (l : List UInt8) : tkGo i acc l = (0, [], 6) := by
  cases l with
  | nil => rw [tkGo, if_pos h]
  | cons c r => rw [tkGo, if_pos h]
theorem tkGo_big {acc : Nat} {c : UInt8} {r : List UInt8} (h : 1 < c.toNat) : tkGo 9 acc (c :: r) = (0, [], 6) := by
  rw [tkGo, if_neg (by omega), if_pos ⟨rfl, h⟩]
theorem tkGo_zero {i acc : Nat} {c : UInt8} {r : List UInt8} (hi : i < 10) (h0 : 0 < i) (h : c.toNat = 0) : tkGo i acc (c :: r) = (0, [], 3) := by
  rw [tkGo, if_neg (by omega), if_neg (by omega), if_pos (by omega), if_pos ⟨h, h0⟩]
theorem tkGo_last {i acc : Nat} {c : UInt8} {r : List UInt8} (hi : i < 10) (h9 : ¬ (i = 9 ∧ 1 < c.toNat)) (h : c.toNat < 128) (h0 : ¬ (c.toNat = 0 ∧ 0 < i)) : tkGo i acc (c :: r) = (acc + c.toNat % 128 * 128 ^ i, r, 0) := by
  rw [tkGo, if_neg (by omega), if_neg h9, if_pos h, if_neg h0]
theorem tkGo_more {i acc : Nat} {c : UInt8} {r : List UInt8} (hi : i < 9) (h : 128 ≤ c.toNat) : tkGo i acc (c :: r) = tkGo (i + 1) (acc + c.toNat % 128 * 128 ^ i) r := by
  rw [tkGo, if_neg (by omega), if_neg (by omega), if_neg (by omega)]

theorem pow_nine : (128 : Nat) ^ 9 = 9223372036854775808 := by decide

theorem pow_le_of {i j : Nat} (h : i ≤ j) : (128 : Nat) ^ i ≤ 128 ^ j := Nat.pow_le_pow_right (by omega) h

theorem tkGo_put (n : Nat) : ∀ (i acc : Nat) (s : List UInt8), acc + n * 128 ^ i < 18446744073709551616 → (0 < i → 0 < n) → tkGo i acc (putL n ++ s) = (acc + n * 128 ^ i, s, 0) := by
  induction n using Nat.strongRecOn with
  | _ n ih =>
    intro i acc s hv h0
    have hi : i < 10 := by
      refine Nat.lt_of_not_le fun h => ?_
      have h1 := pow_le_of h
      have h2 : 1 * 128 ^ i ≤ n * 128 ^ i := Nat.mul_le_mul_right _ (h0 (by omega))
      have : (128 : Nat) ^ 10 = 1180591620717411303424 := by decide
      omega
    by_cases h : n < 128
    · rw [putL_lt h]
      have hc := ofNat_toNat n (by omega)
      have := tkGo_last (i := i) (acc := acc) (c := UInt8.ofNat n) (r := s) hi (by
        rintro ⟨rfl, h1⟩
        rw [hc] at h1
        rw [pow_nine] at hv
        omega) (by omega) (by rintro ⟨h1, h2⟩; have := h0 h2; omega)
      rw [hc, Nat.mod_eq_of_lt h] at this
      exact this
    · rw [putL_ge (by omega)]
      have hc := ofNat_toNat (n % 128 + 128) (by omega)
      have h9 : i < 9 := by
        refine Nat.lt_of_not_le fun h9 => ?_
        obtain rfl : i = 9 := by omega
        rw [pow_nine] at hv
        omega
      have e : acc + n % 128 * 128 ^ i + n / 128 * 128 ^ (i + 1) = acc + n * 128 ^ i := by
        rw [Nat.pow_succ, Nat.add_assoc]
        congr 1
        rw [Nat.mul_comm (128 ^ i) 128, ← Nat.mul_assoc, ← Nat.add_mul]
        congr 1
        omega
      have := tkGo_more (i := i) (acc := acc) (c := UInt8.ofNat (n % 128 + 128)) (r := putL (n / 128) ++ s) h9 (by omega)
      rw [List.cons_append, this, hc, show (n % 128 + 128) % 128 = n % 128 by omega, ih (n / 128) (by omega) (i + 1) _ s (by omega) (by omega), e]

theorem tk_put {n : Nat} (h : n < 18446744073709551616) (s : List UInt8) : tk (putL n ++ s) = (n, s, 0) := by
  have := tkGo_put n 0 0 s (by simpa using h) (by omega)
  simpa [tk] using this

theorem tkGo_back (l : List UInt8) : ∀ (i acc v : Nat) (r : List UInt8), acc < 128 ^ i → tkGo i acc l = (v, r, 0) → ∃ n, v = acc + n * 128 ^ i ∧ putL n ++ r = l ∧ (0 < i → 0 < n) ∧ v < 18446744073709551616 := by
  induction l with
  | nil => intro i acc v r _ h; rw [tkGo] at h; split at h <;> cases h
  | cons c t ih =>
    intro i acc v r ha h
    have hc := c.toNat_lt
    rw [tkGo] at h
    by_cases h10 : 10 ≤ i
    · rw [if_pos h10] at h; cases h
    · rw [if_neg h10] at h
      by_cases h9 : i = 9 ∧ 1 < c.toNat
      · rw [if_pos h9] at h; cases h
      · rw [if_neg h9] at h
        by_cases h1 : c.toNat < 128
        · rw [if_pos h1] at h
          by_cases h2 : c.toNat = 0 ∧ 0 < i
          · rw [if_pos h2] at h; cases h
          · rw [if_neg h2, Nat.mod_eq_of_lt h1] at h
            cases h
            refine ⟨c.toNat, rfl, by rw [putL_lt h1]; simp, by omega, ?_⟩
            by_cases hi : i = 9
            · subst hi
              rw [pow_nine] at ha ⊢
              omega
            · have p : (128 : Nat) ^ (i + 1) ≤ 128 ^ 9 := pow_le_of (by omega)
              rw [Nat.pow_succ, pow_nine] at p
              have : c.toNat * 128 ^ i ≤ 127 * 128 ^ i := Nat.mul_le_mul_right _ (by omega)
              omega
        · rw [if_neg h1] at h
          have hm : c.toNat % 128 ≤ 127 := by omega
          have hmm : c.toNat % 128 * 128 ^ i ≤ 127 * 128 ^ i := Nat.mul_le_mul_right _ hm
          obtain ⟨n, hv, hp, hn, hl⟩ := ih (i + 1) _ v r (by rw [Nat.pow_succ]; omega) h
          have hn' := hn (by omega)
          refine ⟨n * 128 + c.toNat % 128, ?_, ?_, by omega, hl⟩
          · rw [hv, Nat.pow_succ, Nat.add_mul, Nat.mul_comm (128 ^ i) 128, ← Nat.mul_assoc]; omega
          · rw [putL_ge (by omega), show (n * 128 + c.toNat % 128) / 128 = n by omega, show (n * 128 + c.toNat % 128) % 128 + 128 = c.toNat by omega, List.cons_append, hp]
            simp

theorem tk_back {l r : List UInt8} {v : Nat} (h : tk l = (v, r, 0)) : putL v ++ r = l ∧ v < 18446744073709551616 := by
  obtain ⟨n, hv, hp, _, hl⟩ := tkGo_back l 0 0 v r (by simp) h
  simp at hv
  exact ⟨by rw [hv]; exact hp, hl⟩

theorem tkGo_lt (l : List UInt8) : ∀ (i acc : Nat), acc < 128 ^ i → (tkGo i acc l).1 < 18446744073709551616 ∧ (tkGo i acc l).2.2 < 8 ∧ (tkGo i acc l).2.1.length ≤ l.length := by
  induction l with
  | nil => intro i acc _; rw [tkGo]; split <;> simp
  | cons c t ih =>
    intro i acc ha
    rw [tkGo]
    by_cases h10 : 10 ≤ i
    · rw [if_pos h10]; simp
    · rw [if_neg h10]
      by_cases h9 : i = 9 ∧ 1 < c.toNat
      · rw [if_pos h9]; simp
      · rw [if_neg h9]
        have hm : c.toNat % 128 ≤ 127 := by omega
        have hmm : c.toNat % 128 * 128 ^ i ≤ 127 * 128 ^ i := Nat.mul_le_mul_right _ hm
        by_cases h1 : c.toNat < 128
        · rw [if_pos h1]
          by_cases h2 : c.toNat = 0 ∧ 0 < i
          · rw [if_pos h2]; simp
          · rw [if_neg h2]
            refine ⟨?_, by simp, by simp⟩
            show acc + c.toNat % 128 * 128 ^ i < _
            by_cases hi : i = 9
            · subst hi
              rw [pow_nine] at ha ⊢
              omega
            · have p : (128 : Nat) ^ (i + 1) ≤ 128 ^ 9 := pow_le_of (by omega)
              rw [Nat.pow_succ, pow_nine] at p
              omega
        · rw [if_neg h1]
          obtain ⟨a, b, d⟩ := ih (i + 1) (acc + c.toNat % 128 * 128 ^ i) (by rw [Nat.pow_succ]; omega)
          exact ⟨a, b, by simp; omega⟩

theorem tk_lt (l : List UInt8) : (tk l).1 < 18446744073709551616 := (tkGo_lt l 0 0 (by simp)).1
theorem tk_err (l : List UInt8) : (tk l).2.2 < 8 := (tkGo_lt l 0 0 (by simp)).2.1
theorem tk_len (l : List UInt8) : (tk l).2.1.length ≤ l.length := (tkGo_lt l 0 0 (by simp)).2.2

/-- Bytes as a number, the highest one first. -/
def be (l : List UInt8) : Nat := l.foldl (fun a c => 256 * a + c.toNat) 0
theorem be_snoc (l : List UInt8) (c : UInt8) : be (l ++ [c]) = 256 * be l + c.toNat := by simp [be]
theorem be_lt (l : List UInt8) : be l < 256 ^ l.length := by
  generalize h : l.reverse = m
  induction m generalizing l with
  | nil => obtain rfl : l = [] := by simpa using h
           simp [be]
  | cons c m ih =>
    obtain rfl : l = m.reverse ++ [c] := by rw [← List.reverse_reverse l, h]; simp
    rw [be_snoc, List.length_append, List.length_singleton, Nat.pow_succ]
    have := ih m.reverse (by simp)
    have := c.toNat_lt
    omega

/-- The lowest w bytes of a number, the highest one first. -/
def fx (n : Nat) : Nat → List UInt8
  | 0 => []
  | w + 1 => UInt8.ofNat (n / 256 ^ w % 256) :: fx n w
theorem fx_length (n w : Nat) : (fx n w).length = w := by
  induction w with
  | zero => rfl
  | succ w ih => simp [fx, ih]

theorem foldl_be (l : List UInt8) (a : Nat) : l.foldl (fun a c => 256 * a + c.toNat) a = a * 256 ^ l.length + be l := by
  induction l generalizing a with
  | nil => simp [be]
  | cons c l ih =>
    have e : be (c :: l) = c.toNat * 256 ^ l.length + be l := by
      show l.foldl _ (256 * 0 + c.toNat) = _
      rw [ih]; simp
    rw [List.foldl_cons, ih, e, List.length_cons, Nat.pow_succ, Nat.add_mul, Nat.mul_comm 256 a, Nat.mul_assoc, Nat.mul_comm 256, Nat.add_assoc]

theorem be_cons (c : UInt8) (l : List UInt8) : be (c :: l) = c.toNat * 256 ^ l.length + be l := by
  show l.foldl _ (256 * 0 + c.toNat) = _
  rw [foldl_be]; simp

theorem be_fx (n w : Nat) : be (fx n w) = n % 256 ^ w := by
  induction w with
  | zero => simp [fx, be, Nat.mod_one]
  | succ w ih =>
    rw [fx, be_cons, ih, fx_length, ofNat_toNat _ (by omega), Nat.pow_succ, Nat.mod_mul, Nat.mul_comm]
    omega

theorem fx_mod (n m : Nat) : ∀ w, w ≤ m → fx (n % 256 ^ m) w = fx n w
  | 0, _ => rfl
  | w + 1, h => by
    rw [fx, fx, fx_mod n m w (by omega)]
    congr 2
    obtain ⟨d, rfl⟩ : ∃ d, m = w + 1 + d := ⟨m - (w + 1), by omega⟩
    rw [Nat.pow_add, Nat.pow_succ, Nat.mul_assoc, Nat.mod_mul_right_div_self, Nat.mod_mul_right_mod]

theorem fx_back (n w : Nat) : fx (n % 256 ^ w) w = fx n w := fx_mod n w w (Nat.le_refl w)

/-- The byte at place k of a fixed width. -/
theorem fx_at (n : Nat) : ∀ (w k : Nat), k < w → (fx n w)[k]? = some (UInt8.ofNat (n / 256 ^ (w - 1 - k) % 256))
  | 0, _, h => by omega
  | w + 1, 0, _ => by simp [fx]
  | w + 1, k + 1, h => by
    rw [fx, List.getElem?_cons_succ, fx_at n w k (by omega), show w + 1 - 1 - (k + 1) = w - 1 - k by omega]

/-- A text, cut. -/
def cutL (l : List UInt8) (n : Nat) : List UInt8 × List UInt8 × Nat := if l.length < n then ([], [], 4) else (l.take n, l.drop n, 0)

def txt (t : List UInt8) : List UInt8 × Nat := if 65536 < t.length then ([], 2) else (putL t.length ++ t, 0)
def tkt (s : List UInt8) : List UInt8 × List UInt8 × Nat :=
  if (tk s).2.2 ≠ 0 then ([], [], (tk s).2.2) else if 65536 < (tk s).1 then ([], [], 2) else cutL (tk s).2.1 (tk s).1
def tkf (s : List UInt8) (w : Int) : Nat × List UInt8 × Nat :=
  if w < 1 ∨ 8 < w then (0, [], 1) else if (s.length : Int) < w then (0, [], 4) else (be (s.take w.toNat), s.drop w.toNat, 0)
def fxw (n : Nat) (w : Int) : List UInt8 := if w < 1 ∨ 8 < w then [] else fx n w.toNat

theorem tk_three {l : List UInt8} {v : Nat} {r : List UInt8} {e : Nat} (h1 : (tk l).1 = v) (h2 : (tk l).2.1 = r) (h3 : (tk l).2.2 = e) : tk l = (v, r, e) := by rw [← h1, ← h2, ← h3]

/-- What is put as a text is taken again. -/
theorem tkt_txt {t s : List UInt8} (h : t.length ≤ 65536) : tkt ((txt t).1 ++ s) = (t, s, 0) := by
  have e : txt t = (putL t.length ++ t, 0) := by rw [txt, if_neg (by omega)]
  rw [e]
  have := tk_put (n := t.length) (by omega) (t ++ s)
  rw [List.append_assoc]
  unfold tkt
  rw [this]
  simp only [ne_eq, not_true_eq_false, if_false]
  rw [if_neg (by omega), cutL, if_neg (by simp)]
  simp

theorem tkt_back {s c left : List UInt8} (h : tkt s = (c, left, 0)) : txt c = (putL c.length ++ c, 0) ∧ putL c.length ++ c ++ left = s ∧ c.length ≤ 65536 := by
  unfold tkt at h
  by_cases h0 : (tk s).2.2 = 0
  · rw [if_neg (by simpa using h0)] at h
    by_cases h1 : 65536 < (tk s).1
    · rw [if_pos h1] at h; cases h
    · rw [if_neg h1, cutL] at h
      by_cases h2 : (tk s).2.1.length < (tk s).1
      · rw [if_pos h2] at h; cases h
      · rw [if_neg h2] at h
        obtain ⟨hb, _⟩ := tk_back (tk_three (l := s) rfl rfl h0)
        cases h
        have hl : ((tk s).2.1.take (tk s).1).length = (tk s).1 := by rw [List.length_take]; omega
        rw [txt, hl, if_neg h1]
        refine ⟨rfl, ?_, by omega⟩
        rw [List.append_assoc, List.take_append_drop, hb]
  · rw [if_pos h0] at h
    exact absurd (congrArg (fun p => p.2.2) h) h0

theorem tkt_bad {s : List UInt8} (h : (tkt s).2.2 ≠ 0) : (tkt s).1 = [] ∧ (tkt s).2.1 = [] := by
  unfold tkt at h ⊢
  by_cases h0 : (tk s).2.2 = 0
  · rw [if_neg (by simpa using h0)] at h ⊢
    by_cases h1 : 65536 < (tk s).1
    · rw [if_pos h1]; exact ⟨rfl, rfl⟩
    · rw [if_neg h1, cutL] at h ⊢
      by_cases h2 : (tk s).2.1.length < (tk s).1
      · rw [if_pos h2]; exact ⟨rfl, rfl⟩
      · rw [if_neg h2] at h
        exact absurd rfl h
  · rw [if_pos h0]; exact ⟨rfl, rfl⟩

theorem putL_inj {a b : Nat} (ha : a < 18446744073709551616) (hb : b < 18446744073709551616) (h : putL a = putL b) : a = b := by
  have x := tk_put ha []
  have y := tk_put hb []
  rw [h, y] at x
  cases x; rfl

theorem putL_front {a b : Nat} (ha : a < 18446744073709551616) (hb : b < 18446744073709551616) {m : Nat} (hm : m = min (putL a).length (putL b).length) (h : (putL a).take m = (putL b).take m) : a = b := by
  by_cases hl : (putL a).length ≤ (putL b).length
  · have e1 : (putL a).take m = putL a := List.take_of_length_le (by omega)
    have x := tk_put ha ((putL b).drop m)
    have y := tk_put hb []
    rw [e1] at h
    rw [h, List.take_append_drop, ← List.append_nil (putL b), y] at x
    exact (congrArg (fun p => p.1) x).symm
  · have e1 : (putL b).take m = putL b := List.take_of_length_le (by omega)
    have x := tk_put hb ((putL a).drop m)
    have y := tk_put ha []
    rw [e1] at h
    rw [← h, List.take_append_drop, ← List.append_nil (putL a), y] at x
    exact congrArg (fun p => p.1) x

/-- An int as a number, and back. -/
def sg (k : Int) : Nat := if k < 0 then (-2 * k - 1).toNat else (2 * k).toNat
def sd (n : Nat) : Int := if n % 2 = 1 then -((n / 2 : Nat) : Int) - 1 else ((n / 2 : Nat) : Int)
theorem sd_sg (k : Int) : sd (sg k) = k := by
  unfold sd sg
  by_cases h : k < 0
  · rw [if_pos h, if_pos (by omega)]; omega
  · rw [if_neg h, if_neg (by omega)]; omega
theorem sg_sd (n : Nat) : sg (sd n) = n := by
  unfold sd sg
  by_cases h : n % 2 = 1
  · rw [if_pos h, if_pos (by omega)]; omega
  · rw [if_neg h, if_neg (by omega)]; omega
theorem sg_near {k j : Int} (h : (0 ≤ k ∧ k ≤ j) ∨ (k < 0 ∧ j ≤ k)) : sg k ≤ sg j := by
  unfold sg
  rcases h with ⟨h1, h2⟩ | ⟨h1, h2⟩
  · rw [if_neg (by omega), if_neg (by omega)]; omega
  · rw [if_pos h1, if_pos (by omega)]; omega
theorem sg_lt {k : Int} (h1 : -9223372036854775808 ≤ k) (h2 : k ≤ 9223372036854775807) : sg k < 18446744073709551616 := by
  unfold sg
  split <;> omega
theorem sd_in {n : Nat} (h : n < 18446744073709551616) : -9223372036854775808 ≤ sd n ∧ sd n ≤ 9223372036854775807 := by
  unfold sd
  split <;> omega

end Go.Proofs.YthhcopeejhhpgaaDoor.Wire
