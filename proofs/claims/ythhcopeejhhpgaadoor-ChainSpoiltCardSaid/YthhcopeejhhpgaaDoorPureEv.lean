/- Events as bytes: the plain functions. -/
import Derived.Test.YthhcopeejhhpgaaDoorPureWire
namespace Go.Proofs.YthhcopeejhhpgaaDoor.Evt
open Wire

def isK (k : Int) : Bool := decide (1 ≤ k) && decide (k ≤ 8)
def isG (n : Int) : Bool := decide (0 ≤ n) && decide (n ≤ 4294967295)
/-- Is an event right? -/
def isE (t p k a b : Int) : Bool := isK k && decide (0 ≤ t) && decide (t ≤ 1099511627776) && decide (-1 ≤ p) && decide (p < 32) && isG a && isG b

theorem isK_yes {k : Int} : isK k = true ↔ 1 ≤ k ∧ k ≤ 8 := by simp [isK]
theorem isG_yes {n : Int} : isG n = true ↔ 0 ≤ n ∧ n ≤ 4294967295 := by simp [isG]

/-- What is right, in its bounds. -/
structure Right (t p k a b : Int) : Prop where
  k1 : 1 ≤ k
  k8 : k ≤ 8
  t0 : 0 ≤ t
  t1 : t ≤ 1099511627776
  p0 : -1 ≤ p
  p1 : p < 32
  a0 : 0 ≤ a
  a1 : a ≤ 4294967295
  b0 : 0 ≤ b
  b1 : b ≤ 4294967295

theorem isE_yes {t p k a b : Int} : isE t p k a b = true ↔ Right t p k a b := by
  unfold isE
  simp only [Bool.and_eq_true, isK_yes, isG_yes, decide_eq_true_eq]
  constructor
  · rintro ⟨⟨⟨⟨⟨⟨⟨h1, h2⟩, h3⟩, h4⟩, h5⟩, h6⟩, h7, h8⟩, h9, h10⟩
    exact ⟨h1, h2, h3, h4, h5, h6, h7, h8, h9, h10⟩
  · rintro ⟨h1, h2, h3, h4, h5, h6, h7, h8, h9, h10⟩
    exact ⟨⟨⟨⟨⟨⟨⟨h1, h2⟩, h3⟩, h4⟩, h5⟩, h6⟩, h7, h8⟩, h9, h10⟩

theorem isE_ways (t p k a : Int) : (isK k = false) ∨ (isK k = true ∧ decide (0 ≤ t) = false) ∨ (isK k = true ∧ decide (0 ≤ t) = true ∧ decide (t ≤ 1099511627776) = false)
    ∨ (isK k = true ∧ decide (0 ≤ t) = true ∧ decide (t ≤ 1099511627776) = true ∧ decide (-1 ≤ p) = false)
    ∨ (isK k = true ∧ decide (0 ≤ t) = true ∧ decide (t ≤ 1099511627776) = true ∧ decide (-1 ≤ p) = true ∧ decide (p < 32) = false)
    ∨ (isK k = true ∧ decide (0 ≤ t) = true ∧ decide (t ≤ 1099511627776) = true ∧ decide (-1 ≤ p) = true ∧ decide (p < 32) = true ∧ isG a = false)
    ∨ (isK k = true ∧ decide (0 ≤ t) = true ∧ decide (t ≤ 1099511627776) = true ∧ decide (-1 ≤ p) = true ∧ decide (p < 32) = true ∧ isG a = true) := by
  cases isK k <;> cases decide (0 ≤ t) <;> cases decide (t ≤ 1099511627776) <;> cases decide (-1 ≤ p) <;> cases decide (p < 32) <;> cases isG a <;> simp

theorem isE_ways2 (t p k a b : Int) : (decide (1 ≤ k) = false)
    ∨ (decide (1 ≤ k) = true ∧ decide (k ≤ 8) = false)
    ∨ (decide (1 ≤ k) = true ∧ decide (k ≤ 8) = true ∧ decide (0 ≤ t) = false)
    ∨ (decide (1 ≤ k) = true ∧ decide (k ≤ 8) = true ∧ decide (0 ≤ t) = true ∧ decide (t ≤ 1099511627776) = false)
    ∨ (decide (1 ≤ k) = true ∧ decide (k ≤ 8) = true ∧ decide (0 ≤ t) = true ∧ decide (t ≤ 1099511627776) = true ∧ decide (-1 ≤ p) = false)
    ∨ (decide (1 ≤ k) = true ∧ decide (k ≤ 8) = true ∧ decide (0 ≤ t) = true ∧ decide (t ≤ 1099511627776) = true ∧ decide (-1 ≤ p) = true ∧ decide (p ≤ 31) = false)
    ∨ (decide (1 ≤ k) = true ∧ decide (k ≤ 8) = true ∧ decide (0 ≤ t) = true ∧ decide (t ≤ 1099511627776) = true ∧ decide (-1 ≤ p) = true ∧ decide (p ≤ 31) = true ∧ decide (0 ≤ a) = false)
    ∨ (decide (1 ≤ k) = true ∧ decide (k ≤ 8) = true ∧ decide (0 ≤ t) = true ∧ decide (t ≤ 1099511627776) = true ∧ decide (-1 ≤ p) = true ∧ decide (p ≤ 31) = true ∧ decide (0 ≤ a) = true ∧ decide (a ≤ 4294967295) = false)
    ∨ (decide (1 ≤ k) = true ∧ decide (k ≤ 8) = true ∧ decide (0 ≤ t) = true ∧ decide (t ≤ 1099511627776) = true ∧ decide (-1 ≤ p) = true ∧ decide (p ≤ 31) = true ∧ decide (0 ≤ a) = true ∧ decide (a ≤ 4294967295) = true ∧ decide (0 ≤ b) = false)
    ∨ (decide (1 ≤ k) = true ∧ decide (k ≤ 8) = true ∧ decide (0 ≤ t) = true ∧ decide (t ≤ 1099511627776) = true ∧ decide (-1 ≤ p) = true ∧ decide (p ≤ 31) = true ∧ decide (0 ≤ a) = true ∧ decide (a ≤ 4294967295) = true ∧ decide (0 ≤ b) = true) := by
  cases decide (1 ≤ k) <;> cases decide (k ≤ 8) <;> cases decide (0 ≤ t) <;> cases decide (t ≤ 1099511627776) <;> cases decide (-1 ≤ p) <;> cases decide (p ≤ 31) <;> cases decide (0 ≤ a) <;> cases decide (a ≤ 4294967295) <;> cases decide (0 ≤ b) <;> simp
theorem isE_two (t p k a b : Int) : isE t p k a b = (decide (1 ≤ k) && decide (k ≤ 8) && decide (0 ≤ t) && decide (t ≤ 1099511627776) && decide (-1 ≤ p) && decide (p ≤ 31) && decide (0 ≤ a) && decide (a ≤ 4294967295) && decide (0 ≤ b) && decide (b ≤ 4294967295)) := by
  have h : decide (p < 32) = decide (p ≤ 31) := decide_eq_decide.2 (by omega)
  unfold isE isK isG
  rw [h]
  simp only [Bool.and_assoc]

/-- The bytes of a right event's numbers. -/
def putE (s : Nat) (t p k a b : Int) : List UInt8 := UInt8.ofNat k.toNat :: (putL s ++ (putL t.toNat ++ (putL (p + 1).toNat ++ (putL a.toNat ++ putL b.toNat))))

theorem putE_len {s : Nat} {t p k a b : Int} (hs : s < 18446744073709551616) (h : Right t p k a b) : 6 ≤ (putE s t p k a b).length ∧ (putE s t p k a b).length ≤ 30 := by
  have h1 := putL_ten hs
  have h2 := putL_len 5 t.toNat (by have := h.t1; omega)
  have h3 := putL_len 0 (p + 1).toNat (by have := h.p1; omega)
  have h4 := putL_len 4 a.toNat (by have := h.a1; omega)
  have h5 := putL_len 4 b.toNat (by have := h.b1; omega)
  have g1 := putL_pos s
  have g2 := putL_pos t.toNat
  have g3 := putL_pos (p + 1).toNat
  have g4 := putL_pos a.toNat
  have g5 := putL_pos b.toNat
  simp only [putE, List.length_cons, List.length_append]
  omega

/-- A number as a field: none of those above the greatest tick is one. -/
def sm (n : Nat) : Int := if 1099511627776 < n then -2 else n

/-- Where the taking stands: what is left, and the first error. -/
def stp (q : List UInt8 × Nat) : List UInt8 × Nat := if q.2 = 0 then (tk q.1).2 else q
def vlu (q : List UInt8 × Nat) : Nat := if q.2 = 0 then (tk q.1).1 else 0
def st (l : List UInt8) : Nat → List UInt8 × Nat
  | 0 => (l, 0)
  | n + 1 => stp (st l n)
/-- The number that is taken at place n. -/
def vl (l : List UInt8) (n : Nat) : Nat := vlu (st l n)

theorem stp_err {q : List UInt8 × Nat} (h : q.2 ≠ 0) : stp q = q := by rw [stp, if_neg h]
theorem st_stays {l : List UInt8} {n : Nat} (h : (st l n).2 ≠ 0) : ∀ k, st l (n + k) = st l n
  | 0 => rfl
  | k + 1 => by rw [← Nat.add_assoc, st, st_stays h k, stp_err h]
theorem st_fine {l : List UInt8} {n k : Nat} (h : (st l (n + k)).2 = 0) : (st l n).2 = 0 := by
  by_cases hn : (st l n).2 = 0
  · exact hn
  · rw [st_stays hn k] at h; exact h
theorem st_len (l : List UInt8) : ∀ n, (st l n).1.length ≤ l.length
  | 0 => Nat.le_refl _
  | n + 1 => by
    rw [st, stp]
    split
    · exact Nat.le_trans (tk_len _) (st_len l n)
    · exact st_len l n
theorem st_err (l : List UInt8) : ∀ n, (st l n).2 < 8
  | 0 => by simp [st]
  | n + 1 => by
    rw [st, stp]
    split
    · exact tk_err _
    · exact st_err l n
theorem vl_lt (l : List UInt8) (n : Nat) : vl l n < 18446744073709551616 := by
  unfold vl vlu
  split
  · exact tk_lt _
  · omega
theorem sm_lo (n : Nat) : -2 ≤ sm n := by unfold sm; split <;> omega
theorem sm_hi (n : Nat) : sm n ≤ 1099511627776 := by unfold sm; split <;> omega

/-- What is told of an event's bytes: the numbers, as fields, and the error. -/
structure Told where
  seq : Nat
  tick : Int
  part : Int
  kind : Int
  a : Int
  b : Int
  err : Nat

def nothing (e : Nat) : Told := ⟨0, 0, 0, 0, 0, 0, e⟩

/-- Of the bytes behind the first one, k. -/
def goR (k : Nat) (r : List UInt8) : Told :=
  if (st r 5).2 ≠ 0 then nothing (st r 5).2
  else if (st r 5).1 ≠ [] ∨ isE (sm (vl r 1)) (sm (vl r 2) - 1) k (sm (vl r 3)) (sm (vl r 4)) = false then nothing 3
  else ⟨vl r 0, sm (vl r 1), sm (vl r 2) - 1, k, sm (vl r 3), sm (vl r 4), 0⟩
def got : List UInt8 → Told
  | [] => nothing 4
  | c :: r => goR c.toNat r

theorem goR_err {k : Nat} {r : List UInt8} (h : (st r 5).2 ≠ 0) : goR k r = nothing (st r 5).2 := by rw [goR, if_pos h]
theorem goR_left {k : Nat} {r : List UInt8} (h : (st r 5).2 = 0) (h1 : (st r 5).1 ≠ []) : goR k r = nothing 3 := by rw [goR, if_neg (by simpa using h), if_pos (Or.inl h1)]
theorem goR_form {k : Nat} {r : List UInt8} (h : (st r 5).2 = 0) (h1 : isE (sm (vl r 1)) (sm (vl r 2) - 1) k (sm (vl r 3)) (sm (vl r 4)) = false) : goR k r = nothing 3 := by
  rw [goR, if_neg (by simpa using h), if_pos (Or.inr h1)]
theorem goR_fine {k : Nat} {r : List UInt8} (h : (st r 5).2 = 0) (h1 : (st r 5).1 = []) (h2 : isE (sm (vl r 1)) (sm (vl r 2) - 1) k (sm (vl r 3)) (sm (vl r 4)) = true) :
    goR k r = ⟨vl r 0, sm (vl r 1), sm (vl r 2) - 1, k, sm (vl r 3), sm (vl r 4), 0⟩ := by
  rw [goR, if_neg (by simpa using h), if_neg (by simp [h1, h2])]

/-- Five numbers that were put, and what stands behind them. -/
theorem st_put {s t p a b : Nat} (hs : s < 18446744073709551616) (ht : t < 18446744073709551616) (hp : p < 18446744073709551616) (ha : a < 18446744073709551616) (hb : b < 18446744073709551616) (z : List UInt8) {r : List UInt8}
    (hr : r = putL s ++ (putL t ++ (putL p ++ (putL a ++ (putL b ++ z))))) : st r 5 = (z, 0) ∧ vl r 0 = s ∧ vl r 1 = t ∧ vl r 2 = p ∧ vl r 3 = a ∧ vl r 4 = b := by
  have s0 : st r 0 = (r, 0) := rfl
  have e1 := tk_put hs (putL t ++ (putL p ++ (putL a ++ (putL b ++ z))))
  rw [← hr] at e1
  have s1 : st r 1 = (putL t ++ (putL p ++ (putL a ++ (putL b ++ z))), 0) := by rw [st, s0, stp, if_pos rfl, e1]
  have s2 : st r 2 = (putL p ++ (putL a ++ (putL b ++ z)), 0) := by rw [st, s1, stp, if_pos rfl, tk_put ht]
  have s3 : st r 3 = (putL a ++ (putL b ++ z), 0) := by rw [st, s2, stp, if_pos rfl, tk_put hp]
  have s4 : st r 4 = (putL b ++ z, 0) := by rw [st, s3, stp, if_pos rfl, tk_put ha]
  refine ⟨by rw [st, s4, stp, if_pos rfl, tk_put hb], ?_, ?_, ?_, ?_, ?_⟩
  · rw [vl, s0, vlu, if_pos rfl, e1]
  · rw [vl, s1, vlu, if_pos rfl, tk_put ht]
  · rw [vl, s2, vlu, if_pos rfl, tk_put hp]
  · rw [vl, s3, vlu, if_pos rfl, tk_put ha]
  · rw [vl, s4, vlu, if_pos rfl, tk_put hb]

theorem st_step {r : List UInt8} {n : Nat} (h : (st r (n + 1)).2 = 0) : (st r n).2 = 0 ∧ putL (vl r n) ++ (st r (n + 1)).1 = (st r n).1 := by
  have h0 : (st r n).2 = 0 := st_fine (k := 1) h
  refine ⟨h0, ?_⟩
  have e : st r (n + 1) = (tk (st r n).1).2 := by rw [st, stp, if_pos h0]
  rw [e] at h ⊢
  rw [vl, vlu, if_pos h0]
  exact (tk_back (tk_three rfl rfl h)).1

/-- What five numbers were taken of. -/
theorem st_back {r : List UInt8} (h : (st r 5).2 = 0) : putL (vl r 0) ++ (putL (vl r 1) ++ (putL (vl r 2) ++ (putL (vl r 3) ++ (putL (vl r 4) ++ (st r 5).1)))) = r := by
  obtain ⟨h4, e4⟩ := st_step h
  obtain ⟨h3, e3⟩ := st_step h4
  obtain ⟨h2, e2⟩ := st_step h3
  obtain ⟨h1, e1⟩ := st_step h2
  obtain ⟨_, e0⟩ := st_step h1
  rw [e4, e3, e2, e1, e0]
  rfl

theorem sm_of {n : Nat} (h : n ≤ 1099511627776) : sm n = n := by rw [sm, if_neg (by omega)]
theorem sm_back {n : Nat} (h : 0 ≤ sm n) : sm n = n := by
  unfold sm at h ⊢
  split at h
  · omega
  · rw [if_neg (by assumption)]

/-- What is put is got again; with bytes behind it it is none. -/
theorem got_put {s : Nat} {t p k a b : Int} (hs : s < 18446744073709551616) (h : Right t p k a b) : got (putE s t p k a b) = ⟨s, t, p, k, a, b, 0⟩ := by
  have hR := isE_yes.2 h
  obtain ⟨k1, k8, t0, t1, p0, p1, a0, a1, b0, b1⟩ := h
  have hk : (UInt8.ofNat k.toNat).toNat = k.toNat := ofNat_toNat _ (by omega)
  obtain ⟨r, hr⟩ : ∃ r, r = putL s ++ (putL t.toNat ++ (putL (p + 1).toNat ++ (putL a.toNat ++ putL b.toNat))) := ⟨_, rfl⟩
  obtain ⟨hst, v0, v1, v2, v3, v4⟩ := st_put (s := s) (t := t.toNat) (p := (p + 1).toNat) (a := a.toNat) (b := b.toNat) hs (by omega) (by omega) (by omega) (by omega) [] (r := r) (by rw [hr]; simp)
  have g1 : sm (vl r 1) = t := by rw [v1, sm_of (by omega)]; omega
  have g2 : sm (vl r 2) - 1 = p := by rw [v2, sm_of (by omega)]; omega
  have g3 : sm (vl r 3) = a := by rw [v3, sm_of (by omega)]; omega
  have g4 : sm (vl r 4) = b := by rw [v4, sm_of (by omega)]; omega
  have gk : ((UInt8.ofNat k.toNat).toNat : Int) = k := by rw [hk]; omega
  have e : got (putE s t p k a b) = goR (UInt8.ofNat k.toNat).toNat r := by rw [putE, ← hr, got]
  rw [e, goR_fine (by rw [hst]) (by rw [hst]) (by rw [g1, g2, g3, g4, gk]; exact hR), v0, g1, g2, g3, g4, gk]

theorem got_more {s : Nat} {t p k a b : Int} (hs : s < 18446744073709551616) (h : Right t p k a b) (c : UInt8) : got (putE s t p k a b ++ [c]) = nothing 3 := by
  obtain ⟨k1, k8, t0, t1, p0, p1, a0, a1, b0, b1⟩ := h
  obtain ⟨r, hr⟩ : ∃ r, r = putL s ++ (putL t.toNat ++ (putL (p + 1).toNat ++ (putL a.toNat ++ putL b.toNat))) := ⟨_, rfl⟩
  obtain ⟨hst, _⟩ := st_put (s := s) (t := t.toNat) (p := (p + 1).toNat) (a := a.toNat) (b := b.toNat) hs (by omega) (by omega) (by omega) (by omega) [c] (r := r ++ [c]) (by rw [hr]; simp)
  have e : got (putE s t p k a b ++ [c]) = goR (UInt8.ofNat k.toNat).toNat (r ++ [c]) := by rw [putE, ← hr, List.cons_append, got]
  rw [e, goR_left (by rw [hst]) (by rw [hst]; simp)]

theorem isE_of_got {l : List UInt8} (h : (got l).err = 0) : ∃ c r, l = c :: r ∧ (st r 5).2 = 0 ∧ (st r 5).1 = [] ∧ isE (sm (vl r 1)) (sm (vl r 2) - 1) c.toNat (sm (vl r 3)) (sm (vl r 4)) = true := by
  match l with
  | [] => exact absurd h (by simp [got, nothing])
  | c :: r =>
    refine ⟨c, r, rfl, ?_⟩
    have h' : (goR c.toNat r).err = 0 := h
    by_cases e : (st r 5).2 = 0
    · by_cases e1 : (st r 5).1 = []
      · cases e2 : isE (sm (vl r 1)) (sm (vl r 2) - 1) c.toNat (sm (vl r 3)) (sm (vl r 4)) with
        | true => exact ⟨e, e1, rfl⟩
        | false => rw [goR_form e e2] at h'; exact absurd h' (by simp [nothing])
      · rw [goR_left e e1] at h'; exact absurd h' (by simp [nothing])
    · rw [goR_err e] at h'; exact absurd h' e

/-- What is got is right, and just what would be put. -/
theorem got_back {l : List UInt8} {s : Nat} {t p k a b : Int} (h : got l = ⟨s, t, p, k, a, b, 0⟩) : isE t p k a b = true ∧ putE s t p k a b = l ∧ s < 18446744073709551616 := by
  obtain ⟨c, r, rfl, e, e1, e2⟩ := isE_of_got (by rw [h])
  have hg : got (c :: r) = goR c.toNat r := rfl
  rw [hg, goR_fine e e1 e2] at h
  cases h
  refine ⟨e2, ?_, vl_lt r 0⟩
  have R := isE_yes.1 e2
  have f1 := sm_back R.t0
  have f2 := sm_back (n := vl r 2) (by have := R.p0; omega)
  have f3 := sm_back R.a0
  have f4 := sm_back R.b0
  have hb := st_back e
  rw [e1, List.append_nil] at hb
  rw [putE, f1, f2, f3, f4]
  rw [show ((vl r 2 : Int) - 1 + 1).toNat = vl r 2 by omega]
  simp only [Int.toNat_natCast]
  rw [hb]
  simp

theorem got_bad {l : List UInt8} (h : (got l).err ≠ 0) : got l = nothing (got l).err := by
  match l with
  | [] => rfl
  | c :: r =>
    have hg : got (c :: r) = goR c.toNat r := rfl
    rw [hg] at h ⊢
    unfold goR at h ⊢
    split
    · rfl
    · split
      · rfl
      · rename_i h1 h2
        rw [if_neg h1, if_neg h2] at h
        exact absurd rfl h

/-- No beginning of an event's bytes is one, that has all but the last. -/
theorem got_less {s : Nat} {t p k a b : Int} (hs : s < 18446744073709551616) (h : Right t p k a b) {l : List UInt8} {c : UInt8} (hl : l ++ [c] = putE s t p k a b) : (got l).err ≠ 0 := by
  intro h0
  obtain ⟨s', t', p', k', a', b', e', hg⟩ : ∃ s t p k a b e, got l = ⟨s, t, p, k, a, b, e⟩ := ⟨_, _, _, _, _, _, _, rfl⟩
  rw [hg] at h0
  obtain rfl : e' = 0 := h0
  obtain ⟨r, hp, hs'⟩ := got_back hg
  have := got_more hs' (isE_yes.1 r) c
  rw [hp, hl, got_put hs h] at this
  simp [nothing] at this

end Go.Proofs.YthhcopeejhhpgaaDoor.Evt
