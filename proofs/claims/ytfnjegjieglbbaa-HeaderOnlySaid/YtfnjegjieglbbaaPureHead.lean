/- Heads and supers as bytes: the plain functions, and what follows of them. -/
import Derived.Test.YtfnjegjieglbbaaPureFour
namespace Go.Proofs.Ytfnjegjieglbbaa.Head
open Wire Crc Bat

/-- A head. -/
structure Hd where
  id : Nat
  first : Nat
  anchor : List UInt8

structure Hd.Fits (h : Hd) : Prop where
  id : h.id < 18446744073709551616
  first : h.first < 18446744073709551616
  anchor : h.anchor.length = 32

/-- A super. -/
structure Sp where
  epoch : Nat
  tail : Nat
  first : Nat
  anchor : List UInt8
  id : Nat
  fin : Nat
  next : Nat
  sum : List UInt8

structure Sp.Fits (x : Sp) : Prop where
  epoch : x.epoch < 18446744073709551616
  tail : x.tail < 18446744073709551616
  first : x.first < 18446744073709551616
  anchor : x.anchor.length = 32
  id : x.id < 18446744073709551616
  fin : x.fin < 18446744073709551616
  next : x.next < 18446744073709551616
  sum : x.sum.length = 32

def z32 : List UInt8 := List.replicate 32 0
def z11 : List UInt8 := List.replicate 11 0
theorem z32_length : z32.length = 32 := List.length_replicate
theorem z11_length : z11.length = 11 := List.length_replicate
def noH : Hd := ⟨0, 0, z32⟩
def noS : Sp := ⟨0, 0, 0, z32, 0, 0, 0, z32⟩
theorem noH_fits : noH.Fits := ⟨by decide, by decide, z32_length⟩
theorem noS_fits : noS.Fits := ⟨by decide, by decide, by decide, z32_length, by decide, by decide, by decide, z32_length⟩

/-- What stands ahead of a head's sum. -/
def frontH (h : Hd) : List UInt8 := 72 :: (fx h.id 8 ++ (fx h.first 8 ++ (h.anchor ++ z11)))
def putH (h : Hd) : List UInt8 := frontH h ++ fx (sumOf (frontH h)) 4
def halfS (x : Sp) : List UInt8 := 83 :: (fx x.epoch 8 ++ (fx x.tail 8 ++ (fx x.first 8 ++ (fx x.id 8 ++ (fx x.fin 8 ++ (fx x.next 8 ++ (x.anchor ++ x.sum)))))))
def putS (x : Sp) : List UInt8 := halfS x ++ halfS x

theorem frontH_len {h : Hd} (hf : h.Fits) : (frontH h).length = 60 := by
  simp [frontH, fx_length, hf.anchor, z11_length]
theorem putH_len {h : Hd} (hf : h.Fits) : (putH h).length = 64 := by
  rw [putH, List.length_append, frontH_len hf, fx_length]
theorem halfS_len {x : Sp} (hf : x.Fits) : (halfS x).length = 113 := by
  simp [halfS, fx_length, hf.anchor, hf.sum]
theorem putS_len {x : Sp} (hf : x.Fits) : (putS x).length = 226 := by
  rw [putS, List.length_append, halfS_len hf]

/-- What the bytes tell. -/
def piece (l : List UInt8) (a n : Nat) : List UInt8 := (l.drop a).take n
def num8 (l : List UInt8) (a : Nat) : Nat := be (piece l a 8)
def decH (l : List UInt8) : Hd := ⟨num8 l 1, num8 l 9, piece l 17 32⟩
def decS (l : List UInt8) : Sp := ⟨num8 l 1, num8 l 9, num8 l 17, piece l 49 32, num8 l 25, num8 l 33, num8 l 41, piece l 81 32⟩

/-- What is wrong with them. -/
def errH (l : List UInt8) : Nat :=
  if l.length < 64 then 4 else if l.headD 0 ≠ 72 then 3 else if piece l 60 4 ≠ fx (sumOf (l.take 60)) 4 then 10 else if piece l 49 11 ≠ z11 then 3 else 0
def errS (l : List UInt8) : Nat :=
  if l.length < 226 then 4 else if l.headD 0 ≠ 83 then 3 else if l.take 113 ≠ piece l 113 113 then 10 else 0
def gotH (l : List UInt8) : Hd × Nat := if errH l = 0 then (decH l, 0) else (noH, errH l)
def gotS (l : List UInt8) : Sp × Nat := if errS l = 0 then (decS l, 0) else (noS, errS l)

theorem gotH_ok {l : List UInt8} (h : errH l = 0) : gotH l = (decH l, 0) := by rw [gotH, if_pos h]
theorem gotH_no {l : List UInt8} {e : Nat} (h : errH l = e) (he : e ≠ 0) : gotH l = (noH, e) := by rw [gotH, if_neg (by rw [h]; exact he), h]
theorem gotS_ok {l : List UInt8} (h : errS l = 0) : gotS l = (decS l, 0) := by rw [gotS, if_pos h]
theorem gotS_no {l : List UInt8} {e : Nat} (h : errS l = e) (he : e ≠ 0) : gotS l = (noS, e) := by rw [gotS, if_neg (by rw [h]; exact he), h]

theorem errH_few {l : List UInt8} (h : l.length < 64) : errH l = 4 := by rw [errH, if_pos h]
theorem errH_mark {l : List UInt8} (h : 64 ≤ l.length) (h1 : l.headD 0 ≠ 72) : errH l = 3 := by rw [errH, if_neg (by omega), if_pos h1]
theorem errH_sum {l : List UInt8} (h : 64 ≤ l.length) (h1 : l.headD 0 = 72) (h2 : piece l 60 4 ≠ fx (sumOf (l.take 60)) 4) : errH l = 10 := by
  rw [errH, if_neg (by omega), if_neg (by simpa using h1), if_pos h2]
theorem errH_zero {l : List UInt8} (h : 64 ≤ l.length) (h1 : l.headD 0 = 72) (h2 : piece l 60 4 = fx (sumOf (l.take 60)) 4) (h3 : piece l 49 11 ≠ z11) : errH l = 3 := by
  rw [errH, if_neg (by omega), if_neg (by simpa using h1), if_neg (by simpa using h2), if_pos h3]
theorem errH_ok {l : List UInt8} (h : 64 ≤ l.length) (h1 : l.headD 0 = 72) (h2 : piece l 60 4 = fx (sumOf (l.take 60)) 4) (h3 : piece l 49 11 = z11) : errH l = 0 := by
  rw [errH, if_neg (by omega), if_neg (by simpa using h1), if_neg (by simpa using h2), if_neg (by simpa using h3)]
theorem errH_back {l : List UInt8} (h : errH l = 0) : 64 ≤ l.length ∧ l.headD 0 = 72 ∧ piece l 60 4 = fx (sumOf (l.take 60)) 4 ∧ piece l 49 11 = z11 := by
  by_cases h0 : l.length < 64
  · rw [errH_few h0] at h; cases h
  by_cases h1 : l.headD 0 = 72
  · by_cases h2 : piece l 60 4 = fx (sumOf (l.take 60)) 4
    · by_cases h3 : piece l 49 11 = z11
      · exact ⟨by omega, h1, h2, h3⟩
      · rw [errH_zero (by omega) h1 h2 h3] at h; cases h
    · rw [errH_sum (by omega) h1 h2] at h; cases h
  · rw [errH_mark (by omega) h1] at h; cases h
theorem errS_few {l : List UInt8} (h : l.length < 226) : errS l = 4 := by rw [errS, if_pos h]
theorem errS_mark {l : List UInt8} (h : 226 ≤ l.length) (h1 : l.headD 0 ≠ 83) : errS l = 3 := by rw [errS, if_neg (by omega), if_pos h1]
theorem errS_sum {l : List UInt8} (h : 226 ≤ l.length) (h1 : l.headD 0 = 83) (h2 : l.take 113 ≠ piece l 113 113) : errS l = 10 := by
  rw [errS, if_neg (by omega), if_neg (by simpa using h1), if_pos h2]
theorem errS_ok {l : List UInt8} (h : 226 ≤ l.length) (h1 : l.headD 0 = 83) (h2 : l.take 113 = piece l 113 113) : errS l = 0 := by
  rw [errS, if_neg (by omega), if_neg (by simpa using h1), if_neg (by simpa using h2)]
theorem errS_back {l : List UInt8} (h : errS l = 0) : 226 ≤ l.length ∧ l.headD 0 = 83 ∧ l.take 113 = piece l 113 113 := by
  by_cases h0 : l.length < 226
  · rw [errS_few h0] at h; cases h
  by_cases h1 : l.headD 0 = 83
  · by_cases h2 : l.take 113 = piece l 113 113
    · exact ⟨by omega, h1, h2⟩
    · rw [errS_sum (by omega) h1 h2] at h; cases h
  · rw [errS_mark (by omega) h1] at h; cases h

theorem piece_length {l : List UInt8} {a n : Nat} (h : a + n ≤ l.length) : (piece l a n).length = n := by
  rw [piece, List.length_take, List.length_drop]; omega
theorem piece_mid {p q r : List UInt8} {a n : Nat} (hp : p.length = a) (hq : q.length = n) : piece (p ++ (q ++ r)) a n = q := by
  rw [piece, List.drop_left' hp, List.take_left' hq]
theorem piece_head {c : UInt8} {p q r : List UInt8} {a n : Nat} (hp : p.length = a) (hq : q.length = n) : piece (c :: (p ++ (q ++ r))) (a + 1) n = q := by
  rw [piece, List.drop_succ_cons, List.drop_left' hp, List.take_left' hq]
theorem piece_one {c : UInt8} {q r : List UInt8} {n : Nat} (hq : q.length = n) : piece (c :: (q ++ r)) 1 n = q := by
  rw [piece, List.drop_succ_cons, List.drop_zero, List.take_left' hq]
theorem be8 {n : Nat} (h : n < 18446744073709551616) : be (fx n 8) = n := by rw [be_fx, Nat.mod_eq_of_lt h]
theorem num8_lt (l : List UInt8) (a : Nat) : num8 l a < 18446744073709551616 := by
  have h1 := be_lt (piece l a 8)
  have h2 : (piece l a 8).length ≤ 8 := by rw [piece, List.length_take]; omega
  have h3 : (256 : Nat) ^ (piece l a 8).length ≤ 256 ^ 8 := Nat.pow_le_pow_right (by omega) h2
  have h4 : (256 : Nat) ^ 8 = 18446744073709551616 := by decide
  unfold num8
  omega

theorem decH_fits {l : List UInt8} (h : 64 ≤ l.length) : (decH l).Fits := ⟨num8_lt _ _, num8_lt _ _, piece_length (by omega)⟩
theorem decS_fits {l : List UInt8} (h : 226 ≤ l.length) : (decS l).Fits := ⟨num8_lt _ _, num8_lt _ _, num8_lt _ _, piece_length (by omega), num8_lt _ _, num8_lt _ _, num8_lt _ _, piece_length (by omega)⟩
theorem gotH_fits (l : List UInt8) : (gotH l).1.Fits := by
  by_cases h : errH l = 0
  · rw [gotH_ok h]; exact decH_fits (errH_back h).1
  · rw [gotH_no rfl h]; exact noH_fits
theorem gotS_fits (l : List UInt8) : (gotS l).1.Fits := by
  by_cases h : errS l = 0
  · rw [gotS_ok h]; exact decS_fits (errS_back h).1
  · rw [gotS_no rfl h]; exact noS_fits
theorem gotH_err (l : List UInt8) : (gotH l).2 = errH l := by
  by_cases h : errH l = 0
  · rw [gotH_ok h, h]
  · rw [gotH_no rfl h]
theorem gotS_err (l : List UInt8) : (gotS l).2 = errS l := by
  by_cases h : errS l = 0
  · rw [gotS_ok h, h]
  · rw [gotS_no rfl h]
theorem gotH_bad {l : List UInt8} (h : (gotH l).2 ≠ 0) : (gotH l).1 = noH := by
  rw [gotH_err] at h
  rw [gotH_no rfl h]
theorem gotS_bad {l : List UInt8} (h : (gotS l).2 ≠ 0) : (gotS l).1 = noS := by
  rw [gotS_err] at h
  rw [gotS_no rfl h]

theorem decH_put {h : Hd} (hf : h.Fits) (r : List UInt8) : decH (putH h ++ r) = h := by
  have e : putH h ++ r = 72 :: (fx h.id 8 ++ (fx h.first 8 ++ (h.anchor ++ (z11 ++ (fx (sumOf (frontH h)) 4 ++ r))))) := by simp [putH, frontH]
  have e1 : num8 (putH h ++ r) 1 = h.id := by
    rw [e, num8, piece_one (fx_length _ _), be8 hf.id]
  have e2 : num8 (putH h ++ r) 9 = h.first := by
    rw [e, num8, piece_head (a := 8) (fx_length _ _) (fx_length _ _), be8 hf.first]
  have e3 : piece (putH h ++ r) 17 32 = h.anchor := by
    rw [e, ← List.append_assoc (fx h.id 8), piece_head (a := 16) (by simp [fx_length]) hf.anchor]
  rw [decH, e1, e2, e3]
theorem gotH_put {h : Hd} (hf : h.Fits) (r : List UInt8) : gotH (putH h ++ r) = (h, 0) := by
  have e : putH h ++ r = frontH h ++ (fx (sumOf (frontH h)) 4 ++ r) := by rw [putH, List.append_assoc]
  have e2 : (putH h ++ r).take 60 = frontH h := by rw [e, List.take_left' (frontH_len hf)]
  have h0 : errH (putH h ++ r) = 0 := by
    refine errH_ok (by rw [List.length_append, putH_len hf]; omega) rfl ?_ ?_
    · rw [e2, e, piece_mid (frontH_len hf) (fx_length _ _)]
    · have e3 : putH h ++ r = (72 :: (fx h.id 8 ++ (fx h.first 8 ++ h.anchor))) ++ (z11 ++ (fx (sumOf (frontH h)) 4 ++ r)) := by simp [putH, frontH]
      rw [e3, piece_mid (by simp [fx_length, hf.anchor]) z11_length]
  rw [gotH_ok h0, decH_put hf]

theorem decS_half {x : Sp} (hf : x.Fits) (r : List UInt8) : decS (halfS x ++ r) = x := by
  have e : halfS x ++ r = 83 :: (fx x.epoch 8 ++ (fx x.tail 8 ++ (fx x.first 8 ++ (fx x.id 8 ++ (fx x.fin 8 ++ (fx x.next 8 ++ (x.anchor ++ (x.sum ++ r)))))))) := by simp [halfS]
  have e1 : num8 (halfS x ++ r) 1 = x.epoch := by
    rw [e, num8, piece_one (fx_length _ _), be8 hf.epoch]
  have e2 : num8 (halfS x ++ r) 9 = x.tail := by
    rw [e, num8, piece_head (a := 8) (fx_length _ _) (fx_length _ _), be8 hf.tail]
  have e3 : num8 (halfS x ++ r) 17 = x.first := by
    rw [e, num8, ← List.append_assoc (fx x.epoch 8), piece_head (a := 16) (by simp [fx_length]) (fx_length _ _), be8 hf.first]
  have e4 : num8 (halfS x ++ r) 25 = x.id := by
    rw [e, num8, ← List.append_assoc (fx x.tail 8), ← List.append_assoc (fx x.epoch 8), piece_head (a := 24) (by simp [fx_length]) (fx_length _ _), be8 hf.id]
  have e5 : num8 (halfS x ++ r) 33 = x.fin := by
    rw [e, num8, ← List.append_assoc (fx x.first 8), ← List.append_assoc (fx x.tail 8), ← List.append_assoc (fx x.epoch 8), piece_head (a := 32) (by simp [fx_length]) (fx_length _ _), be8 hf.fin]
  have e6 : num8 (halfS x ++ r) 41 = x.next := by
    rw [e, num8, ← List.append_assoc (fx x.id 8), ← List.append_assoc (fx x.first 8), ← List.append_assoc (fx x.tail 8), ← List.append_assoc (fx x.epoch 8), piece_head (a := 40) (by simp [fx_length]) (fx_length _ _), be8 hf.next]
  have e7 : piece (halfS x ++ r) 49 32 = x.anchor := by
    rw [e, ← List.append_assoc (fx x.fin 8), ← List.append_assoc (fx x.id 8), ← List.append_assoc (fx x.first 8), ← List.append_assoc (fx x.tail 8), ← List.append_assoc (fx x.epoch 8), piece_head (a := 48) (by simp [fx_length]) hf.anchor]
  have e8 : piece (halfS x ++ r) 81 32 = x.sum := by
    rw [e, ← List.append_assoc (fx x.next 8), ← List.append_assoc (fx x.fin 8), ← List.append_assoc (fx x.id 8), ← List.append_assoc (fx x.first 8), ← List.append_assoc (fx x.tail 8), ← List.append_assoc (fx x.epoch 8), piece_head (a := 80) (by simp [fx_length, hf.anchor]) hf.sum]
  rw [decS, e1, e2, e3, e4, e5, e6, e7, e8]
theorem gotS_put {x : Sp} (hf : x.Fits) (r : List UInt8) : gotS (putS x ++ r) = (x, 0) := by
  have e : putS x ++ r = halfS x ++ (halfS x ++ r) := by rw [putS, List.append_assoc]
  have h0 : errS (putS x ++ r) = 0 := by
    refine errS_ok (by rw [List.length_append, putS_len hf]; omega) rfl ?_
    rw [e, piece_mid (halfS_len hf) (halfS_len hf), List.take_left' (halfS_len hf)]
  rw [gotS_ok h0, e, decS_half hf]

/-- A super is no head, and a head no super. -/
theorem gotH_super {x : Sp} (hf : x.Fits) (r : List UInt8) : gotH (putS x ++ r) = (noH, 3) :=
  gotH_no (errH_mark (by rw [List.length_append, putS_len hf]; omega) (by show (83 : UInt8) ≠ 72; decide)) (by decide)
theorem gotS_head {h : Hd} {r : List UInt8} (hl : 226 ≤ (putH h ++ r).length) : gotS (putH h ++ r) = (noS, 3) :=
  gotS_no (errS_mark hl (by show (72 : UInt8) ≠ 83; decide)) (by decide)

/-! ### What is got is what would be put -/

theorem take_cut {l : List UInt8} (a n : Nat) : l.take (a + n) = l.take a ++ piece l a n := by
  rw [piece, List.take_add]
theorem fx_be {l : List UInt8} {n : Nat} (h : l.length = n) : fx (be l) n = l := by
  induction l generalizing n with
  | nil => subst h; rfl
  | cons c l ih =>
    subst h
    rw [List.length_cons, fx, be_cons]
    have hb := be_lt l
    have hc : (c.toNat * 256 ^ l.length + be l) / 256 ^ l.length % 256 = c.toNat := by
      rw [Nat.mul_comm, Nat.mul_add_div (Nat.pow_pos (by omega)), Nat.div_eq_of_lt hb, Nat.add_zero, Nat.mod_eq_of_lt c.toNat_lt]
    rw [hc]
    have h2 : fx (c.toNat * 256 ^ l.length + be l) l.length = fx (be l) l.length := by
      rw [← fx_back, Nat.mul_comm, Nat.mul_add_mod, fx_back]
    rw [h2, ih rfl]
    simp

theorem fx_num8 {l : List UInt8} {a : Nat} (h : a + 8 ≤ l.length) : fx (num8 l a) 8 = piece l a 8 := fx_be (piece_length h)

theorem head_one {l : List UInt8} {c : UInt8} (h : 0 < l.length) (hc : l.headD 0 = c) : l.take 1 = [c] := by
  cases l with
  | nil => simp at h
  | cons d l => simp at hc; subst hc; rfl

theorem putH_dec {l : List UInt8} (h : errH l = 0) : putH (decH l) = l.take 64 := by
  obtain ⟨h0, h1, h2, h3⟩ := errH_back h
  have e60 : frontH (decH l) = l.take 60 := by
    rw [show l.take 60 = l.take (49 + 11) from rfl, take_cut, h3, show l.take 49 = l.take (17 + 32) from rfl, take_cut, show l.take 17 = l.take (9 + 8) from rfl, take_cut, show l.take 9 = l.take (1 + 8) from rfl, take_cut, head_one (by omega) h1]
    simp [frontH, decH, fx_num8 (l := l) (a := 1) (by omega), fx_num8 (l := l) (a := 9) (by omega)]
  rw [putH, e60, ← h2, ← take_cut]

theorem putS_dec {l : List UInt8} (h : errS l = 0) : putS (decS l) = l.take 226 := by
  obtain ⟨h0, h1, h2⟩ := errS_back h
  have e : halfS (decS l) = l.take 113 := by
    rw [show l.take 113 = l.take (81 + 32) from rfl, take_cut, show l.take 81 = l.take (49 + 32) from rfl, take_cut, show l.take 49 = l.take (41 + 8) from rfl, take_cut, show l.take 41 = l.take (33 + 8) from rfl, take_cut,
      show l.take 33 = l.take (25 + 8) from rfl, take_cut, show l.take 25 = l.take (17 + 8) from rfl, take_cut, show l.take 17 = l.take (9 + 8) from rfl, take_cut, show l.take 9 = l.take (1 + 8) from rfl, take_cut, head_one (by omega) h1]
    simp [halfS, decS, fx_num8 (l := l) (a := 1) (by omega), fx_num8 (l := l) (a := 9) (by omega), fx_num8 (l := l) (a := 17) (by omega), fx_num8 (l := l) (a := 25) (by omega), fx_num8 (l := l) (a := 33) (by omega), fx_num8 (l := l) (a := 41) (by omega)]
  rw [putS, e, show l.take 226 = l.take (113 + 113) from rfl, take_cut, ← h2]

theorem not_both {l : List UInt8} (h : errH l = 0) : errS l ≠ 0 := by
  intro h2
  have a := (errH_back h).2.1
  have b := (errS_back h2).2.1
  rw [a] at b
  exact absurd b (by decide)

theorem putS_inj {x y : Sp} (hx : x.Fits) (hy : y.Fits) (h : halfS x = halfS y) : x = y := by
  have a := decS_half hx []
  have b := decS_half hy []
  rw [h] at a
  exact a.symm.trans b

/-! ### Four bytes changed, and a write that was torn -/

theorem gotH_bent {h : Hd} (hf : h.Fits) {p q : List UInt8} {c0 c1 c2 c3 d0 d1 d2 d3 : UInt8} (hw : putH h = p ++ ([c0, c1, c2, c3] ++ q)) (h1 : 1 ≤ p.length) (hq : 4 ≤ q.length ∨ q = []) (hne : ¬ (c0 = d0 ∧ c1 = d1 ∧ c2 = d2 ∧ c3 = d3)) :
    gotH (p ++ ([d0, d1, d2, d3] ++ q)) = (noH, 10) := by
  have hl := putH_len hf
  have hlen : p.length + (4 + q.length) = 64 := by
    rw [hw] at hl
    simp at hl
    omega
  match p, h1 with
  | c :: p, _ =>
    have hc : c = 72 := by
      have : (putH h).headD 0 = 72 := rfl
      rw [hw] at this
      exact this
    subst hc
    have hpl : p.length + 1 + 4 + q.length = 64 := by simp at hlen; omega
    refine gotH_no (errH_sum (by simp; omega) rfl ?_) (by decide)
    rcases hq with hq | rfl
    · obtain ⟨q1, S, rfl, hS⟩ : ∃ q1 S, q = q1 ++ S ∧ S.length = 4 := ⟨q.take (q.length - 4), q.drop (q.length - 4), (List.take_append_drop _ _).symm, by rw [List.length_drop]; omega⟩
      have hq1 : p.length + 1 + 4 + q1.length = 60 := by rw [List.length_append] at hpl; omega
      have e1 : ∀ x0 x1 x2 x3 : UInt8, 72 :: p ++ ([x0, x1, x2, x3] ++ (q1 ++ S)) = (72 :: p ++ ([x0, x1, x2, x3] ++ q1)) ++ (S ++ []) := by simp
      have e2 : ∀ x0 x1 x2 x3 : UInt8, (72 :: p ++ ([x0, x1, x2, x3] ++ q1)).length = 60 := by intros; simp; omega
      have hs1 : putH h = frontH h ++ (fx (sumOf (frontH h)) 4 ++ []) := by rw [putH, List.append_nil]
      have hp1 : piece (putH h) 60 4 = fx (sumOf (frontH h)) 4 := by rw [hs1, piece_mid (frontH_len hf) (fx_length _ _)]
      have hp2 : (putH h).take 60 = frontH h := by rw [hs1, List.take_left' (frontH_len hf)]
      rw [hw, e1, piece_mid (e2 _ _ _ _) hS] at hp1
      rw [hw, e1, List.take_left' (e2 _ _ _ _)] at hp2
      rw [e1, piece_mid (e2 _ _ _ _) hS, List.take_left' (e2 _ _ _ _), hp1, ← hp2]
      intro hx
      exact hne (sum_four (fx_inj (sumOf_lt _) (sumOf_lt _) hx))
    · have hp : (72 :: p).length = 60 := by simp at hpl ⊢; omega
      have hs1 : putH h = frontH h ++ (fx (sumOf (frontH h)) 4 ++ []) := by rw [putH, List.append_nil]
      have hp1 : piece (putH h) 60 4 = fx (sumOf (frontH h)) 4 := by rw [hs1, piece_mid (frontH_len hf) (fx_length _ _)]
      have hp2 : (putH h).take 60 = frontH h := by rw [hs1, List.take_left' (frontH_len hf)]
      rw [hw, piece_mid (n := 4) hp rfl] at hp1
      rw [hw, List.take_left' hp] at hp2
      rw [piece_mid (n := 4) hp rfl, List.take_left' hp, hp2]
      intro hx
      rw [← hx] at hp1
      simp only [List.cons.injEq, and_true] at hp1
      exact hne hp1

/-- A super, written over other bytes up to some place. -/
theorem torn {x y : Sp} (hx : x.Fits) (hy : y.Fits) {k : Nat} (hk : k ≤ 226) {u : List UInt8} (hu : u = (putS y).take k ++ (putS x).drop k) : (gotS u).2 = 0 → (gotS u).1 = y ∨ (gotS u).1 = x := by
  intro h
  rw [gotS_err] at h
  obtain ⟨h0, h1, h2⟩ := errS_back h
  rw [gotS_ok h]
  have hd := putS_dec h
  by_cases hk1 : k ≤ 113
  · refine Or.inr (putS_inj (decS_fits h0) hx ?_)
    have e : piece u 113 113 = halfS x := by
      rw [hu, piece, List.drop_append, List.drop_eq_nil_of_le (by rw [List.length_take, putS_len hy]; omega), List.nil_append, List.length_take, putS_len hy, List.drop_drop, show k + (113 - min k 226) = 113 by omega, putS, List.drop_left' (halfS_len hx), List.take_of_length_le (by rw [halfS_len hx]; omega)]
    rw [← e, ← h2]
    have := congrArg (List.take 113) hd
    rw [putS, List.take_left' (halfS_len (decS_fits h0)), List.take_take] at this
    exact this
  · refine Or.inl (putS_inj (decS_fits h0) hy ?_)
    have e : u.take 113 = halfS y := by
      rw [hu, List.take_append_of_le_length (by rw [List.length_take, putS_len hy]; omega), List.take_take, show min 113 k = 113 by omega, putS, List.take_left' (halfS_len hy)]
    rw [← e]
    have := congrArg (List.take 113) hd
    rw [putS, List.take_left' (halfS_len (decS_fits h0)), List.take_take] at this
    exact this
theorem torn_blank {y : Sp} (hy : y.Fits) {k : Nat} (hk : k ≤ 226) {u : List UInt8} (hu : u = (putS y).take k ++ (List.replicate 226 0).drop k) : (gotS u).2 = 0 → (gotS u).1 = y := by
  intro h
  rw [gotS_err] at h
  obtain ⟨h0, h1, h2⟩ := errS_back h
  rw [gotS_ok h]
  have hd := putS_dec h
  by_cases hk1 : k ≤ 113
  · exfalso
    have e : piece u 113 113 = List.replicate 113 0 := by
      rw [hu, piece, List.drop_append, List.drop_eq_nil_of_le (by rw [List.length_take, putS_len hy]; omega), List.nil_append, List.length_take, putS_len hy, List.drop_drop, show k + (113 - min k 226) = 113 by omega, List.drop_replicate, List.take_replicate]
      rfl
    rw [e] at h2
    have h3 : (u.take 113).headD 0 = 83 := by
      cases u with
      | nil => simp at h0
      | cons c u => exact h1
    rw [h2] at h3
    exact absurd h3 (by decide)
  · refine putS_inj (decS_fits h0) hy ?_
    have e : u.take 113 = halfS y := by
      rw [hu, List.take_append_of_le_length (by rw [List.length_take, putS_len hy]; omega), List.take_take, show min 113 k = 113 by omega, putS, List.take_left' (halfS_len hy)]
    rw [← e]
    have := congrArg (List.take 113) hd
    rw [putS, List.take_left' (halfS_len (decS_fits h0)), List.take_take] at this
    exact this
theorem torn_all {x : Sp} (hx : x.Fits) : (gotS (putS x)).2 = 0 := by
  have := gotS_put hx []
  rw [List.append_nil] at this
  rw [this]

end Go.Proofs.Ytfnjegjieglbbaa.Head
