/- Batches in their frames: the plain functions. -/
import Derived.Test.YtalfmkgcelipdaaDoorPureBat
namespace Go.Proofs.YtalfmkgcelipdaaDoor.Bat
open Wire Evt Crc

def zeroBt : Bt := ⟨0, [], List.replicate 32 0⟩

/-- The body of the bytes that a text begins with, and the error. -/
def frO (s : List UInt8) : List UInt8 × Nat :=
  match s with
  | [] => ([], 4)
  | c :: r => if c.toNat ≠ 66 then ([], 3)
    else if r.length < 4 then ([], 4)
    else if 16384 < be (r.take 4) then ([], 2)
    else if r.length < be (r.take 4) + 8 then ([], 4)
    else if (r.drop (4 + be (r.take 4))).take 4 ≠ fx (sumOf (s.take (5 + be (r.take 4)))) 4 then ([], 10)
    else ((r.drop 4).take (be (r.take 4)), 0)

/-- A batch that is told of bytes, how many it has, and the error. -/
structure Gb where
  bt : Bt
  used : Nat
  err : Nat
def noB (e : Nat) : Gb := ⟨zeroBt, 0, e⟩
def gotB (s : List UInt8) : Gb :=
  if (frO s).2 ≠ 0 then noB (frO s).2 else
  match rdB (frO s).1 with
  | none => noB 3
  | some b => ⟨b, (frO s).1.length + 9, 0⟩

theorem gotB_err {s : List UInt8} {l : List UInt8} {e : Nat} (h : frO s = (l, e)) (he : e ≠ 0) : gotB s = noB e := by rw [gotB, h, if_pos he]
theorem gotB_none {s : List UInt8} {l : List UInt8} (h : frO s = (l, 0)) (hr : rdB l = none) : gotB s = noB 3 := by
  rw [gotB, h, if_neg (by simp)]; simp only [hr]
theorem gotB_some {s : List UInt8} {l : List UInt8} {b : Bt} (h : frO s = (l, 0)) (hr : rdB l = some b) : gotB s = ⟨b, l.length + 9, 0⟩ := by
  rw [gotB, h, if_neg (by simp)]; simp only [hr]

theorem fr_nil : frO [] = ([], 4) := rfl
theorem fr_mark {c : UInt8} {r : List UInt8} (h : c.toNat ≠ 66) : frO (c :: r) = ([], 3) := by rw [frO, if_pos h]
theorem fr_few {c : UInt8} {r : List UInt8} (h : c.toNat = 66) (h4 : r.length < 4) : frO (c :: r) = ([], 4) := by
  rw [frO, if_neg (by simpa using h), if_pos h4]
theorem fr_big {c : UInt8} {r : List UInt8} (h : c.toNat = 66) (h4 : 4 ≤ r.length) (hb : 16384 < be (r.take 4)) : frO (c :: r) = ([], 2) := by
  rw [frO, if_neg (by simpa using h), if_neg (by omega), if_pos hb]
theorem fr_more {c : UInt8} {r : List UInt8} (h : c.toNat = 66) (h4 : 4 ≤ r.length) (hb : be (r.take 4) ≤ 16384) (hm : r.length < be (r.take 4) + 8) : frO (c :: r) = ([], 4) := by
  rw [frO, if_neg (by simpa using h), if_neg (by omega), if_neg (by omega), if_pos hm]
theorem fr_sum {c : UInt8} {r : List UInt8} (h : c.toNat = 66) (hb : be (r.take 4) ≤ 16384) (hm : be (r.take 4) + 8 ≤ r.length)
    (hs : (r.drop (4 + be (r.take 4))).take 4 ≠ fx (sumOf ((c :: r).take (5 + be (r.take 4)))) 4) : frO (c :: r) = ([], 10) := by
  rw [frO, if_neg (by simpa using h), if_neg (by omega), if_neg (by omega), if_neg (by omega), if_pos hs]
theorem fr_fine {c : UInt8} {r : List UInt8} (h : c.toNat = 66) (hb : be (r.take 4) ≤ 16384) (hm : be (r.take 4) + 8 ≤ r.length)
    (hs : (r.drop (4 + be (r.take 4))).take 4 = fx (sumOf ((c :: r).take (5 + be (r.take 4)))) 4) : frO (c :: r) = ((r.drop 4).take (be (r.take 4)), 0) := by
  rw [frO, if_neg (by simpa using h), if_neg (by omega), if_neg (by omega), if_neg (by omega), if_neg (by simpa using hs)]

theorem u8_66 {c : UInt8} (h : c.toNat = 66) : c = 66 := UInt8.toNat_inj.1 h

/-- What is fine, in pieces. -/
theorem fr_back {s l : List UInt8} (h : frO s = (l, 0)) : ∃ behind, s = 66 :: (fx l.length 4 ++ (l ++ (fx (sumOf (66 :: (fx l.length 4 ++ l))) 4 ++ behind))) ∧ l.length ≤ 16384 := by
  unfold frO at h
  match s with
  | [] => cases h
  | c :: r =>
    simp only at h
    by_cases h1 : c.toNat = 66
    · rw [if_neg (by simpa using h1)] at h
      by_cases h2 : r.length < 4
      · rw [if_pos h2] at h; cases h
      · rw [if_neg h2] at h
        by_cases h3 : 16384 < be (r.take 4)
        · rw [if_pos h3] at h; cases h
        · rw [if_neg h3] at h
          by_cases h4 : r.length < be (r.take 4) + 8
          · rw [if_pos h4] at h; cases h
          · rw [if_neg h4] at h
            by_cases h5 : (r.drop (4 + be (r.take 4))).take 4 = fx (sumOf ((c :: r).take (5 + be (r.take 4)))) 4
            · rw [if_neg (by simpa using h5)] at h
              obtain ⟨n, hn⟩ : ∃ n, n = be (r.take 4) := ⟨_, rfl⟩
              rw [← hn] at h h3 h4 h5
              cases h
              have hl : ((r.drop 4).take n).length = n := by rw [List.length_take, List.length_drop]; omega
              have ht : fx n 4 = r.take 4 := by
                rw [hn]
                exact fx_be' (by rw [List.length_take]; omega)
              have e1 : r.take 4 ++ (r.drop 4).take n = r.take (4 + n) := by rw [List.take_add]
              have e0 : c = 66 := u8_66 h1
              subst e0
              have e2 : (66 : UInt8) :: (r.take 4 ++ (r.drop 4).take n) = (66 :: r).take (5 + n) := by rw [e1, show 5 + n = (4 + n) + 1 by omega, List.take_succ_cons]
              refine ⟨r.drop (4 + n + 4), ?_, by omega⟩
              rw [hl, ht, e2, ← h5]
              have e3 : (r.drop (4 + n)).take 4 ++ r.drop (4 + n + 4) = r.drop (4 + n) := by
                have := List.take_append_drop 4 (r.drop (4 + n))
                rwa [List.drop_drop] at this
              rw [e3, ← List.append_assoc, e1, List.take_append_drop]
            · rw [if_pos h5] at h; cases h
    · rw [if_pos (by simpa using h1)] at h; cases h
where
  fx_be' {l : List UInt8} (h : l.length = 4) : fx (be l) 4 = l := by
    match l, h with
    | [a, b, c, d], _ =>
      have ha := a.toNat_lt
      have hb := b.toNat_lt
      have hc := c.toNat_lt
      have hd := d.toNat_lt
      have e : be [a, b, c, d] = 256 * (256 * (256 * a.toNat + b.toNat) + c.toNat) + d.toNat := by simp [be]
      rw [e]
      simp only [fx]
      have e1 : (256 * (256 * (256 * a.toNat + b.toNat) + c.toNat) + d.toNat) / 256 ^ 3 % 256 = a.toNat := by omega
      have e2 : (256 * (256 * (256 * a.toNat + b.toNat) + c.toNat) + d.toNat) / 256 ^ 2 % 256 = b.toNat := by omega
      have e3 : (256 * (256 * (256 * a.toNat + b.toNat) + c.toNat) + d.toNat) / 256 ^ 1 % 256 = c.toNat := by omega
      have e4 : (256 * (256 * (256 * a.toNat + b.toNat) + c.toNat) + d.toNat) / 256 ^ 0 % 256 = d.toNat := by omega
      rw [e1, e2, e3, e4]
      simp

theorem be_four (n : Nat) (h : n < 4294967296) : be (fx n 4) = n := by rw [be_fx, Nat.mod_eq_of_lt h]
theorem fx_be4 {l : List UInt8} (h : l.length = 4) : fx (be l) 4 = l := fr_back.fx_be' h

/-- A body in its frame is told, whatever stands behind. -/
theorem fr_put {l : List UInt8} (hl : l.length ≤ 16384) (behind : List UInt8) : frO (66 :: (fx l.length 4 ++ (l ++ (fx (sumOf (66 :: (fx l.length 4 ++ l))) 4 ++ behind)))) = (l, 0) := by
  obtain ⟨r, hr⟩ : ∃ r, r = fx l.length 4 ++ (l ++ (fx (sumOf (66 :: (fx l.length 4 ++ l))) 4 ++ behind)) := ⟨_, rfl⟩
  have t4 : r.take 4 = fx l.length 4 := by rw [hr, List.take_left' (fx_length _ _)]
  have d4 : r.drop 4 = l ++ (fx (sumOf (66 :: (fx l.length 4 ++ l))) 4 ++ behind) := by rw [hr, List.drop_left' (fx_length _ _)]
  have hb : be (r.take 4) = l.length := by rw [t4, be_four _ (by omega)]
  have tl : (r.drop 4).take l.length = l := by rw [d4, List.take_left]
  have dl : r.drop (4 + l.length) = fx (sumOf (66 :: (fx l.length 4 ++ l))) 4 ++ behind := by rw [← List.drop_drop, d4, List.drop_left]
  have tk : ((66 : UInt8) :: r).take (5 + l.length) = 66 :: (fx l.length 4 ++ l) := by
    rw [show 5 + l.length = (4 + l.length) + 1 by omega, List.take_succ_cons, List.take_add, t4, tl]
  rw [← hr, fr_fine (by decide) (by omega) (by rw [hb, hr]; simp only [List.length_append, fx_length]; omega) (by rw [hb, dl, tk, List.take_left' (fx_length _ _)]), hb, tl]

theorem whole_form (b : Bt) (behind : List UInt8) : whole b ++ behind = 66 :: (fx (bodyB b).length 4 ++ (bodyB b ++ (fx (sumOf (66 :: (fx (bodyB b).length 4 ++ bodyB b))) 4 ++ behind))) := by
  simp [whole, framedB]

/-- What is put is got again, whatever stands behind it. -/
theorem gotB_put {b : Bt} (hf : b.Fits) (h : isB b.first b.evs = true) (behind : List UInt8) : gotB (whole b ++ behind) = ⟨b, (whole b).length, 0⟩ := by
  have hl := body_len hf h
  have := gotB_some (s := whole b ++ behind) (by rw [whole_form]; exact fr_put (by omega) behind) (rdB_put hf h)
  rw [this, whole_len]

theorem take_four {c : UInt8} {l m : List UInt8} {n : Nat} (hl : l.length = 4) (hn : 5 ≤ n) : (((c :: (l ++ m)).take n).drop 1).take 4 = l := by
  obtain ⟨k, rfl⟩ : ∃ k, n = k + 1 := ⟨n - 1, by omega⟩
  rw [List.take_succ_cons, List.drop_one, List.tail_cons, List.take_take, Nat.min_eq_left (by omega), List.take_left' hl]

/-- A beginning of a batch's bytes is none, but tells ErrMore. -/
theorem gotB_less {b : Bt} (hf : b.Fits) (h : isB b.first b.evs = true) {n : Nat} (hn : n < (whole b).length) : (gotB ((whole b).take n)).err = 4 := by
  have hl := body_len hf h
  have hw := whole_len b
  have hwf := whole_form b []
  rw [List.append_nil] at hwf
  have key : ∃ l, frO ((whole b).take n) = (l, 4) := by
    match n, hn with
    | 0, _ => exact ⟨[], rfl⟩
    | n + 1, hn =>
      have hlen : ((whole b).take (n + 1)).length = n + 1 := by rw [List.length_take]; omega
      rw [hwf] at hlen ⊢
      rw [List.take_succ_cons] at hlen ⊢
      simp only [List.length_cons] at hlen
      by_cases h4 : n < 4
      · exact ⟨[], fr_few (by decide) (by omega)⟩
      · have hb := take_four (c := 66) (l := fx (bodyB b).length 4) (m := bodyB b ++ (fx (sumOf (66 :: (fx (bodyB b).length 4 ++ bodyB b))) 4 ++ [])) (n := n + 1) (fx_length _ _) (by omega)
        rw [List.take_succ_cons, List.drop_one, List.tail_cons] at hb
        have he := congrArg be hb
        rw [be_four _ (by omega)] at he
        exact ⟨[], fr_more (by decide) (by omega) (by omega) (by omega)⟩
  obtain ⟨l, hk⟩ := key
  rw [gotB_err hk (by omega)]
  rfl

/-- What is got is right, and its bytes are just what would be put. -/
theorem gotB_back {s : List UInt8} {b : Bt} {n : Nat} (h : gotB s = ⟨b, n, 0⟩) : isB b.first b.evs = true ∧ b.Fits ∧ whole b = s.take n ∧ n ≤ s.length := by
  obtain ⟨l, e, hf⟩ : ∃ l e, frO s = (l, e) := ⟨_, _, rfl⟩
  by_cases he : e = 0
  · subst he
    cases hr : rdB l with
    | none => rw [gotB_none hf hr] at h; cases h
    | some b' =>
      rw [gotB_some hf hr] at h
      cases h
      obtain ⟨h1, h2, h3⟩ := rdB_back hr
      obtain ⟨behind, hs, hl⟩ := fr_back hf
      refine ⟨h1, h3, ?_⟩
      have hw := whole_len b
      have hwf := whole_form b behind
      rw [h2] at hwf hw
      rw [hs, ← hwf, ← hw, List.take_left]
      exact ⟨rfl, by rw [List.length_append]; omega⟩
  · rw [gotB_err hf he] at h
    have : e = 0 := congrArg Gb.err h
    exact absurd this he

theorem gotB_bad {s : List UInt8} (h : (gotB s).err ≠ 0) : gotB s = noB (gotB s).err := by
  obtain ⟨l, e, hf⟩ : ∃ l e, frO s = (l, e) := ⟨_, _, rfl⟩
  by_cases he : e = 0
  · subst he
    cases hr : rdB l with
    | none => rw [gotB_none hf hr]; rfl
    | some b => rw [gotB_some hf hr] at h; exact absurd rfl h
  · rw [gotB_err hf he]; rfl

theorem gotB_fits (s : List UInt8) : (gotB s).bt.Fits := by
  by_cases h : (gotB s).err = 0
  · obtain ⟨b, n, e, hg⟩ : ∃ b n e, gotB s = ⟨b, n, e⟩ := ⟨_, _, _, rfl⟩
    rw [hg] at h ⊢
    simp only at h
    subst h
    exact (gotB_back hg).2.1
  · rw [gotB_bad h]
    exact ⟨by simp [noB, zeroBt], by simp [noB, zeroBt], fun x hx => by simp [noB, zeroBt] at hx⟩

end Go.Proofs.YtalfmkgcelipdaaDoor.Bat
