/- Batches of which four bytes were changed: the plain functions. -/
import Derived.Test.YtalfmkgcelipdaaPureBatB
namespace Go.Proofs.Ytalfmkgcelipdaa.Bat
open Wire Evt Crc

/-- Four bytes, of which the first ones were changed. -/
def mid (c0 c1 c2 c3 d0 d1 d2 d3 : UInt8) : Nat → List UInt8
  | 0 => [c0, c1, c2, c3]
  | 1 => [d0, c1, c2, c3]
  | 2 => [d0, d1, c2, c3]
  | 3 => [d0, d1, d2, c3]
  | _ => [d0, d1, d2, d3]
def at4b (c0 c1 c2 c3 : UInt8) : Nat → UInt8
  | 0 => c0
  | 1 => c1
  | 2 => c2
  | _ => c3

theorem mid_length (c0 c1 c2 c3 d0 d1 d2 d3 : UInt8) (j : Nat) : (mid c0 c1 c2 c3 d0 d1 d2 d3 j).length = 4 := by
  match j with
  | 0 => rfl
  | 1 => rfl
  | 2 => rfl
  | 3 => rfl
  | _ + 4 => rfl
theorem mid_at (c0 c1 c2 c3 d0 d1 d2 d3 : UInt8) {j : Nat} (h : j < 4) (p q : List UInt8) : (p ++ (mid c0 c1 c2 c3 d0 d1 d2 d3 j ++ q))[p.length + j]? = some (at4b c0 c1 c2 c3 j) := by
  rw [List.getElem?_append_right (by omega), Nat.add_sub_cancel_left]
  match j, h with
  | 0, _ => rfl
  | 1, _ => rfl
  | 2, _ => rfl
  | 3, _ => rfl
theorem mid_set (c0 c1 c2 c3 d0 d1 d2 d3 : UInt8) {j : Nat} (h : j < 4) (p q : List UInt8) :
    (p ++ (mid c0 c1 c2 c3 d0 d1 d2 d3 j ++ q)).set (p.length + j) (at4b d0 d1 d2 d3 j) = p ++ (mid c0 c1 c2 c3 d0 d1 d2 d3 (j + 1) ++ q) := by
  rw [List.set_append_right _ _ (by omega), Nat.add_sub_cancel_left]
  match j, h with
  | 0, _ => rfl
  | 1, _ => rfl
  | 2, _ => rfl
  | 3, _ => rfl

theorem list_four {l : List UInt8} {n : Nat} (h : n + 4 ≤ l.length) : ∃ p c0 c1 c2 c3 q, l = p ++ ([c0, c1, c2, c3] ++ q) ∧ p.length = n := by
  have hd : (l.drop n).length = l.length - n := List.length_drop
  match hl : l.drop n with
  | c0 :: c1 :: c2 :: c3 :: q => exact ⟨l.take n, c0, c1, c2, c3, q, by rw [show [c0, c1, c2, c3] ++ q = l.drop n from hl.symm, List.take_append_drop], by rw [List.length_take]; omega⟩
  | [] => rw [hl] at hd; simp at hd; omega
  | [_] => rw [hl] at hd; simp at hd; omega
  | [_, _] => rw [hl] at hd; simp at hd; omega
  | [_, _, _] => rw [hl] at hd; simp at hd; omega

theorem fx_inj {a b : Nat} (ha : a < 4294967296) (hb : b < 4294967296) (h : fx a 4 = fx b 4) : a = b := by
  rw [← be_four a ha, ← be_four b hb, h]

theorem sum_four {p q : List UInt8} {c0 c1 c2 c3 d0 d1 d2 d3 : UInt8} (h : sumOf (p ++ ([c0, c1, c2, c3] ++ q)) = sumOf (p ++ ([d0, d1, d2, d3] ++ q))) : c0 = d0 ∧ c1 = d1 ∧ c2 = d2 ∧ c3 = d3 := by
  unfold sumOf at h
  have h1 := xor_right_inj h
  rw [adds_append, adds_append, adds_append, adds_append] at h1
  have hx := adds_lt p (s := 4294967295) (by omega)
  have h2 := adds_inj q (adds_lt _ hx) (adds_lt _ hx) h1
  exact adds_four_inj _ hx _ _ _ _ _ _ _ _ h2

/-- Some of four bytes changed, that stand in the body one behind the other, or are the last four, are told. -/
theorem gotB_bent {b : Bt} (hf : b.Fits) (h : isB b.first b.evs = true) {p q : List UInt8} {c0 c1 c2 c3 d0 d1 d2 d3 : UInt8} (hw : whole b = p ++ ([c0, c1, c2, c3] ++ q)) (h5 : 5 ≤ p.length) (hq : 4 ≤ q.length ∨ q = [])
    (hne : ¬ (c0 = d0 ∧ c1 = d1 ∧ c2 = d2 ∧ c3 = d3)) : (gotB (p ++ ([d0, d1, d2, d3] ++ q))).err = 10 := by
  have hl := body_len hf h
  have hwl := whole_len b
  have hwf := whole_form b []
  rw [List.append_nil, List.append_nil] at hwf
  obtain ⟨m, hm⟩ : ∃ m, m = (bodyB b).length := ⟨_, rfl⟩
  rw [← hm] at hwf hwl hl
  -- the first five bytes are as they were
  match p, h5 with
  | c :: p', h5 =>
    have hpl : 4 ≤ p'.length := by simpa using h5
    have hw' : c :: (p' ++ ([c0, c1, c2, c3] ++ q)) = 66 :: (fx m 4 ++ (bodyB b ++ fx (sumOf (66 :: (fx m 4 ++ bodyB b))) 4)) := by rw [← hwf, hw]; rfl
    injection hw' with hc hr
    subst hc
    have ht : ∀ x : List UInt8, (p' ++ x).take 4 = p'.take 4 := fun x => List.take_append_of_le_length hpl
    have hp4 : p'.take 4 = fx m 4 := by
      rw [← ht ([c0, c1, c2, c3] ++ q), hr, List.take_left' (fx_length _ _)]
    have hlen : p'.length + 4 + q.length = m + 8 := by
      have := congrArg List.length hw
      rw [hwl] at this
      simp at this
      omega
    have hbe : be ((p' ++ ([d0, d1, d2, d3] ++ q)).take 4) = m := by rw [ht, hp4, be_four _ (by omega)]
    have key : frO (66 :: (p' ++ ([d0, d1, d2, d3] ++ q))) = ([], 10) := by
      refine fr_sum (by decide) (by rw [hbe]; omega) (by rw [hbe]; simp; omega) ?_
      rw [hbe]
      have hdrop : fx m 4 ++ bodyB b = (p' ++ ([c0, c1, c2, c3] ++ q)).take (4 + m) := by
        rw [hr, ← List.append_assoc, List.take_left' (by rw [List.length_append, fx_length, hm])]
      have hsum : (p' ++ ([c0, c1, c2, c3] ++ q)).drop (4 + m) = fx (sumOf (66 :: (fx m 4 ++ bodyB b))) 4 := by
        rw [hr, ← List.append_assoc, List.drop_left' (by rw [List.length_append, fx_length, hm])]
      rw [show 5 + m = (4 + m) + 1 by omega, List.take_succ_cons]
      rcases hq with hq | hq
      · -- in the body
        obtain ⟨q1, S, rfl, hS⟩ : ∃ q1 S, q = q1 ++ S ∧ S.length = 4 := ⟨q.take (q.length - 4), q.drop (q.length - 4), (List.take_append_drop _ _).symm, by rw [List.length_drop]; omega⟩
        have hq1 : p'.length + 4 + q1.length = 4 + m := by
          rw [List.length_append] at hlen; omega
        have e1 : ∀ x0 x1 x2 x3 : UInt8, p' ++ ([x0, x1, x2, x3] ++ (q1 ++ S)) = (p' ++ ([x0, x1, x2, x3] ++ q1)) ++ S := by simp
        have e2 : ∀ x0 x1 x2 x3 : UInt8, (p' ++ ([x0, x1, x2, x3] ++ q1)).length = 4 + m := by intros; simp; omega
        rw [e1, List.drop_left' (e2 _ _ _ _)] at hsum
        rw [e1, List.take_left' (e2 _ _ _ _)] at hdrop
        rw [e1, List.drop_left' (e2 _ _ _ _), List.take_left' (e2 _ _ _ _), hsum, hdrop]
        rw [List.take_of_length_le (by rw [fx_length]; omega)]
        intro hx
        have := fx_inj (sumOf_lt _) (sumOf_lt _) hx
        exact hne (sum_four (p := 66 :: p') (q := q1) this)
      · -- the last four
        subst hq
        have hp : p'.length = 4 + m := by simp at hlen; omega
        rw [List.append_nil] at hsum hdrop ⊢
        rw [List.drop_left' hp] at hsum ⊢
        rw [List.take_left' hp] at hdrop ⊢
        rw [hdrop] at hsum
        intro hx
        have hx' : [d0, d1, d2, d3] = fx (sumOf (66 :: p')) 4 := hx
        rw [← hx'] at hsum
        injection hsum with a0 hsum
        injection hsum with a1 hsum
        injection hsum with a2 hsum
        injection hsum with a3 _
        exact hne ⟨a0, a1, a2, a3⟩
    have e : (66 :: p') ++ ([d0, d1, d2, d3] ++ q) = 66 :: (p' ++ ([d0, d1, d2, d3] ++ q)) := rfl
    rw [e, gotB_err key (by omega)]
    rfl

/-- A number's byte at a place. -/
def byb (n j : Nat) : UInt8 := UInt8.ofNat (n / 256 ^ j % 256)
theorem byb_none {n : Nat} (hn : n < 4294967296) (h0 : byb n 0 = 0) (h1 : byb n 1 = 0) (h2 : byb n 2 = 0) (h3 : byb n 3 = 0) : n = 0 := by
  have f : ∀ j, byb n j = 0 → n / 256 ^ j % 256 = 0 := fun j h => by
    have := congrArg UInt8.toNat h
    rw [byb, ofNat_toNat _ (by omega)] at this
    exact this
  have g0 := f 0 h0
  have g1 := f 1 h1
  have g2 := f 2 h2
  have g3 := f 3 h3
  simp only [show (256 : Nat) ^ 0 = 1 from rfl, show (256 : Nat) ^ 1 = 256 from rfl, show (256 : Nat) ^ 2 = 65536 from rfl, show (256 : Nat) ^ 3 = 16777216 from rfl] at g0 g1 g2 g3
  omega
theorem xor_zero {c b : UInt8} (h : c = c ^^^ b) : b = 0 := by
  have h1 : c ^^^ (c ^^^ b) = c ^^^ c := by rw [← h]
  simpa [← UInt8.xor_assoc] using h1
theorem byb_some {n : Nat} (hn : n < 4294967296) (h : n ≠ 0) (c0 c1 c2 c3 : UInt8) : ¬ (c0 = c0 ^^^ byb n 0 ∧ c1 = c1 ^^^ byb n 1 ∧ c2 = c2 ^^^ byb n 2 ∧ c3 = c3 ^^^ byb n 3) := by
  rintro ⟨a0, a1, a2, a3⟩
  exact h (byb_none hn (xor_zero a0) (xor_zero a1) (xor_zero a2) (xor_zero a3))

end Go.Proofs.Ytalfmkgcelipdaa.Bat
