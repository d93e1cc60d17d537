/- Four bytes in the midst of a text, and their sum: the plain functions. -/
import Derived.Test.YthhcopeejhhpgaaDoorPureWire
import Derived.Test.YthhcopeejhhpgaaDoorPureCrc
namespace Go.Proofs.YthhcopeejhhpgaaDoor.Bat
open Wire Crc

theorem be_four (n : Nat) (h : n < 4294967296) : be (fx n 4) = n := by rw [be_fx, Nat.mod_eq_of_lt h]

/-- Four bytes, of which the first ones were changed. -/
def mid (c0 c1 c2 c3 d0 d1 d2 d3 : UInt8) : Nat → List UInt8
  | 0 => [c0, c1, c2, c3]
  | 1 => [d0, c1, c2, c3]
  | 2 => [d0, d1, c2, c3]
  | 3 => [d0, d1, d2, c3]
  | _ => [d0, d1, d2, d3]

def at4b (c0 c1 c2 c3 : UInt8) : Nat → UInt8
  | 0 => c0
  | 1 => c1
  | 2 => c2
  | _ => c3

theorem mid_length (c0 c1 c2 c3 d0 d1 d2 d3 : UInt8) (j : Nat) : (mid c0 c1 c2 c3 d0 d1 d2 d3 j).length = 4 := by
  match j with
  | 0 => rfl
  | 1 => rfl
  | 2 => rfl
  | 3 => rfl
  | _ + 4 => rfl

theorem mid_at (c0 c1 c2 c3 d0 d1 d2 d3 : UInt8) {j : Nat} (h : j < 4) (p q : List UInt8) : (p ++ (mid c0 c1 c2 c3 d0 d1 d2 d3 j ++ q))[p.length + j]? = some (at4b c0 c1 c2 c3 j) := by
  rw [List.getElem?_append_right (by omega), Nat.add_sub_cancel_left]
  match j, h with
  | 0, _ => rfl
  | 1, _ => rfl
  | 2, _ => rfl
  | 3, _ => rfl

theorem mid_set (c0 c1 c2 c3 d0 d1 d2 d3 : UInt8) {j : Nat} (h : j < 4) (p q : List UInt8) :
    (p ++ (mid c0 c1 c2 c3 d0 d1 d2 d3 j ++ q)).set (p.length + j) (at4b d0 d1 d2 d3 j) = p ++ (mid c0 c1 c2 c3 d0 d1 d2 d3 (j + 1) ++ q) := by
  rw [List.set_append_right _ _ (by omega), Nat.add_sub_cancel_left]
  match j, h with
  | 0, _ => rfl
  | 1, _ => rfl
  | 2, _ => rfl
  | 3, _ => rfl

theorem list_four {l : List UInt8} {n : Nat} (h : n + 4 ≤ l.length) : ∃ p c0 c1 c2 c3 q, l = p ++ ([c0, c1, c2, c3] ++ q) ∧ p.length = n := by
  have hd : (l.drop n).length = l.length - n := List.length_drop
  match hl : l.drop n with
  | c0 :: c1 :: c2 :: c3 :: q => exact ⟨l.take n, c0, c1, c2, c3, q, by rw [show [c0, c1, c2, c3] ++ q = l.drop n from hl.symm, List.take_append_drop], by rw [List.length_take]; omega⟩
  | [] => rw [hl] at hd; simp at hd; omega
  | [_] => rw [hl] at hd; simp at hd; omega
  | [_, _] => rw [hl] at hd; simp at hd; omega
  | [_, _, _] => rw [hl] at hd; simp at hd; omega

theorem fx_inj {a b : Nat} (ha : a < 4294967296) (hb : b < 4294967296) (h : fx a 4 = fx b 4) : a = b := by
  rw [← be_four a ha, ← be_four b hb, h]

theorem sum_four {p q : List UInt8} {c0 c1 c2 c3 d0 d1 d2 d3 : UInt8} (h : sumOf (p ++ ([c0, c1, c2, c3] ++ q)) = sumOf (p ++ ([d0, d1, d2, d3] ++ q))) : c0 = d0 ∧ c1 = d1 ∧ c2 = d2 ∧ c3 = d3 := by
  unfold sumOf at h
  have h1 := xor_right_inj h
  rw [adds_append, adds_append, adds_append, adds_append] at h1
  have hx := adds_lt p (s := 4294967295) (by omega)
  have h2 := adds_inj q (adds_lt _ hx) (adds_lt _ hx) h1
  exact adds_four_inj _ hx _ _ _ _ _ _ _ _ h2

/-- A number's byte at a place. -/
def byb (n j : Nat) : UInt8 := UInt8.ofNat (n / 256 ^ j % 256)

theorem byb_none {n : Nat} (hn : n < 4294967296) (h0 : byb n 0 = 0) (h1 : byb n 1 = 0) (h2 : byb n 2 = 0) (h3 : byb n 3 = 0) : n = 0 := by
  have f : ∀ j, byb n j = 0 → n / 256 ^ j % 256 = 0 := fun j h => by
    have := congrArg UInt8.toNat h
    rw [byb, ofNat_toNat _ (by omega)] at this
    exact this
  have g0 := f 0 h0
  have g1 := f 1 h1
  have g2 := f 2 h2
  have g3 := f 3 h3
  simp only [show (256 : Nat) ^ 0 = 1 from rfl, show (256 : Nat) ^ 1 = 256 from rfl, show (256 : Nat) ^ 2 = 65536 from rfl, show (256 : Nat) ^ 3 = 16777216 from rfl] at g0 g1 g2 g3
  omega

theorem xor_zero {c b : UInt8} (h : c = c ^^^ b) : b = 0 := by
  have h1 : c ^^^ (c ^^^ b) = c ^^^ c := by rw [← h]
  simpa [← UInt8.xor_assoc] using h1

theorem byb_some {n : Nat} (hn : n < 4294967296) (h : n ≠ 0) (c0 c1 c2 c3 : UInt8) : ¬ (c0 = c0 ^^^ byb n 0 ∧ c1 = c1 ^^^ byb n 1 ∧ c2 = c2 ^^^ byb n 2 ∧ c3 = c3 ^^^ byb n 3) := by
  rintro ⟨a0, a1, a2, a3⟩
  exact h (byb_none hn (xor_zero a0) (xor_zero a1) (xor_zero a2) (xor_zero a3))

end Go.Proofs.YthhcopeejhhpgaaDoor.Bat
