/- The sum of 32 bits as plain functions of numbers and lists, and its laws: it is linear over XOR, and no two sums become one. Nothing of the program is named here. -/
namespace Go.Proofs.YthhcopeejhhpgaaDoor.Crc

/-- One step: halved, and turned where it was odd. -/
def hv (n : Nat) : Nat := if n % 2 = 1 then n / 2 ^^^ 3988292384 else n / 2

/-- k steps. -/
def hvs : Nat → Nat → Nat
  | 0, n => n
  | k + 1, n => hv (hvs k n)

/-- A byte's eight steps. -/
def ad (s : Nat) (c : UInt8) : Nat := hvs 8 (s ^^^ c.toNat)

/-- A text's bytes, one behind the other. -/
def adds (s : Nat) (l : List UInt8) : Nat := l.foldl ad s

/-- The sum of a text. -/
def sumOf (l : List UInt8) : Nat := adds 4294967295 l ^^^ 4294967295

theorem hv_lt {n : Nat} (h : n < 4294967296) : hv n < 4294967296 := by
  unfold hv
  split
  · exact Nat.xor_lt_two_pow (n := 32) (by omega) (by omega)
  · omega

theorem hvs_lt (k : Nat) {n : Nat} (h : n < 4294967296) : hvs k n < 4294967296 := by
  induction k with
  | zero => exact h
  | succ k ih => exact hv_lt ih

theorem byte_lt (c : UInt8) : c.toNat < 4294967296 := by have := c.toNat_lt; omega

theorem xor_lt {a b : Nat} (ha : a < 4294967296) (hb : b < 4294967296) : a ^^^ b < 4294967296 := Nat.xor_lt_two_pow (n := 32) ha hb

theorem ad_lt {s : Nat} (h : s < 4294967296) (c : UInt8) : ad s c < 4294967296 := hvs_lt 8 (xor_lt h (byte_lt c))

theorem adds_lt (l : List UInt8) : ∀ {s : Nat}, s < 4294967296 → adds s l < 4294967296 := by
  induction l with
  | nil => intro s h; exact h
  | cons c l ih => intro s h; exact ih (ad_lt h c)

theorem sumOf_lt (l : List UInt8) : sumOf l < 4294967296 := xor_lt (adds_lt l (by omega)) (by omega)

theorem adds_append (s : Nat) (a b : List UInt8) : adds s (a ++ b) = adds (adds s a) b := List.foldl_append

theorem adds_take_succ (s : Nat) (l : List UInt8) (k : Nat) (h : k < l.length) : adds s (l.take (k + 1)) = ad (adds s (l.take k)) l[k] := by
  rw [List.take_succ_eq_append_getElem h, adds_append]; rfl

/-! ### Linear over XOR -/

theorem half_xor (a b : Nat) : (a ^^^ b) / 2 = a / 2 ^^^ b / 2 := by
  have := Nat.shiftRight_xor_distrib (a := a) (b := b) (i := 1)
  simpa [Nat.shiftRight_eq_div_pow] using this

theorem odd_xor (a b : Nat) : (a ^^^ b) % 2 = (a % 2 + b % 2) % 2 := by
  have h := Nat.xor_mod_two_pow (a := a) (b := b) (n := 1)
  simp only [Nat.pow_one] at h
  rw [h]
  rcases Nat.mod_two_eq_zero_or_one a with ha | ha <;> rcases Nat.mod_two_eq_zero_or_one b with hb | hb <;> simp [ha, hb]

theorem hv_xor (a b : Nat) : hv (a ^^^ b) = hv a ^^^ hv b := by
  unfold hv
  rw [half_xor, odd_xor]
  rcases Nat.mod_two_eq_zero_or_one a with ha | ha <;> rcases Nat.mod_two_eq_zero_or_one b with hb | hb
  · simp [ha, hb]
  · simp [ha, hb, Nat.xor_assoc]
  · simp only [ha, hb]
    simp [Nat.xor_assoc, Nat.xor_comm (3988292384) (b / 2)]
  · simp only [ha, hb]
    simp only [Nat.reduceAdd, Nat.reduceMod, ↓reduceIte, Nat.zero_ne_one]
    rw [Nat.xor_assoc, ← Nat.xor_assoc 3988292384, Nat.xor_comm 3988292384 (b / 2), Nat.xor_assoc (b / 2), Nat.xor_self, Nat.xor_zero]

theorem hvs_xor (k a b : Nat) : hvs k (a ^^^ b) = hvs k a ^^^ hvs k b := by
  induction k with
  | zero => rfl
  | succ k ih => simp only [hvs, ih, hv_xor]

theorem hv_zero : hv 0 = 0 := rfl

theorem hvs_zero (k : Nat) : hvs k 0 = 0 := by
  induction k with
  | zero => rfl
  | succ k ih => simp only [hvs, ih, hv_zero]

/-- Only nothing is halved to nothing. -/
theorem hv_eq_zero {n : Nat} (hn : n < 4294967296) (h : hv n = 0) : n = 0 := by
  unfold hv at h
  split at h
  · have e : n / 2 = 3988292384 := by
      have := congrArg (· ^^^ 3988292384) h
      simpa [Nat.xor_assoc] using this
    omega
  · omega

theorem hvs_eq_zero (k : Nat) : ∀ {n : Nat}, n < 4294967296 → hvs k n = 0 → n = 0 := by
  induction k with
  | zero => intro n _ h; exact h
  | succ k ih => intro n hn h; exact ih hn (hv_eq_zero (hvs_lt k hn) h)

theorem xor_eq_zero {a b : Nat} : a ^^^ b = 0 ↔ a = b := by
  constructor
  · intro h
    have := congrArg (· ^^^ b) h
    simpa [Nat.xor_assoc] using this
  · intro h; rw [h, Nat.xor_self]

theorem hvs_inj (k : Nat) {a b : Nat} (ha : a < 4294967296) (hb : b < 4294967296) (h : hvs k a = hvs k b) : a = b :=
  xor_eq_zero.1 (hvs_eq_zero k (xor_lt ha hb) (by rw [hvs_xor, h, Nat.xor_self]))

theorem xor_right_inj {a b c : Nat} (h : a ^^^ c = b ^^^ c) : a = b := by
  have := congrArg (· ^^^ c) h
  simpa [Nat.xor_assoc] using this

theorem ad_inj {a b : Nat} (ha : a < 4294967296) (hb : b < 4294967296) (c : UInt8) (h : ad a c = ad b c) : a = b :=
  xor_right_inj (hvs_inj 8 (xor_lt ha (byte_lt c)) (xor_lt hb (byte_lt c)) h)

/-- No two sums become one by the same bytes. -/
theorem adds_inj (l : List UInt8) : ∀ {a b : Nat}, a < 4294967296 → b < 4294967296 → adds a l = adds b l → a = b := by
  induction l with
  | nil => intro a b _ _ h; exact h
  | cons c l ih => intro a b ha hb h; exact ad_inj ha hb c (ih (ad_lt ha c) (ad_lt hb c) h)

theorem adds_eq_iff (l : List UInt8) {a b : Nat} (ha : a < 4294967296) (hb : b < 4294967296) : adds a l = adds b l ↔ a = b :=
  ⟨adds_inj l ha hb, fun h => by rw [h]⟩

/-! ### Three texts of one length -/

theorem ad_xor (s t : Nat) (x y : UInt8) : ad (s ^^^ t) (x ^^^ y) = ad s x ^^^ ad t y := by
  unfold ad
  rw [← hvs_xor, UInt8.toNat_xor]
  congr 1
  ac_rfl

/-- Two texts against one another, bit by bit. -/
def zipX : List UInt8 → List UInt8 → List UInt8
  | a :: l, b :: m => (a ^^^ b) :: zipX l m
  | _, _ => []

theorem adds_xor (l : List UInt8) : ∀ (m : List UInt8) (s t : Nat), l.length = m.length → adds (s ^^^ t) (zipX l m) = adds s l ^^^ adds t m := by
  induction l with
  | nil => intro m s t h; cases m with
    | nil => rfl
    | cons => simp at h
  | cons x l ih => intro m s t h; cases m with
    | nil => simp at h
    | cons y m =>
      show adds (ad (s ^^^ t) (x ^^^ y)) (zipX l m) = adds (ad s x) l ^^^ adds (ad t y) m
      rw [ad_xor]
      exact ih m _ _ (by simpa using h)

theorem zipX_length (l : List UInt8) : ∀ (m : List UInt8), l.length = m.length → (zipX l m).length = l.length := by
  induction l with
  | nil => intro m h; cases m with
    | nil => rfl
    | cons => simp at h
  | cons x l ih => intro m h; cases m with
    | nil => simp at h
    | cons y m => simp [zipX, ih m (by simpa using h)]

theorem sumOf_zip (l m k : List UInt8) (h1 : l.length = m.length) (h2 : l.length = k.length) : sumOf (zipX (zipX l m) k) = sumOf l ^^^ sumOf m ^^^ sumOf k := by
  have e : (4294967295 : Nat) = 4294967295 ^^^ 4294967295 ^^^ 4294967295 := by rw [Nat.xor_self, Nat.zero_xor]
  have h3 : adds 4294967295 (zipX (zipX l m) k) = adds 4294967295 l ^^^ adds 4294967295 m ^^^ adds 4294967295 k := by
    conv => lhs; rw [e]
    rw [adds_xor _ _ _ _ ((zipX_length l m h1).trans h2), adds_xor _ _ _ _ h1]
  unfold sumOf
  rw [h3]
  generalize adds 4294967295 l = a
  generalize adds 4294967295 m = b
  generalize adds 4294967295 k = c
  conv => lhs; rw [e]
  ac_rfl

/-! ### Four bytes, one behind the other -/

/-- What stands above the bits that are halved away is only halved. -/
theorem hvs_shift (k n : Nat) : hvs k (n * 2 ^ k) = n := by
  induction k generalizing n with
  | zero => simp [hvs]
  | succ k ih =>
    have e : n * 2 ^ (k + 1) = (n * 2) * 2 ^ k := by rw [Nat.pow_succ]; ac_rfl
    show hv (hvs k (n * 2 ^ (k + 1))) = n
    rw [e, ih]
    unfold hv
    rw [if_neg (by omega)]
    omega

theorem hvs_add (j k n : Nat) : hvs (j + k) n = hvs j (hvs k n) := by
  induction j with
  | zero => simp [hvs]
  | succ j ih => rw [show j + 1 + k = (j + k) + 1 from by omega]; simp only [hvs, ih]

theorem ad_hvs (j x : Nat) (c : UInt8) : ad (hvs j x) c = hvs (8 + j) (x ^^^ c.toNat * 2 ^ j) := by
  unfold ad
  rw [hvs_add, hvs_xor j, hvs_shift]

/-- Four bytes at once. -/
theorem adds_four (s : Nat) (c0 c1 c2 c3 : UInt8) :
    adds s [c0, c1, c2, c3] = hvs 32 (s ^^^ c0.toNat * 2 ^ 0 ^^^ c1.toNat * 2 ^ 8 ^^^ c2.toNat * 2 ^ 16 ^^^ c3.toNat * 2 ^ 24) := by
  show ad (ad (ad (ad (hvs 0 s) c0) c1) c2) c3 = _
  rw [ad_hvs, ad_hvs, ad_hvs, ad_hvs]

theorem low_xor (n a b : Nat) (ha : a < 2 ^ n) : a ^^^ b * 2 ^ n = a + b * 2 ^ n := by
  have h : a ^^^ b * 2 ^ n = a ||| b * 2 ^ n := by
    apply Nat.eq_of_testBit_eq
    intro i
    rw [Nat.testBit_xor, Nat.testBit_or, Nat.testBit_mul_two_pow]
    by_cases hi : n ≤ i
    · have : a.testBit i = false := Nat.testBit_lt_two_pow (Nat.lt_of_lt_of_le ha (Nat.pow_le_pow_right (by omega) hi))
      simp [this]
    · simp [hi]
  rw [h, Nat.or_comm, Nat.mul_comm, ← Nat.two_pow_add_eq_or_of_lt ha, Nat.add_comm]

/-- Four bytes at once, as one number. -/
theorem adds_four' (s : Nat) (c0 c1 c2 c3 : UInt8) :
    adds s [c0, c1, c2, c3] = hvs 32 (s ^^^ (c0.toNat + c1.toNat * 256 + c2.toNat * 65536 + c3.toNat * 16777216)) := by
  have b0 := c0.toNat_lt
  have b1 := c1.toNat_lt
  have b2 := c2.toNat_lt
  have b3 := c3.toNat_lt
  rw [adds_four, Nat.xor_assoc, Nat.xor_assoc, Nat.xor_assoc]
  congr 2
  rw [← Nat.xor_assoc, ← Nat.xor_assoc, low_xor 8 _ _ (by omega), low_xor 16 _ _ (by omega), low_xor 24 _ _ (by omega)]
  omega

/-- Of two texts that differ within four bytes, one behind the other, the sums differ. -/
theorem adds_four_inj (s : Nat) (hs : s < 4294967296) (c0 c1 c2 c3 d0 d1 d2 d3 : UInt8) (h : adds s [c0, c1, c2, c3] = adds s [d0, d1, d2, d3]) :
    c0 = d0 ∧ c1 = d1 ∧ c2 = d2 ∧ c3 = d3 := by
  have b0 := c0.toNat_lt
  have b1 := c1.toNat_lt
  have b2 := c2.toNat_lt
  have b3 := c3.toNat_lt
  have e0 := d0.toNat_lt
  have e1 := d1.toNat_lt
  have e2 := d2.toNat_lt
  have e3 := d3.toNat_lt
  rw [adds_four', adds_four'] at h
  have h' := hvs_inj 32 (xor_lt hs (by omega)) (xor_lt hs (by omega)) h
  rw [Nat.xor_comm s, Nat.xor_comm s] at h'
  have h2 := xor_right_inj h'
  refine ⟨?_, ?_, ?_, ?_⟩ <;> apply UInt8.toNat_inj.1 <;> omega

end Go.Proofs.YthhcopeejhhpgaaDoor.Crc
