/- Sectors behind a crash: each is as it was, or as one of the pending writes made it, but the last one that was kept. -/
import Derived.Test.YtbkieheebilopaaWrittenB
namespace Go.Proofs.Ytbkieheebilopaa.Sec

/-- A sector's bytes. -/
def S (n : Nat) (L : List UInt8) (k : Nat) : List UInt8 := (L.drop (k * n)).take n

theorem S_get (n : Nat) (L : List UInt8) (k i : Nat) : (S n L k)[i]? = if i < n then L[k * n + i]? else none := by
  unfold S
  rw [List.getElem?_take, List.getElem?_drop]

theorem S_len {m n k : Nat} {L : List UInt8} (hL : L.length = m * n) (hk : k < m) : (S n L k).length = n := by
  have := room (n := n) hk
  unfold S
  rw [List.length_take, List.length_drop, hL]; omega

theorem S_lay_other {m n k p : Nat} {L b : List UInt8} (hL : L.length = m * n) (hp : p < m) (hb : b.length ≤ n) (hne : k ≠ p) : S n (lay L (p * n) b) k = S n L k := by
  apply List.ext_getElem?
  intro i
  rw [S_get, S_get]
  split
  · next hi =>
    have hr := room (n := n) hp
    rw [lay_get (by omega), if_neg]
    rcases Nat.lt_or_ge k p with h | h
    · have := room (n := n) h; omega
    · have := room (n := n) (show p < k by omega); omega
  · rfl

theorem S_lay_same {m n p : Nat} {L b : List UInt8} (hL : L.length = m * n) (hp : p < m) (hb : b.length = n) : S n (lay L (p * n) b) p = b := by
  apply List.ext_getElem?
  intro i
  rw [S_get]
  have hr := room (n := n) hp
  split
  · next hi =>
    rw [lay_get (by omega), if_pos (by omega)]
    congr 1
    omega
  · next hi => rw [List.getElem?_eq_none (by omega)]

/-- A sector is as it was, or as one of the writes made it. -/
def Good (n : Nat) (L X : List UInt8) (P : List (Nat × List UInt8)) (k : Nat) : Prop := S n X k = S n L k ∨ ∃ p ∈ P, p.1 = k ∧ S n X k = p.2

theorem sets_good {m n : Nat} : ∀ (P : List (Nat × List UInt8)) {L : List UInt8}, L.length = m * n → (∀ p ∈ P, p.1 < m ∧ p.2.length = n) → ∀ k, k < m → Good n L (sets n L P) P k
  | [], _, _, _, _, _ => Or.inl rfl
  | p :: P, L, hL, hp, k, hk => by
    obtain ⟨h1, h2⟩ := hp p (by simp)
    have hr := room (n := n) h1
    have ih := sets_good P (L := lay L (p.1 * n) p.2) (by rw [lay_len (by omega)]; exact hL) (fun q hq => hp q (by simp [hq])) k hk
    have e : sets n L (p :: P) = sets n (lay L (p.1 * n) p.2) P := rfl
    unfold Good
    rw [e]
    rcases ih with ih | ⟨q, hq, hqk, ih⟩
    · by_cases hkp : k = p.1
      · subst hkp
        rw [S_lay_same hL h1 h2] at ih
        exact Or.inr ⟨p, by simp, rfl, ih⟩
      · rw [S_lay_other hL h1 (by omega) hkp] at ih
        exact Or.inl ih
    · exact Or.inr ⟨q, by simp [hq], hqk, ih⟩

theorem torn_good {m n : Nat} (P : List (Nat × List UInt8)) {L : List UInt8} (f : Nat) (hL : L.length = m * n) (hp : ∀ p ∈ P, p.1 < m ∧ p.2.length = n) :
    ∃ b, (∀ k, k < m → k ≠ b → Good n L (torn n L P f) P k) ∧ (f < n ∨ ∀ k, k < m → Good n L (torn n L P f) P k) := by
  by_cases hf : f < n
  · rcases list_cases P with rfl | ⟨Q, q, rfl⟩
    · exact ⟨0, fun k _ _ => Or.inl rfl, Or.inl hf⟩
    · obtain ⟨h1, h2⟩ := hp q (by simp)
      refine ⟨q.1, fun k hk hne => ?_, Or.inl hf⟩
      have hq : ∀ p ∈ Q, p.1 < m ∧ p.2.length = n := fun p h => hp p (by simp [h])
      have hs := sets_good Q hL hq k hk
      unfold Good
      rw [torn_snoc, S_lay_other (sets_len Q hL hq) h1 (by rw [List.length_take]; omega) hne]
      rcases hs with hs | ⟨p, hp', hpk, hs⟩
      · exact Or.inl hs
      · exact Or.inr ⟨p, by simp [hp'], hpk, hs⟩
  · have e : torn n L P f = sets n L P := torn_full L (fun p h => by have := (hp p h).2; omega)
    rw [e]
    exact ⟨0, fun k hk _ => sets_good P hL hp k hk, Or.inr (fun k hk => sets_good P hL hp k hk)⟩

/-- How many do not. -/
def cnt (g : Nat → Bool) : Nat → Nat
  | 0 => 0
  | k + 1 => cnt g k + if g k then 0 else 1

theorem cnt_one {g : Nat → Bool} {m b : Nat} (h : ∀ k, k < m → k ≠ b → g k = true) : ∀ k, k ≤ m → cnt g k ≤ if b < k then 1 else 0
  | 0, _ => by simp [cnt]
  | k + 1, hk => by
    have ih := cnt_one h k (by omega)
    rw [cnt]
    by_cases hb : k = b
    · subst hb
      rw [if_neg (Nat.lt_irrefl _)] at ih
      rw [if_pos (Nat.lt_succ_self _)]
      split <;> omega
    · rw [h k (by omega) hb, if_pos rfl]
      by_cases h2 : b < k
      · rw [if_pos h2] at ih; rw [if_pos (by omega)]; omega
      · rw [if_neg h2] at ih; omega

theorem cnt_none {g : Nat → Bool} {m : Nat} (h : ∀ k, k < m → g k = true) : ∀ k, k ≤ m → cnt g k = 0
  | 0, _ => rfl
  | k + 1, hk => by rw [cnt, cnt_none h k (by omega), h k (by omega)]; rfl

/-- Whether one of the first so many does. -/
def gI (g0 : Bool) (t : Nat → Bool) : Nat → Bool
  | 0 => g0
  | j + 1 => gI g0 t j || t j

theorem gI_yes {t : Nat → Bool} : ∀ j, gI true t j = true
  | 0 => rfl
  | j + 1 => by rw [gI, gI_yes j]; rfl

theorem gI_of {g0 : Bool} {t : Nat → Bool} {i : Nat} (h : t i = true) : ∀ j, i < j → gI g0 t j = true
  | 0, h0 => by omega
  | j + 1, h0 => by
    rw [gI]
    by_cases hij : i = j
    · subst hij; rw [h]; simp
    · rw [gI_of h j (by omega)]; rfl

/-- Is a sector what a write made of it? -/
def tst (n : Nat) (ats : List Int) (fr : Nat) (X : List UInt8) (k j : Nat) : Bool := decide (fr ≤ j) && decide (ats.getD j 0 = (k : Int)) && (S n X k == List.replicate n (wb j))

def gd (n : Nat) (ats : List Int) (fr : Nat) (L X : List UInt8) (k : Nat) : Bool := gI (S n X k == S n L k) (tst n ats fr X k) ats.length

/-- What is pending behind so many steps. -/
theorem wst_pend (fl : Int) {m n : Nat} (ats : List Int) : ∀ k, ∀ p ∈ (wst fl (Dk.new m n) ats k).P, ∃ i, i < k ∧ (0 ≤ fl → fl < k → fl ≤ i) ∧ ats.getD i 0 = (p.1 : Int) ∧ p.2 = List.replicate n (wb i)
  | 0, p, hp => by simp [wst, Dk.new] at hp
  | k + 1, p, hp => by
    have ih := wst_pend fl (m := m) (n := n) ats k
    have hbr := wst_br fl (Dk.new m n) ats k
    have hsz := wst_size fl (Dk.new m n) ats k
    rw [wst] at hp
    unfold stp at hp
    rw [hsz] at hp
    generalize wst fl (Dk.new m n) ats k = D at *
    have hbr' : D.br = false := hbr
    have hd : D.down = false := by simp [Dk.down, hbr']
    have key : ∀ E : Dk, (∀ q ∈ E.P, ∃ i, i < k + 1 ∧ (0 ≤ fl → fl < (k + 1 : Nat) → fl ≤ i) ∧ ats.getD i 0 = (q.1 : Int) ∧ q.2 = List.replicate n (wb i)) →
        p ∈ (E.write (ats.getD k 0) (List.replicate (Dk.new m n).size (wb k))).1.P → ∃ i, i < k + 1 ∧ (0 ≤ fl → fl < (k + 1 : Nat) → fl ≤ i) ∧ ats.getD i 0 = (p.1 : Int) ∧ p.2 = List.replicate n (wb i) := by
      intro E hE hpE
      unfold Dk.write at hpE
      split at hpE
      · next hu =>
        obtain ⟨_, h0, _⟩ := Dk.unfit_at hu
        split at hpE
        · rcases List.mem_append.1 hpE with h | h
          · exact hE p h
          · obtain rfl := List.mem_singleton.1 h
            exact ⟨k, Nat.lt_succ_self _, fun _ h2 => by omega, by show _ = (((ats.getD k 0).toNat : Nat) : Int); omega, rfl⟩
        · exact hE p hpE
      · exact hE p hpE
    by_cases hf : (k : Int) = fl
    · rw [if_pos hf] at hp
      refine key D.flush.1 (fun q hq => ?_) hp
      have : D.flush.1.P = [] := by simp [Dk.flush, hd, Dk.settled]
      rw [this] at hq
      simp at hq
    · rw [if_neg hf] at hp
      refine key D (fun q hq => ?_) hp
      obtain ⟨i, h1, h2, h3, h4⟩ := ih q hq
      exact ⟨i, by omega, fun a b => h2 a (by omega), h3, h4⟩

/-- The law, of plain lists. -/
theorem lasts_all {fl t : Int} {m n : Nat} {ats : List Int} {D : Dk} {K : List Bool} {fr : Nat} (ok : D.Ok) (hm : D.many = m) (hn : D.size = n)
    (hP : ∀ p ∈ D.P, ∃ i, i < ats.length ∧ (0 ≤ fl → fl < (ats.length : Nat) → fl ≤ i) ∧ ats.getD i 0 = (p.1 : Int) ∧ p.2 = List.replicate n (wb i))
    (hfr : (0 ≤ fl ∧ fl < (ats.length : Nat) ∧ (fr : Int) = fl) ∨ fr = 0) :
    cnt (gd n ats fr D.L (D.crash K t).L) m ≤ 1 ∧ (cnt (gd n ats fr D.L (D.crash K t).L) m = 0 ∨ 0 ≤ t ∧ t < n) := by
  subst hm hn
  have hk : ∀ p ∈ kp D.P K, p.1 < D.many ∧ p.2.length = D.size := fun p hp => ok.pend p (kp_mem _ _ hp)
  obtain ⟨b, h1, h2⟩ := torn_good (kp D.P K) (D.tear t) ok.len hk
  have hX : (D.crash K t).L = torn D.size D.L (kp D.P K) (D.tear t) := rfl
  rw [hX]
  generalize torn D.size D.L (kp D.P K) (D.tear t) = X at *
  have hg : ∀ k, Good D.size D.L X (kp D.P K) k → gd D.size ats fr D.L X k = true := by
    intro k hk
    unfold gd
    rcases hk with hk | ⟨p, hp, hpk, hk⟩
    · have : (S D.size X k == S D.size D.L k) = true := by rw [hk]; simp
      rw [this]
      exact gI_yes _
    · obtain ⟨i, hi, hfi, ha, hb⟩ := hP p (kp_mem _ _ hp)
      refine gI_of (i := i) ?_ _ hi
      unfold tst
      have e1 : decide (fr ≤ i) = true := by
        rw [decide_eq_true_eq]
        rcases hfr with ⟨a, c, e⟩ | e
        · have := hfi a c; omega
        · omega
      have e2 : decide (ats.getD i 0 = (k : Int)) = true := by rw [decide_eq_true_eq, ha, hpk]
      have e3 : (S D.size X k == List.replicate D.size (wb i)) = true := by rw [hk, hb]; simp
      rw [e1, e2, e3]
      rfl
  refine ⟨?_, ?_⟩
  · have := cnt_one (g := gd D.size ats fr D.L X) (fun k hk hne => hg k (h1 k hk hne)) D.many (Nat.le_refl _)
    split at this <;> omega
  · rcases h2 with h2 | h2
    · right
      unfold Dk.tear at h2
      split at h2 <;> omega
    · exact Or.inl (cnt_none (fun k hk => hg k (h2 k hk)) D.many (Nat.le_refl _))

end Go.Proofs.Ytbkieheebilopaa.Sec
