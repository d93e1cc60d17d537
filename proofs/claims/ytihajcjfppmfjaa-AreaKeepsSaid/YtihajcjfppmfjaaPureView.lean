/- What a disk's sectors read as, all in one list; bytes laid over them piece by piece. -/
import Derived.Test.YtihajcjfppmfjaaPureSec
namespace Go.Proofs.Ytihajcjfppmfjaa.Sec

/-- A sector's bytes in the list of all. -/
def Sc (n : Nat) (L : List UInt8) (k : Nat) : List UInt8 := (L.drop (k * n)).take n

theorem Sc_get (n : Nat) (L : List UInt8) (k i : Nat) : (Sc n L k)[i]? = if i < n then L[k * n + i]? else none := by
  unfold Sc
  rw [List.getElem?_take, List.getElem?_drop]

theorem Sc_len {m n k : Nat} {L : List UInt8} (hL : L.length = m * n) (hk : k < m) : (Sc n L k).length = n := by
  have := room (n := n) hk
  unfold Sc
  rw [List.length_take, List.length_drop, hL]; omega

theorem Sc_lay_other {m n k p : Nat} {L b : List UInt8} (hL : L.length = m * n) (hp : p < m) (hb : b.length ≤ n) (hne : k ≠ p) : Sc n (lay L (p * n) b) k = Sc n L k := by
  apply List.ext_getElem?
  intro i
  rw [Sc_get, Sc_get]
  split
  · next hi =>
    have hr := room (n := n) hp
    rw [lay_get (by omega), if_neg]
    rcases Nat.lt_or_ge k p with h | h
    · have := room (n := n) h; omega
    · have := room (n := n) (show p < k by omega); omega
  · rfl

theorem Sc_lay_same {m n p : Nat} {L b : List UInt8} (hL : L.length = m * n) (hp : p < m) (hb : b.length = n) : Sc n (lay L (p * n) b) p = b := by
  apply List.ext_getElem?
  intro i
  rw [Sc_get]
  have hr := room (n := n) hp
  split
  · next hi =>
    rw [lay_get (by omega), if_pos (by omega)]
    congr 1
    omega
  · next hi => rw [List.getElem?_eq_none (by omega)]

/-- What all sectors read as: all that is pending done. -/
def Dk.view (D : Dk) : List UInt8 := sets D.size D.L D.P

theorem Dk.view_len {D : Dk} (h : D.Ok) : D.view.length = D.many * D.size := sets_len D.P h.len h.pend

/-- A sector reads as its part of the view. -/
theorem Dk.sec_view {D : Dk} (h : D.Ok) {k : Nat} (hk : k < D.many) : D.sec k = Sc D.size D.view k := by
  have key : ∀ (P : List (Nat × List UInt8)), (∀ p ∈ P, p.1 < D.many ∧ p.2.length = D.size) → Sc D.size (sets D.size D.L P) k = if (lat P k).length = 0 then Sc D.size D.L k else lat P k := by
    have s1 := h.s1
    intro P
    generalize hn : P.length = n
    induction n generalizing P with
    | zero =>
      obtain rfl := List.length_eq_zero_iff.1 hn
      intro _
      rw [if_pos (by rfl)]
      rfl
    | succ n ih =>
      intro hp
      rcases list_cases P with rfl | ⟨Q, q, rfl⟩
      · simp at hn
      · have hq : ∀ p ∈ Q, p.1 < D.many ∧ p.2.length = D.size := fun p h => hp p (by simp [h])
        obtain ⟨h1, h2⟩ := hp q (by simp)
        have ih' := ih Q (by simpa using hn) hq
        obtain ⟨a, b⟩ := q
        rw [sets_snoc, lat_snoc]
        by_cases hak : a = k
        · subst hak
          rw [if_pos rfl, Sc_lay_same (sets_len Q h.len hq) h1 h2, if_neg]
          dsimp only at h2
          omega
        · rw [if_neg hak, Sc_lay_other (sets_len Q h.len hq) h1 (by omega) (fun e => hak e.symm), ih']
  rw [Dk.view, key D.P h.pend]
  rfl

theorem Dk.view_counted (D : Dk) : D.counted.view = D.view := by
  unfold Dk.view
  rw [Dk.counted_size, Dk.counted_L, Dk.counted_P]

/-- A Write lays its bytes over the view. -/
theorem Dk.view_write {D : Dk} {k : Nat} {b : List UInt8} (hu : D.unfit (k : Nat) = 0) (hb : b.length = D.size) : (D.write (k : Nat) b).1.view = lay D.view (k * D.size) b := by
  unfold Dk.write
  rw [if_pos hu, if_pos hb, Int.toNat_natCast]
  show sets D.counted.size D.counted.L (D.P ++ [(k, b)]) = _
  rw [Dk.counted_size, Dk.counted_L, sets_snoc]
  rfl

/-- A Flush makes the view last. -/
theorem Dk.flush_view {D : Dk} (h : D.Ok) (hd : D.down = false) : D.flush.1.L = D.view ∧ D.flush.1.view = D.view ∧ D.flush.2 = 0 := by
  have hf : D.flush = (D.counted.settled D.P D.size, 0) := by unfold Dk.flush; rw [hd]; simp
  have e : D.flush.1.L = D.view := by
    rw [hf]
    show torn D.counted.size D.counted.L D.P D.size = _
    rw [Dk.counted_size, Dk.counted_L, torn_full _ (fun p hp => Nat.le_of_eq (h.pend p hp).2)]
    rfl
  refine ⟨e, ?_, by rw [hf]⟩
  have hp : D.flush.1.P = [] := by rw [hf]; rfl
  rw [Dk.view, hp]
  exact e

/-- Bytes laid one behind the other are laid at once. -/
theorem lay_lay {L a b : List UInt8} {o : Nat} (h : o + a.length + b.length ≤ L.length) : lay (lay L o a) (o + a.length) b = lay L o (a ++ b) := by
  apply List.ext_getElem?
  intro i
  have hl : (lay L o a).length = L.length := lay_len (by omega)
  rw [lay_get (by omega), lay_get (by omega), lay_get (by simp; omega), List.length_append]
  by_cases h1 : o + a.length ≤ i ∧ i < o + a.length + b.length
  · rw [if_pos h1, if_pos (by omega), List.getElem?_append_right (by omega)]
    congr 1
    omega
  · rw [if_neg h1]
    by_cases h2 : o ≤ i ∧ i < o + a.length
    · rw [if_pos h2, if_pos (by omega), List.getElem?_append_left (by omega)]
    · rw [if_neg h2, if_neg (by omega)]

theorem lay_nil (L : List UInt8) (o : Nat) : lay L o [] = L := by
  unfold lay
  simp

/-- A part of a sector, changed, and laid back whole: that part alone is laid. -/
theorem lay_part {m n k x : Nat} {L p : List UInt8} (hL : L.length = m * n) (hk : k < m) (hx : x + p.length ≤ n) : lay L (k * n) (lay (Sc n L k) x p) = lay L (k * n + x) p := by
  have hr := room (n := n) hk
  have hs : (Sc n L k).length = n := Sc_len hL hk
  have hl : (lay (Sc n L k) x p).length = n := by rw [lay_len (by omega)]; exact hs
  apply List.ext_getElem?
  intro i
  rw [lay_get (b := lay (Sc n L k) x p) (by omega), lay_get (o := k * n + x) (b := p) (by omega), hl]
  by_cases h1 : k * n ≤ i ∧ i < k * n + n
  · rw [if_pos h1, lay_get (by omega)]
    by_cases h2 : x ≤ i - k * n ∧ i - k * n < x + p.length
    · rw [if_pos h2, if_pos (by omega)]
      congr 1
      omega
    · rw [if_neg h2, if_neg (by omega), Sc_get, if_pos (by omega)]
      congr 1
      omega
  · rw [if_neg h1, if_neg (by omega)]

/-- .. as a text is put together of its pieces. -/
theorem lay_eq (s : List UInt8) (x : Nat) (p : List UInt8) : lay s x p = s.take x ++ p ++ s.drop (x + p.length) := rfl

/-- What was laid is there. -/
theorem lay_there {L b : List UInt8} {o : Nat} (h : o + b.length ≤ L.length) : ((lay L o b).drop o).take b.length = b := by
  apply List.ext_getElem?
  intro i
  rw [List.getElem?_take, List.getElem?_drop]
  split
  · rw [lay_get h, if_pos (by omega)]
    congr 1
    omega
  · next hi => rw [List.getElem?_eq_none (by omega)]

/-- All ahead of it, and all behind it, is as it was. -/
theorem lay_ahead {L b : List UInt8} {o : Nat} (h : o + b.length ≤ L.length) : (lay L o b).take o = L.take o := by
  apply List.ext_getElem?
  intro i
  rw [List.getElem?_take, List.getElem?_take]
  split
  · rw [lay_get h, if_neg (by omega)]
  · rfl

theorem lay_behind {L b : List UInt8} {o : Nat} (h : o + b.length ≤ L.length) : (lay L o b).drop (o + b.length) = L.drop (o + b.length) := by
  apply List.ext_getElem?
  intro i
  rw [List.getElem?_drop, List.getElem?_drop, lay_get h, if_neg (by omega)]

end Go.Proofs.Ytihajcjfppmfjaa.Sec
