/- What is told is read again, and what is read is what would be told: as plain functions. -/
import Derived.Test.YtanjebmpjenmiaaDoorReadP
namespace Go.Proofs.YtanjebmpjenmiaaDoor
open Go.RowKit Word

theorem hexOf_getD (l : List Nat) : ∀ i, i < l.length → (hexOf l).getD (2 * i) 0 = dg (l.getD i 0 / 16) ∧ (hexOf l).getD (2 * i + 1) 0 = dg (l.getD i 0 % 16) := by
  induction l with
  | nil => intro i h; simp at h
  | cons n l ih =>
    intro i h
    have e : hexOf (n :: l) = dg (n / 16) :: dg (n % 16) :: hexOf l := rfl
    rw [e]
    cases i with
    | zero => exact ⟨rfl, rfl⟩
    | succ i =>
      have := ih i (by simpa using h)
      have h1 : 2 * (i + 1) = 2 * i + 1 + 1 := by omega
      have h2 : 2 * (i + 1) + 1 = (2 * i + 1) + 1 + 1 := by omega
      rw [h1]
      simpa using this

theorem read_hex (l : List Nat) (hl : l.length = 32) (hb : ∀ n ∈ l, n < 256) : rdv (hexOf l) = l ∧ rde (hexOf l) = 0 := by
  have hs : ∀ i, i < 32 → l.getD i 0 < 256 := fun i hi => by
    rw [List.getD_eq_getElem?_getD, List.getElem?_eq_getElem (by omega)]
    exact hb _ (List.getElem_mem _)
  have hg : good (hexOf l) = true := good_of _ (by rw [hexOf_length, hl]) (fun i hi => by
    obtain ⟨h1, h2⟩ := hexOf_getD l i (by omega)
    have := hs i hi
    unfold okAt
    rw [h1, h2, sv_dg _ (by omega), sv_dg _ (by omega)]
    simp only [Bool.and_eq_true, decide_eq_true_eq]
    omega)
  obtain ⟨h1, h2⟩ := rdv_good hg
  refine ⟨?_, h2⟩
  rw [h1]
  apply List.ext_getElem
  · rw [vals_length, hl]
  · intro i h3 h4
    have hi : i < 32 := by omega
    obtain ⟨h5, h6⟩ := hexOf_getD l i (by omega)
    have := hs i hi
    simp only [vals, List.getElem_map, List.getElem_range, valAt]
    rw [h5, h6, sv_dg _ (by omega), sv_dg _ (by omega), Int.toNat_natCast, Int.toNat_natCast]
    rw [List.getD_eq_getElem?_getD, List.getElem?_eq_getElem h4]
    simp
    omega

theorem vals_small (l : List UInt8) (k : Nat) : ∀ n ∈ vals l k, n < 256 := by
  intro n hn
  obtain ⟨i, _, rfl⟩ := List.mem_map.1 hn
  have h1 := sv_lt (l.getD (2 * i) 0)
  have h2 := sv_lt (l.getD (2 * i + 1) 0)
  unfold valAt
  omega

theorem rdv_small (l : List UInt8) : ∀ n ∈ rdv l, n < 256 := by
  unfold rdv
  split
  · exact vals_small l 32
  · intro n hn
    have := List.eq_of_mem_replicate hn
    omega

theorem hex_read (s : List UInt8) (h : good s = true) : hexOf (rdv s) = s := by
  have hlen : s.length = 64 := by
    unfold good at h
    simp at h
    exact h.1
  have hok : ∀ i, i < 32 → okAt s i = true := by
    unfold good at h
    simp at h
    exact h.2
  rw [(rdv_good h).1]
  have hL : (hexOf (vals s 32)).length = 64 := by rw [hexOf_length, vals_length]
  apply List.ext_getElem
  · omega
  · intro j h1 h2
    have key : ∀ i, i < 32 → (hexOf (vals s 32)).getD (2 * i) 0 = s.getD (2 * i) 0 ∧ (hexOf (vals s 32)).getD (2 * i + 1) 0 = s.getD (2 * i + 1) 0 := by
      intro i hi
      obtain ⟨h5, h6⟩ := hexOf_getD (vals s 32) i (by rw [vals_length]; omega)
      have hv : (vals s 32).getD i 0 = valAt s i := by
        rw [List.getD_eq_getElem?_getD, List.getElem?_eq_getElem (by rw [vals_length]; omega)]
        simp [vals]
      have ho := hok i hi
      unfold okAt at ho
      simp only [Bool.and_eq_true, decide_eq_true_eq] at ho
      have l1 := sv_lt (s.getD (2 * i) 0)
      have l2 := sv_lt (s.getD (2 * i + 1) 0)
      rw [h5, h6, hv]
      unfold valAt
      constructor
      · rw [show (16 * (sv (s.getD (2 * i) 0)).toNat + (sv (s.getD (2 * i + 1) 0)).toNat) / 16 = (sv (s.getD (2 * i) 0)).toNat by omega]
        exact dg_sv _ ho.1
      · rw [show (16 * (sv (s.getD (2 * i) 0)).toNat + (sv (s.getD (2 * i + 1) 0)).toNat) % 16 = (sv (s.getD (2 * i + 1) 0)).toNat by omega]
        exact dg_sv _ ho.2
    have e1 : (hexOf (vals s 32))[j] = (hexOf (vals s 32)).getD j 0 := by rw [List.getD_eq_getElem?_getD, List.getElem?_eq_getElem h1]; rfl
    have e2 : s[j] = s.getD j 0 := by rw [List.getD_eq_getElem?_getD, List.getElem?_eq_getElem h2]; rfl
    rw [e1, e2]
    obtain ⟨k1, k2⟩ := key (j / 2) (by omega)
    rcases Nat.mod_two_eq_zero_or_one j with hj | hj
    · rw [show 2 * (j / 2) = j by omega] at k1; exact k1
    · rw [show 2 * (j / 2) + 1 = j by omega] at k2; exact k2

end Go.Proofs.YtanjebmpjenmiaaDoor
