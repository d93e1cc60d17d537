/- A sum's signs, read: as plain functions. -/
import Derived.Test.YtanjebmpjenmiaaDoorHexA
import Derived.Lib.Bytealg
namespace Go.Proofs.YtanjebmpjenmiaaDoor
open Go.RowKit Word

/-- A sign's value; below 0: it is none. -/
def sv (c : UInt8) : Int := if 48 ≤ c.toNat ∧ c.toNat ≤ 57 then (c.toNat : Int) - 48 else if 97 ≤ c.toNat ∧ c.toNat ≤ 102 then (c.toNat : Int) - 87 else -1

theorem sv_index (c : UInt8) : Lib.indexByte signs c = sv c := by
  have h : ∀ n : Fin 256, Lib.indexByte signs (UInt8.ofNat n.val) = sv (UInt8.ofNat n.val) := by decide +kernel
  have := h ⟨c.toNat, c.toNat_lt⟩
  simpa using this

theorem sv_lt (c : UInt8) : sv c < 16 := by unfold sv; split <;> (try split) <;> omega
theorem sv_ge (c : UInt8) : -1 ≤ sv c := by unfold sv; split <;> (try split) <;> omega

def okAt (l : List UInt8) (i : Nat) : Bool := decide (0 ≤ sv (l.getD (2 * i) 0)) && decide (0 ≤ sv (l.getD (2 * i + 1) 0))
def good (l : List UInt8) : Bool := decide (l.length = 64) && (List.range 32).all (okAt l)
def valAt (l : List UInt8) (i : Nat) : Nat := 16 * (sv (l.getD (2 * i) 0)).toNat + (sv (l.getD (2 * i + 1) 0)).toNat
def vals (l : List UInt8) (n : Nat) : List Nat := (List.range n).map (valAt l)
def zeroes (n : Nat) : List Nat := List.replicate n 0

/-- What a text is as a sum, and the error's number. -/
def rdv (l : List UInt8) : List Nat := if good l then vals l 32 else zeroes 32
def rde (l : List UInt8) : Int := if good l then 0 else 3

theorem vals_length (l : List UInt8) (n : Nat) : (vals l n).length = n := by simp [vals]

theorem vals_at (l : List UInt8) (i : Nat) (h : i < 32) : (nums .u8 (vals l i ++ zeroes (32 - i)))[i]? = some (.int .u8 0) := by
  rw [nums_at _ _ (by simp [zeroes, vals_length]; omega), List.getElem_append_right (by rw [vals_length]; omega)]
  simp [zeroes]

theorem vals_set (l : List UInt8) (i : Nat) (h : i < 32) :
    (nums .u8 (vals l i ++ zeroes (32 - i))).set i (.int .u8 ((valAt l i : Nat) : Int)) = nums .u8 (vals l (i + 1) ++ zeroes (32 - (i + 1))) := by
  have z : zeroes (32 - i) = 0 :: zeroes (32 - (i + 1)) := by
    unfold zeroes
    rw [show 32 - i = (32 - (i + 1)) + 1 by omega, List.replicate_succ]
  have f : vals l (i + 1) = vals l i ++ [valAt l i] := by simp [vals, List.range_succ]
  rw [z, f]
  unfold nums
  rw [List.map_append, List.set_append_right _ _ (by simp [vals_length])]
  simp [vals_length]

theorem good_of (l : List UInt8) (h1 : l.length = 64) (h2 : ∀ i, i < 32 → okAt l i = true) : good l = true := by
  unfold good
  simp [h1]
  exact h2

theorem bad_at (l : List UInt8) (i : Nat) (hi : i < 32) (h : okAt l i = false) : good l = false := by
  unfold good
  rw [Bool.and_eq_false_iff]
  right
  rw [List.all_eq_false]
  exact ⟨i, by simpa using hi, by simp [h]⟩

theorem bad_len (l : List UInt8) (h : l.length ≠ 64) : good l = false := by simp [good, h]

theorem rdv_good {l : List UInt8} (h : good l = true) : rdv l = vals l 32 ∧ rde l = 0 := by simp [rdv, rde, h]
theorem rdv_bad {l : List UInt8} (h : good l = false) : rdv l = zeroes 32 ∧ rde l = 3 := by simp [rdv, rde, h]
theorem rdv_length (l : List UInt8) : (rdv l).length = 32 := by unfold rdv; split <;> simp [vals_length, zeroes]

theorem sv_dg (n : Nat) (h : n < 16) : sv (dg n) = n := by
  have h' : ∀ n : Fin 16, sv (dg n.val) = (n.val : Int) := by decide +kernel
  exact h' ⟨n, h⟩

theorem dg_sv (c : UInt8) (h : 0 ≤ sv c) : dg (sv c).toNat = c := by
  have h' : ∀ n : Fin 256, 0 ≤ sv (UInt8.ofNat n.val) → dg (sv (UInt8.ofNat n.val)).toNat = UInt8.ofNat n.val := by decide +kernel
  have := h' ⟨c.toNat, c.toNat_lt⟩
  simp at this
  exact this h

end Go.Proofs.YtanjebmpjenmiaaDoor
