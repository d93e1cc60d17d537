/- Fixed widths: contracts of wire.isWidth, wire.cut, wire.Fixed, wire.TakeFixed and the document's own. -/
import Derived.Test.YtalfmkgcelipdaaWireB
import Derived.Test.YtalfmkgcelipdaaMem
import Derived.Deep.QuietTactic
import Derived.BigQuiet
import Derived.Lib.IndexBytes
namespace Go.Proofs.Ytalfmkgcelipdaa
open Go.RowKit Wire

/-- Is it a width? -/
def wide (k : Int) : Bool := decide (1 ≤ k ∧ k ≤ 8)
theorem wide_yes {k : Int} (h1 : 1 ≤ k) (h8 : k ≤ 8) : wide k = true := by simp [wide, h1, h8]
theorem wide_no {k : Int} (h : k < 1 ∨ 8 < k) : wide k = false := by simp [wide]; omega

theorem isWidth_any (k : Int) (w : World) : Calls Try.prog 41 #[.int .i64 k] w fun e w' => e = .returned (.bool (wide k)) ∧ w = w' := by
  by_cases h1 : 1 ≤ k
  · by_cases h8 : k ≤ 8
    · have H := Lib.hid (wide_yes h1 h8)
      go_enter Try.func41, Try.ntmps41
      go_wp2
      go_ret
      exact ⟨by rw [H.out]; rfl, rfl⟩
    · have H := Lib.hid (wide_no (k := k) (by omega))
      have d : decide (k ≤ 8) = false := by simpa using h8
      go_enter Try.func41, Try.ntmps41
      go_wp2
      go_ret
      exact ⟨by rw [H.out]; rfl, rfl⟩
  · have H := Lib.hid (wide_no (k := k) (by omega))
    have d : decide (1 ≤ k) = false := by simpa using h1
    go_enter Try.func41, Try.ntmps41
    go_wp2
    go_ret
    exact ⟨by rw [H.out]; rfl, rfl⟩

theorem cut_short {l : List UInt8} {n : Nat} (h : l.length < n) : cutL l n = ([], [], 4) := by rw [cutL, if_pos h]
theorem cut_long {l : List UInt8} {n : Nat} (h : n ≤ l.length) : cutL l n = (l.take n, l.drop n, 0) := by rw [cutL, if_neg (by omega)]

theorem back_of (s : ByteArray) (k : Nat) : s.extract k s.size = ⟨(s.data.toList.drop k).toArray⟩ := by
  apply ByteArray.ext
  apply Array.toList_inj.1
  rw [Lib.extract_to_end]
theorem head_of (s : ByteArray) (k : Nat) : s.extract 0 k = ⟨(s.data.toList.take k).toArray⟩ := by
  apply ByteArray.ext
  apply Array.toList_inj.1
  rw [Lib.extract_data]; simp

theorem cuti_any (s : ByteArray) (hs : s.size ≤ maxLen) (n : Nat) (hn : n < 9223372036854775808) (w : World) :
    Calls Try.prog 47 #[.string s, .int .i64 (n : Nat)] w fun e w' => e = .returned (.tuple #[.string ⟨(cutL s.data.toList n).1.toArray⟩, .string ⟨(cutL s.data.toList n).2.1.toArray⟩, .int .i64 ((cutL s.data.toList n).2.2 : Nat)]) ∧ Below w.heap.size w w' := by
  unfold maxLen at hs
  have hn0 : (0 : Int) ≤ (n : Int) := by omega
  by_cases h : s.size < n
  · have R := Lib.hid (cut_short (l := s.data.toList) (n := n) (by simpa using h))
    have h' : (s.size : Int) < (n : Int) := by omega
    go_enter Try.func47, Try.ntmps47
    go_wp2_with fail
    go_ret3
    exact ⟨by rw [R.out]; rfl, Below.refl _ _⟩
  · have R := Lib.hid (cut_long (l := s.data.toList) (n := n) (by simp; omega))
    have h' : (n : Int) ≤ (s.size : Int) := by omega
    have E : Hid (Ending.returned (.tuple #[.string (s.extract 0 n), .string (s.extract n s.size), .int .i64 0]) = .returned (.tuple #[.string ⟨(cutL s.data.toList n).1.toArray⟩, .string ⟨(cutL s.data.toList n).2.1.toArray⟩, .int .i64 ((cutL s.data.toList n).2.2 : Nat)])) := Lib.hid (by
      rw [R.out, back_of, head_of]; rfl)
    clear R
    go_enter Try.func47, Try.ntmps47
    go_wp2_with fail
    go_quiet (fail)
    go_wp2_with fail
    go_ret3
    exact ⟨E.out, below_drewN (Below.refl _ _) _⟩

theorem cutu_any (s : ByteArray) (hs : s.size ≤ maxLen) (n : Nat) (hn : n < 18446744073709551616) (w : World) :
    Calls Try.prog 58 #[.string s, .int .u64 (n : Nat)] w fun e w' => e = .returned (.tuple #[.string ⟨(cutL s.data.toList n).1.toArray⟩, .string ⟨(cutL s.data.toList n).2.1.toArray⟩, .int .i64 ((cutL s.data.toList n).2.2 : Nat)]) ∧ Below w.heap.size w w' := by
  unfold maxLen at hs
  have hn0 : (0 : Int) ≤ (n : Int) := by omega
  by_cases h : s.size < n
  · have R := Lib.hid (cut_short (l := s.data.toList) (n := n) (by simpa using h))
    have h' : (s.size : Int) < (n : Int) := by omega
    go_enter Try.func58, Try.ntmps58
    go_wp2_with fail
    go_ret3
    exact ⟨by rw [R.out]; rfl, Below.refl _ _⟩
  · have R := Lib.hid (cut_long (l := s.data.toList) (n := n) (by simp; omega))
    have h' : (n : Int) ≤ (s.size : Int) := by omega
    have E : Hid (Ending.returned (.tuple #[.string (s.extract 0 n), .string (s.extract n s.size), .int .i64 0]) = .returned (.tuple #[.string ⟨(cutL s.data.toList n).1.toArray⟩, .string ⟨(cutL s.data.toList n).2.1.toArray⟩, .int .i64 ((cutL s.data.toList n).2.2 : Nat)])) := Lib.hid (by
      rw [R.out, back_of, head_of]; rfl)
    clear R
    go_enter Try.func58, Try.ntmps58
    go_wp2_with fail
    go_quiet (fail)
    go_wp2_with fail
    go_ret3
    exact ⟨E.out, below_drewN (Below.refl _ _) _⟩
end Go.Proofs.Ytalfmkgcelipdaa
