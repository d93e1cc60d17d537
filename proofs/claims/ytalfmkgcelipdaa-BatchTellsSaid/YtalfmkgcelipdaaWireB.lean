/- A number's bytes: contracts of wire.Put and the document's own. -/
import Derived.Test.YtalfmkgcelipdaaWireK
import Derived.Test.YtalfmkgcelipdaaBytes
namespace Go.Proofs.Ytalfmkgcelipdaa
open Go.RowKit Wire

/-- Where a row of bytes stands in the midst of a number's: what is there, and what is still to come. -/
structure Half (n m : Nat) (acc : List UInt8) : Prop where
  lt : m < 18446744073709551616
  all : acc ++ putL m = putL n
  len : acc.length ≤ 9

theorem Half.start {n : Nat} (h : n < 18446744073709551616) : Half n n [] := ⟨h, rfl, by simp⟩
theorem Half.next {n m : Nat} {acc : List UInt8} (h : Half n m acc) (hn : n < 18446744073709551616) (hm : 128 ≤ m) : Half n (m / 128) (acc ++ [UInt8.ofNat (m % 128 + 128)]) := by
  have e : acc ++ [UInt8.ofNat (m % 128 + 128)] ++ putL (m / 128) = putL n := by rw [← h.all, putL_ge hm]; simp
  refine ⟨by have := h.lt; omega, e, ?_⟩
  have h1 := putL_ten hn
  rw [← e, List.length_append] at h1
  have := putL_pos (m / 128)
  omega
theorem Half.done {n m : Nat} {acc : List UInt8} (h : Half n m acc) (hm : m < 128) : acc ++ [UInt8.ofNat m] = putL n := by rw [← h.all, putL_lt hm]

theorem u8_or128 (a : Nat) (h : a < 256) : bits .or .u8 (a : Int) 128 = (((UInt8.ofNat (a % 128 + 128)).toNat : Nat) : Int) := by
  have := u8_or_nat a 128 h (by omega)
  rw [show (128 : Int) = ((128 : Nat) : Int) from rfl, this, ofNat_toNat _ (by omega)]
  have h256 : ∀ x : Fin 256, (x.val ||| 128) = x.val % 128 + 128 := by decide +kernel
  have := h256 ⟨a, h⟩
  simp only at this
  rw [this]

set_option maxRecDepth 100000 in
theorem put_any (n : Nat) (hn : n < 18446744073709551616) (w : World) :
    Calls Try.prog 37 #[.int .u64 (n : Nat)] w fun e w' => e = .returned (.string ⟨(putL n).toArray⟩) ∧ Below w.heap.size w w' := by
  have m1 : ∀ w : World, (Instr.makeSlice 39 (.int .i64 0) (.int .i64 10)).run Try.prog w = .ok (.slice (some ⟨w.heap.size, 0, none⟩) 0 10) (w.alloc (.cells (bys (List.replicate 10 0)).toArray 5)) := fun w => run_make_bys 0 10 (by omega) (by omega) w
  have HN := Lib.hid hn
  have hS := Lib.hid (Half.start hn)
  clear hn
  go_enter Try.func37, Try.ntmps37
  go_wp2_with fail
  have o0 : OwnB w.heap.size (.slice (some ⟨w.heap.size, 0, none⟩) 0 10) [] (w.alloc (Obj.cells (bys (List.replicate 10 0)).toArray 5)) :=
    OwnB.of_block (l := []) (Nat.le_refl _) (Has.make w 5 (bys (List.replicate 10 0))) (by simp) (by omega)
  have HO := Lib.hid o0
  clear o0 m1
  go_loopw [0, 3] (fun x v wr => ∃ (m : Nat) (acc : List UInt8), x = .int .u64 (m : Nat) ∧ Hid (Half n m acc) ∧ OwnB w.heap.size v acc wr ∧ w.heap.size < wr.heap.size ∧ Below w.heap.size w wr) (fun x _ _ => (intOf x).toNat)
  case atStart => exact ⟨n, [], rfl, hS, HO.out, by simp, up_alloc (Below.refl _ _) _⟩
  case round =>
    clear HO hS
    obtain ⟨m, acc, rfl, hH, hO, hs, hb⟩ := hrel
    have hl := hH.out.len
    have hm1 := hH.out.lt
    have HO := Lib.hid hO
    have HB := Lib.hid hb
    have HL := Lib.hid hl
    have HM := Lib.hid hm1
    clear hO hb hl
    by_cases h : m < 128
    · have hD := Lib.hid (hH.out.done h)
      have h' : (m : Int) < 128 := by omega
      have e3 : (m : Int) = (((UInt8.ofNat m).toNat : Nat) : Int) := by rw [ofNat_toNat _ (by omega)]
      have E3 := Lib.hid e3
      clear e3
      go_wp2_with (refine wpList_push rfl (.tmp 15) (.tmp 18) rfl w.heap.size _ acc (by rfl) (HO.out.alloc _) wr.heap.size 1 [UInt8.ofNat m] (by rfl) (by simp only [bys, List.map, ← E3.out]; exact Has.make wr 5 _) rfl (by omega) (by have := HL.out; omega) (by simp; omega) ?_; intro v' w' hO' hB'; have ht := hO'.text)
      go_ret
      exact ⟨by rw [← hD.out]; rfl, (up_alloc HB.out _).trans (hB'.mono (by simp <;> omega))⟩
    · have hD := Lib.hid (hH.out.next HN.out (by omega))
      have h' : (128 : Int) ≤ (m : Int) := by omega
      have e2 := u8_or128 (m % 256) (by omega)
      rw [show m % 256 % 128 = m % 128 by omega, show ((m % 256 : Nat) : Int) = (m : Int) % 256 by omega] at e2
      generalize UInt8.ofNat (m % 128 + 128) = c at *
      go_wp2_with (refine wpList_push rfl (.tmp 9) (.tmp 13) rfl w.heap.size _ acc (by rfl) (HO.out.alloc _) wr.heap.size 1 [c] (by rfl) (Has.make wr 5 (bys [c])) rfl (by omega) (by have := HL.out; omega) (by simp; omega) ?_; intro v' w' hO' hB')
      have hsz := hB'.size
      simp at hsz
      go_roundw
      case rel => exact ⟨m / 128, acc ++ [c], by go_num, hD, hO', by omega, (up_alloc HB.out _).trans (hB'.mono (by simp <;> omega))⟩
      case measure => simp [intOf]; omega

end Go.Proofs.Ytalfmkgcelipdaa
