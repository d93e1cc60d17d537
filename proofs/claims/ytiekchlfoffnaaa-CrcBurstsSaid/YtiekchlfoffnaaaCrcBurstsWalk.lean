/- The walk of the law CrcBursts: texts of one length that differ within four bytes, one behind the other, have sums that differ. -/
import Derived.Test.YtiekchlfoffnaaaCrcSummed
namespace Go.Proofs.Ytiekchlfoffnaaa
open Go.RowKit Crc

/-- A number's four bytes, the highest first. -/
def fourOf (n : Nat) : List UInt8 := [UInt8.ofNat (n / 16777216), UInt8.ofNat (n / 65536), UInt8.ofNat (n / 256), UInt8.ofNat n]

theorem fourOf_inj {a b : Nat} (ha : a < 4294967296) (hb : b < 4294967296) (h0 : UInt8.ofNat (a / 16777216) = UInt8.ofNat (b / 16777216)) (h1 : UInt8.ofNat (a / 65536) = UInt8.ofNat (b / 65536))
    (h2 : UInt8.ofNat (a / 256) = UInt8.ofNat (b / 256)) (h3 : UInt8.ofNat a = UInt8.ofNat b) : a = b := by
  have e0 := congrArg UInt8.toNat h0
  have e1 := congrArg UInt8.toNat h1
  have e2 := congrArg UInt8.toNat h2
  have e3 := congrArg UInt8.toNat h3
  simp only [UInt8.toNat_ofNat'] at e0 e1 e2 e3
  omega

theorem bursts (x y : List UInt8) {a b : Nat} (ha : a < 4294967296) (hb : b < 4294967296) (h : sumOf (x ++ fourOf a ++ y) = sumOf (x ++ fourOf b ++ y)) : a = b := by
  unfold sumOf at h
  have h1 := xor_right_inj h
  rw [adds_append, adds_append, adds_append, adds_append] at h1
  have hx := adds_lt x (s := 4294967295) (by omega)
  have h2 := adds_inj y (adds_lt _ hx) (adds_lt _ hx) h1
  obtain ⟨e0, e1, e2, e3⟩ := adds_four_inj _ hx _ _ _ _ _ _ _ _ h2
  exact fourOf_inj ha hb e0 e1 e2 e3

theorem four_any (n : Nat) (hn : n < 4294967296) (w : World) :
    Calls Try.prog 15 #[.int .u32 n] w fun e w' => e = .returned (.string ⟨(fourOf n).toArray⟩) ∧ Below w.heap.size w w' := by
  have hcv := run_convert_bytes_back (P := Try.prog) (w.alloc (.cells #[.int .u8 ((n : Int) / 16777216), .int .u8 ((n : Int) / 65536 % 256), .int .u8 ((n : Int) / 256 % 256), .int .u8 ((n : Int) % 256)] 5)) 32 9 5 ⟨w.heap.size, 0, none⟩ 4 (fourOf n) Try.underlying32 Try.underlying5 Try.underlying9
    (by
      intro j hj
      have hj4 : j < 4 := hj
      rw [Addr.add_lit, Nat.zero_add, World.cell?_alloc_at _ _ _ _ rfl]
      match j, hj4 with
      | 0, _ => simp [fourOf]; omega
      | 1, _ => simp [fourOf]
      | 2, _ => simp [fourOf]
      | 3, _ => simp [fourOf])
  have hL : (fourOf n).length = 4 := rfl
  rw [hL] at hcv
  have hF := Lib.hid (show fourOf n = fourOf n from rfl)
  generalize hq : ByteArray.mk (fourOf n).toArray = q at *
  clear hq hL hF
  go_enter Try.func15, Try.ntmps15
  go_wp2_with fail
  go_ret
  exact ⟨rfl, up_alloc (Below.refl _ _) _⟩

theorem CrcBursts_walk (a0 : ByteArray) (a1 : Int) (a2 : Int) (a3 : ByteArray) (z0 : a0.size ≤ 140737488351232) (w1 : (Lit.int .u32 a1).wf = true) (w2 : (Lit.int .u32 a2).wf = true) (z3 : a3.size ≤ 140737488351232) (w : World) :
    Calls Try.prog 5 #[.string a0, .int .u32 a1, .int .u32 a2, .string a3] w fun e w' => e = .returned (.bool true) ∧ Below w.heap.size w w' := by
  obtain ⟨a, rfl, ha⟩ := wf_u32 w1
  obtain ⟨b, rfl, hb⟩ := wf_u32 w2
  by_cases h1 : 3000 < a0.size
  · have h1' : (3000 : Int) < (a0.size : Int) := by omega
    go_enter Try.func5, Try.ntmps5
    go_wp2_with fail
    go_ret
    exact ⟨rfl, Below.refl _ _⟩
  · by_cases h3 : 3000 < a3.size
    · have h1' : (a0.size : Int) ≤ 3000 := by omega
      have h3' : (3000 : Int) < (a3.size : Int) := by omega
      go_enter Try.func5, Try.ntmps5
      go_wp2_with fail
      go_ret
      exact ⟨rfl, Below.refl _ _⟩
    · have h1' : (a0.size : Int) ≤ 3000 := by omega
      have h3' : (a3.size : Int) ≤ 3000 := by omega
      have hb4 : ∀ n, (ByteArray.mk (fourOf n).toArray).size = 4 := fun _ => rfl
      have hsum : sumOf (a0 ++ ByteArray.mk (fourOf a).toArray ++ a3).data.toList = sumOf (a0 ++ ByteArray.mk (fourOf b).toArray ++ a3).data.toList → a = b := by
        intro h
        simp only [ByteArray.data_append, Array.toList_append] at h
        exact bursts _ _ ha hb h
      have hq : ∃ p q : ByteArray, p = ByteArray.mk (fourOf a).toArray ∧ q = ByteArray.mk (fourOf b).toArray := ⟨_, _, rfl, rfl⟩
      obtain ⟨p, q, hp, hq⟩ := hq
      have sp : p.size = 4 := by rw [hp]; rfl
      have sq : q.size = 4 := by rw [hq]; rfl
      have fa := fun w => four_any a ha w
      have fb := fun w => four_any b hb w
      rw [← hp] at fa hsum
      rw [← hq] at fb hsum
      have hx : (a0 ++ p ++ a3).size ≤ maxLen := by rw [ByteArray.size_append, ByteArray.size_append]; unfold maxLen; omega
      have hy : (a0 ++ q ++ a3).size ≤ maxLen := by rw [ByteArray.size_append, ByteArray.size_append]; unfold maxLen; omega
      have hB : ((((sumOf (a0 ++ p ++ a3).data.toList : Nat) : Int) == ((sumOf (a0 ++ q ++ a3).data.toList : Nat) : Int)) == ((a : Int) == (b : Int))) = true := by
        by_cases hab : a = b
        · subst hab
          have : p = q := by rw [hp, hq]
          rw [this]; simp
        · have h1 : ((a : Int) == (b : Int)) = false := by rw [beq_eq_false_iff_ne]; omega
          have h2 : (((sumOf (a0 ++ p ++ a3).data.toList : Nat) : Int) == ((sumOf (a0 ++ q ++ a3).data.toList : Nat) : Int)) = false := by
            rw [beq_eq_false_iff_ne]; intro h; exact hab (hsum (by omega))
          rw [h1, h2]; rfl
      have l0 : p.size ≤ 4 := by omega
      have l1 : q.size ≤ 4 := by omega
      clear hp hq hsum sp sq hb4
      have HB := Lib.hid hB
      clear hB
      go_enter Try.func5, Try.ntmps5
      go_wp2_with fail
      refine (fa _).mono ?_; rintro e w1 ⟨rfl, hg1⟩
      go_wp2_with fail
      refine (fb _).mono ?_; rintro e w2 ⟨rfl, hg2⟩
      go_wp2_with fail
      refine (summed_any _).mono ?_; rintro e w3 ⟨rfl, hg3⟩
      go_wp2_with fail
      refine (of_any _ hx _).mono ?_; rintro e w' ⟨rfl, rfl⟩
      go_wp2_with fail
      refine (of_any _ hy _).mono ?_; rintro e w' ⟨rfl, rfl⟩
      go_wp2_with fail
      go_ret
      have hB := HB.out
      simp only [ByteArray.data_append, Array.toList_append, List.append_assoc] at hB
      exact ⟨congrArg (fun b => Ending.returned (Value.bool b)) hB, by repeat (first | exact up_trans (up_trans hg1 hg2) hg3 | refine up_alloc ?_ _)⟩

end Go.Proofs.Ytiekchlfoffnaaa
