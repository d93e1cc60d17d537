/- Fixed widths, put: contracts of wire.Fixed and the document's own. -/
import Derived.Test.YtalfmkgcelipdaaWireE
namespace Go.Proofs.Ytalfmkgcelipdaa
open Go.RowKit Wire

theorem fxw_no {n : Nat} {k : Int} (h : k < 1 ∨ 8 < k) : fxw n k = [] := by rw [fxw, if_pos h]
theorem fxw_yes {n w : Nat} (h1 : 1 ≤ w) (h8 : w ≤ 8) : fxw n (w : Int) = fx n w := by
  rw [fxw, if_neg (by omega)]; simp

/-- A byte of a number, by a shift. -/
def byt (n j : Nat) : UInt8 := UInt8.ofNat (n / 256 ^ j % 256)
theorem fx_succ (n w : Nat) : fx n (w + 1) = byt n w :: fx n w := rfl

theorem shr_byte (n j : Nat) : IntKind.u8.wrap ((n : Int) / 2 ^ (8 * j)) = (((byt n j).toNat : Nat) : Int) := by
  have h2 : (2 : Int) ^ (8 * j) = ((256 ^ j : Nat) : Int) := by rw [show (256 : Nat) = 2 ^ 8 from rfl, ← Nat.pow_mul]; simp
  have h3 : (n : Int) / ((256 ^ j : Nat) : Int) = ((n / 256 ^ j : Nat) : Int) := by simp
  rw [h2, h3]
  unfold byt
  rw [ofNat_toNat _ (by omega), IntKind.wrap_u8]
  omega

theorem fill_set (l : List UInt8) (d j : Nat) (hl : l.length = d) (hj : j < d) (c : UInt8) (hc : l[j]? = some c) :
    (bys (l.take j ++ List.replicate (d - j) 0)).set j (.int .u8 c.toNat) = bys (l.take (j + 1) ++ List.replicate (d - (j + 1)) 0) := by
  have h1 : d - j = (d - (j + 1)) + 1 := by omega
  have h2 : (l.take j).length = j := by rw [List.length_take]; omega
  have h3 : l.take (j + 1) = l.take j ++ [c] := by rw [List.take_add_one, hc]; rfl
  unfold bys
  rw [h1, List.replicate_succ, h3, ← List.map_set (f := fun c : UInt8 => Value.int .u8 c.toNat) (a := c), List.set_append_right _ _ (by omega), h2]
  simp
theorem fill_at (l : List UInt8) (d j : Nat) (hl : l.length = d) (hj : j < d) : (bys (l.take j ++ List.replicate (d - j) 0))[j]? = some (.int .u8 0) := by
  have h1 : d - j = (d - (j + 1)) + 1 := by omega
  have h2 : (l.take j).length = j := by rw [List.length_take]; omega
  unfold bys
  rw [List.getElem?_map, List.getElem?_append_right (by omega), h2, h1]
  simp [List.replicate_succ]

set_option maxRecDepth 100000 in
theorem fixed_any (n : Nat) (k : Int) (w : World) :
    Calls Try.prog 21 #[.int .u64 (n : Nat), .int .i64 k] w fun e w' => e = .returned (.string ⟨(fxw n k).toArray⟩) ∧ Below w.heap.size w w' := by
  by_cases h : 1 ≤ k ∧ k ≤ 8
  · obtain ⟨d, rfl⟩ : ∃ d : Nat, k = d := ⟨k.toNat, by omega⟩
    have W := wide_yes h.1 h.2
    have R := Lib.hid (fxw_yes (n := n) (w := d) (by omega) (by omega))
    have m1 : ∀ w : World, (Instr.makeSlice 39 (.int .i64 (d : Int)) (.int .i64 (d : Int))).run Try.prog w = .ok (.slice (some ⟨w.heap.size, 0, none⟩) d d) (w.alloc (.cells (bys (List.replicate d 0)).toArray 5)) := fun w => run_make_bys d d (by omega) (by omega) w
    have d1 : (1 : Int) ≤ (d : Int) := by omega
    have d8 : (d : Int) ≤ 8 := by omega
    clear h
    go_enter Try.func21, Try.ntmps21
    go_wp2_with (go_at_call 41; refine (isWidth_any _ _).mono ?_; rintro e w' ⟨rfl, rfl⟩)
    go_loopw [6, 14] (fun _ i wr => ∃ j : Nat, j ≤ d ∧ i = .int .i64 j ∧ Has wr w.heap.size 5 (bys ((fx n d).take j ++ List.replicate (d - j) 0)) ∧ Below w.heap.size w wr) (fun _ i _ => d - (intOf i).toNat)
    case atStart => exact ⟨0, by omega, rfl, by simpa using Has.make w 5 (bys (List.replicate d 0)), up_alloc (Below.refl _ _) _⟩
    case round =>
      clear m1
      obtain ⟨j, hj, rfl, hH, hb⟩ := hrel
      have HB := Lib.hid hb
      have HH := Lib.hid hH
      clear hb hH
      by_cases hlt : j < d
      · obtain ⟨i, hi⟩ : ∃ i, i = d - 1 - j := ⟨_, rfl⟩
        have e0 : (d : Int) - 1 - (j : Int) = (i : Int) := by omega
        have i7 : (i : Int) ≤ 7 := by omega
        have i0 : (0 : Int) ≤ (i : Int) := by omega
        have j0 : (0 : Int) ≤ (j : Int) := by omega
        have j1 : (j : Int) < (d : Int) := by omega
        have sb := shr_byte n i
        have ha : (fx n d)[j]? = some (byt n i) := by rw [fx_at n d j hlt, hi]; rfl
        have HF := Lib.hid (fill_set (fx n d) d j (fx_length n d) hlt (byt n i) ha)
        have x1 := HH.out.free j
        have x2 := HH.out.at (fill_at (fx n d) d j (fx_length n d) hlt)
        clear hi ha
        generalize byt n i = c at *
        go_wp2_with fail
        go_roundw
        case rel => exact ⟨j + 1, by omega, by go_num, by rw [← HF.out]; exact HH.out.set j _, HB.out.setCell (p := ⟨w.heap.size, j, none⟩) (by simp) _⟩
        case measure => simp [intOf]; omega
      · obtain rfl : j = d := by omega
        have HO : OwnB w.heap.size (.slice (some ⟨w.heap.size, 0, none⟩) j j) (fx n j) wr := by
          have := OwnB.of_block (l := fx n j) (r := []) (n := j) (Nat.le_refl _) (by have := HH.out; rw [List.take_of_length_le (by rw [fx_length]; omega)] at this; simpa using this) (by simp [fx_length]) (by omega)
          rwa [fx_length] at this
        have ht := HO.text
        clear HO
        go_wp2_with fail
        go_ret
        exact ⟨by rw [R.out]; rfl, HB.out⟩
  · have W := wide_no (k := k) (by omega)
    have R := Lib.hid (fxw_no (n := n) (k := k) (by omega))
    clear h
    go_enter Try.func21, Try.ntmps21
    go_wp2_with (go_at_call 41; refine (isWidth_any _ _).mono ?_; rintro e w' ⟨rfl, rfl⟩)
    go_ret
    exact ⟨by rw [R.out]; rfl, Below.refl _ _⟩
end Go.Proofs.Ytalfmkgcelipdaa
