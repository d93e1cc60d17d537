/- States: contracts of digest.Start, padding, Add, End, Of, Two. -/
import Derived.Test.YtanjebmpjenmiaaDoorShaD
import Derived.Test.YtanjebmpjenmiaaDoorShaE
import Derived.Test.YtanjebmpjenmiaaDoorShelf
namespace Go.Proofs.YtanjebmpjenmiaaDoor
open Go.RowKit Word

attribute [local go_sem ↓] shl_nat shr_nat shl_lit shr_lit
attribute [local go_sem] wrap_add bits_xor bits_and bits_or wrap_less bits_not wrap_byte wrap_bt

/-- A state: its words, its number of bytes, and those that fill no block. -/
structure St where
  v : W8
  n : Nat
  rest : ByteArray

def St.cells (s : St) : List Value := s.v.cells ++ [.int .u64 (s.n : Nat), .string s.rest]

def W8.start : W8 := ⟨0x6a09e667, 0xbb67ae85, 0x3c6ef372, 0xa54ff53a, 0x510e527f, 0x9b05688c, 0x1f83d9ab, 0x5be0cd19⟩
def St.start : St := ⟨W8.start, 0, ⟨#[]⟩⟩

theorem St.cell8 (s : St) : s.cells[8]? = some (.int .u64 (s.n : Nat)) := rfl
theorem St.cell9 (s : St) : s.cells[9]? = some (.string s.rest) := rfl

set_option maxRecDepth 100000 in
theorem dstart_any (w : World) : Calls Tryd.prog 20 #[] w fun e w' => e = .returned (.agg St.start.cells.toArray) ∧ Below w.heap.size w w' := by
  go_enter Tryd.func20, Tryd.ntmps20
  go_wp2_with fail
  exact bodyPost_ret (v := .agg St.start.cells.toArray) (by simp [results, Tryd.results20, go_sem]; rfl) rfl ⟨rfl, up_alloc (Below.refl _ _) _⟩

/-- The words behind the first j blocks of a text. -/
def hs (v : W8) (l : List UInt8) : Nat → W8
  | 0 => v
  | j + 1 => comp (hs v l j) ((l.drop (64 * j)).take 64)

/-- A state, with a text added. -/
def St.add (s : St) (b : ByteArray) : St :=
  ⟨hs s.v (s.rest ++ b).data.toList ((s.rest ++ b).size / 64), (s.n + b.size) % 18446744073709551616, (s.rest ++ b).extract (64 * ((s.rest ++ b).size / 64)) (s.rest ++ b).size⟩

theorem ext_data (t : ByteArray) (a b : Nat) : (t.extract a b).data.toList = (t.data.toList.drop a).take (b - a) := by
  simp [List.take_drop]

theorem ext_again (t : ByteArray) (a : Nat) (h : a + 64 ≤ t.size) : (t.extract a t.size).extract 64 (t.size - a) = t.extract (a + 64) t.size := by
  apply ByteArray.ext
  simp only [ByteArray.data_extract, Array.extract_extract]
  congr 1
  omega

theorem ext_whole (t : ByteArray) : t.extract 0 t.size = t := by
  apply ByteArray.ext
  simp

theorem dclone_any (t : ByteArray) (ht : t.size ≤ 1000000) (w : World) : Calls Tryd.prog 25 #[.string t] w fun e w' => e = .returned (.string t) ∧ Below w.heap.size w w' := by
  go_enter Tryd.func25, Tryd.ntmps25
  go_wp2_with fail
  refine (Tryd.stringslite_Clone t _ (by omega)).mono ?_; rintro e w' ⟨rfl, hb⟩
  go_wp2_with fail
  go_ret
  exact ⟨rfl, hb⟩

set_option maxHeartbeats 800000 in
set_option maxRecDepth 100000 in
theorem dadd_any (s : St) (b : ByteArray) (w : World) (hT : Tab w) (hsz : s.rest.size + b.size ≤ 1000000) : Calls Tryd.prog 17 #[.agg s.cells.toArray, .string b] w fun e w' => e = .returned (.agg (s.add b).cells.toArray) ∧ Below w.heap.size w w' := by
  have HT := Lib.hid hT
  clear hT
  have h8 := s.cell8
  have h9 := s.cell9
  have e64 : IntKind.u64.wrap ((s.n : Int) + (b.size : Int)) = (((s.n + b.size) % 18446744073709551616 : Nat) : Int) := by rw [IntKind.wrap_u64]; omega
  have hb1 : b.size ≤ 1000000 := by omega
  have hr2 : s.rest.size ≤ 1000000 := by omega
  have HE := Lib.hid (show s.cells.set 8 (.int .u64 (((s.n + b.size) % 18446744073709551616 : Nat) : Int)) = (St.mk s.v ((s.n + b.size) % 18446744073709551616) s.rest).cells from rfl)
  have HAdd := Lib.hid (show s.add b = ⟨hs s.v (s.rest ++ b).data.toList ((s.rest ++ b).size / 64), (s.n + b.size) % 18446744073709551616, (s.rest ++ b).extract (64 * ((s.rest ++ b).size / 64)) (s.rest ++ b).size⟩ from rfl)
  have hts : (s.rest ++ b).size ≤ 1000000 := by rw [ByteArray.size_append]; omega
  generalize (s.n + b.size) % 18446744073709551616 = n at *
  go_enter Tryd.func17, Tryd.ntmps17
  go_upto_region 2 with (fail)
  rw [HE.out]
  replace h8 := St.cell8 ⟨s.v, n, s.rest⟩
  replace h9 := St.cell9 ⟨s.v, n, s.rest⟩
  go_wp2_with fail
  generalize s.rest ++ b = t at *
  have z0 : t.extract (64 * 0) t.size = t := ext_whole t
  go_loopw [5] (fun x wr => ∃ j : Nat, 64 * j ≤ t.size ∧ x = .string (t.extract (64 * j) t.size) ∧ Has wr w.heap.size 26 (St.mk (hs s.v t.data.toList j) n s.rest).cells ∧ Has wr (w.heap.size + 1) 26 (St.mk ⟨0, 0, 0, 0, 0, 0, 0, 0⟩ 0 ⟨#[]⟩).cells ∧ Below w.heap.size w wr) (fun x _ => match x with | .string s => s.size | _ => 0)
  case atStart => exact ⟨0, by omega, by rw [z0], (Has.make w _ _).alloc _, Has.make2 w _ _ (St.mk ⟨0, 0, 0, 0, 0, 0, 0, 0⟩ 0 ⟨#[]⟩).cells, up_alloc (up_alloc (Below.refl _ _) _) _⟩
  case round =>
    obtain ⟨j, hj, rfl, hA, hR, hb⟩ := hrel
    have zj : (t.extract (64 * j) t.size).size = t.size - 64 * j := by rw [ByteArray.size_extract]; omega
    have d1 : ((t.extract (64 * j) t.size).extract 0 64).data.toList = (t.data.toList.drop (64 * j)).take 64 := by
      rw [ext_data, ext_data, Nat.sub_zero, List.drop_zero, List.take_take]
      by_cases h : 64 ≤ t.size - 64 * j
      · rw [Nat.min_eq_left h]
      · rw [Nat.min_eq_right (by omega), List.take_of_length_le (by simp), List.take_of_length_le (by simp; omega)]
    by_cases hlt : 64 ≤ t.size - 64 * j
    · have e1 := ext_again t (64 * j) (by omega)
      have hz1 : 64 ≤ (t.extract (64 * j) t.size).size := by omega
      have hz2 : (t.extract (64 * j) t.size).size ≤ 1000000 := by omega
      rw [← zj] at e1
      have HN := Lib.hid (show hs s.v t.data.toList (j + 1) = comp (hs s.v t.data.toList j) ((t.data.toList.drop (64 * j)).take 64) from rfl)
      have HE1 := Lib.hid e1
      have HD1 := Lib.hid d1
      have HZJ := Lib.hid zj
      clear e1 d1 zj
      generalize t.extract (64 * j) t.size = T at *
      generalize hs s.v t.data.toList j = v at *
      have HA := Lib.hid hA
      have HR := Lib.hid hR
      have HB := Lib.hid hb
      clear hA hR hb
      have c0 : wr.cell? ⟨w.heap.size, 0, none⟩ = some (.int .u32 (v.a : Nat)) := HA.out.at rfl
      have c1 : wr.cell? ⟨w.heap.size, 1, none⟩ = some (.int .u32 (v.b : Nat)) := HA.out.at rfl
      have c2 : wr.cell? ⟨w.heap.size, 2, none⟩ = some (.int .u32 (v.c : Nat)) := HA.out.at rfl
      have c3 : wr.cell? ⟨w.heap.size, 3, none⟩ = some (.int .u32 (v.d : Nat)) := HA.out.at rfl
      have c4 : wr.cell? ⟨w.heap.size, 4, none⟩ = some (.int .u32 (v.e : Nat)) := HA.out.at rfl
      have c5 : wr.cell? ⟨w.heap.size, 5, none⟩ = some (.int .u32 (v.f : Nat)) := HA.out.at rfl
      have c6 : wr.cell? ⟨w.heap.size, 6, none⟩ = some (.int .u32 (v.g : Nat)) := HA.out.at rfl
      have c7 : wr.cell? ⟨w.heap.size, 7, none⟩ = some (.int .u32 (v.h : Nat)) := HA.out.at rfl
      have hT2 : Tab wr.drew := fun i hi => (HB.out.cell (p := ⟨0, i, none⟩) (block_lt_of_cell (HT.out i hi))).trans (HT.out i hi)
      have HT2 := Lib.hid hT2
      clear hT2
      have h63 : (T.extract 0 64).size = 64 := by rw [ByteArray.size_extract]; omega
      have H63 := Lib.hid h63
      clear h63
      go_wp2_with fail
      go_still_tail 4, (by kernel_rfl)
      change wpList _ _ _ _ _ wr.drew
      go_wp2_with fail
      refine (changed_any v (T.extract 0 64) H63.out _ HT2.out).mono ?_; rintro e w4 ⟨rfl, hb4⟩
      rw [HD1.out, ← HN.out]
      have HA4 := Lib.hid (HA.out.drew.up hb4)
      have HR4 := Lib.hid (HR.out.drew.up hb4)
      have HB4 := Lib.hid (HB.out.drew.trans (hb4.mono HB.out.size))
      clear hb4 c0 c1 c2 c3 c4 c5 c6 c7
      generalize hU : hs s.v t.data.toList (j + 1) = u at *
      have HU := Lib.hid hU
      clear hU
      have hi : (Tryd.prog.info? 23).map (·.size) = some 8 := by kernel_rfl
      go_wp2_with (refine wpList_store_part rfl 23 _ _ rfl w.heap.size 0 26 (St.mk v n s.rest).cells u.cells (by rfl) (by rfl) HA4.out (by simp [St.cells, W8.cells, nums]) (by rw [hi]; rfl) (nums_one _ _) ?_; intro w5 hA5 hO5)
      go_roundw
      case rel =>
        refine ⟨j + 1, by omega, ?_, ?_, hO5.keep (by omega) HR4.out, hO5.below (Nat.le_refl _) HB4.out⟩
        · rw [HE1.out]; rfl
        · rw [HU.out]; exact hA5
      case measure =>
        show (T.extract 64 T.size).size < T.size
        rw [ByteArray.size_extract]; omega
    · have HD1 := Lib.hid d1
      have HZJ := Lib.hid zj
      have hz1 : (t.extract (64 * j) t.size).size < 64 := by omega
      clear d1 zj
      have HQ := Lib.hid (show j = t.size / 64 by omega)
      have HT := Lib.hid (show s.add b = ⟨hs s.v t.data.toList j, n, t.extract (64 * j) t.size⟩ by rw [HAdd.out, ← HQ.out])
      generalize t.extract (64 * j) t.size = T at *
      have HA := Lib.hid hA
      have HR := Lib.hid hR
      have HB := Lib.hid hb
      clear hA hR hb
      go_wp2_with fail
      refine (dclone_any T (by omega) _).mono ?_; rintro e w4 ⟨rfl, hb4⟩
      have HA4 := Lib.hid (HA.out.up hb4)
      have HR4 := Lib.hid (HR.out.up hb4)
      have HB4 := Lib.hid (HB.out.trans (hb4.mono HB.out.size))
      have h9' := HA4.out.at (i := 9) rfl
      have f9 := HA4.out.free 9
      have HC := Lib.hid (HA4.out.set 9 (.string T))
      have HD := Lib.hid (HR4.out.other (p := ⟨w.heap.size, 9, none⟩) (by simp) (.string T))
      have HF := Lib.hid (HB4.out.setCell (p := ⟨w.heap.size, 9, none⟩) (by simp) (.string T))
      clear hb4 h8 h9
      have hi : (Tryd.prog.info? 26).map (·.size) = some 10 := by kernel_rfl
      have hu := Tryd.underlying26
      go_wp2_with (first
        | (refine wpList_load_row rfl 26 _ rfl w.heap.size (by rfl) _ _ _ _ HC.out hu rfl (by rw [hi]; rfl) ?_)
        | (refine wpList_store_whole rfl 26 _ _ rfl (w.heap.size + 1) 26 _ _ (by rfl) (by rfl) HD.out (by rfl) (by rw [hi]; rfl) (by intro x hx; simp [St.cells, W8.cells, nums] at hx; rcases hx with h | h | h | h | h | h | h | h | h | h <;> (rw [h]; rfl)) ?_; intro w5 hF5 hO5))
      refine bodyPost_ret_by (results_cell_row Tryd.results17 _ _ _ _ _ _ _ (by rfl) hF5 hu rfl (by rw [hi]; rfl)) rfl ⟨?_, hO5.below (by omega) HF.out⟩
      rw [HT.out]
      rfl

end Go.Proofs.YtanjebmpjenmiaaDoor
