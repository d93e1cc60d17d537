/- The other side's sum of a text; what is added in two pieces is added in one. -/
import Derived.Test.YtanjebmpjenmiaaDoorRefF
namespace Go.Proofs.YtanjebmpjenmiaaDoor
open Go.RowKit Word

theorem hs_more (v : W8) (l : List UInt8) (i j : Nat) : hs v l (i + j) = hs (hs v l i) (l.drop (64 * i)) j := by
  induction j with
  | zero => rfl
  | succ j ih =>
    rw [← Nat.add_assoc, hs, hs, ih, List.drop_drop, Nat.mul_add]

theorem hs_pre (v : W8) (l r : List UInt8) : ∀ j, 64 * j ≤ l.length → hs v (l ++ r) j = hs v l j
  | 0, _ => rfl
  | j + 1, h => by
    rw [hs, hs, hs_pre v l r j (by omega), List.drop_append_of_le_length (by omega), List.take_append_of_le_length (by rw [List.length_drop]; omega)]

theorem bytes_ext {x y : ByteArray} (h : x.data.toList = y.data.toList) : x = y := by
  apply ByteArray.ext
  apply Array.ext'
  exact h

theorem rest_list (t : ByteArray) (a : Nat) : (t.extract a t.size).data.toList = t.data.toList.drop a := by
  rw [ext_data, List.take_of_length_le]
  simp

theorem list_app (x y : ByteArray) : (x ++ y).data.toList = x.data.toList ++ y.data.toList := by simp
theorem list_len (x : ByteArray) : x.data.toList.length = x.size := by simp

/-- What is added in two pieces is added in one. -/
theorem add_add (s : St) (a b : ByteArray) : (s.add a).add b = s.add (a ++ b) := by
  obtain ⟨v, n, r⟩ := s
  have e0 : r ++ (a ++ b) = (r ++ a) ++ b := (ByteArray.append_assoc).symm
  unfold St.add
  simp only [e0]
  generalize r ++ a = T
  have hR : (T.extract (64 * (T.size / 64)) T.size).size = T.size - 64 * (T.size / 64) := by rw [ByteArray.size_extract]; omega
  have hq : (T ++ b).size / 64 = T.size / 64 + (T.extract (64 * (T.size / 64)) T.size ++ b).size / 64 := by
    rw [ByteArray.size_append, ByteArray.size_append, hR]; omega
  have hl : (T.extract (64 * (T.size / 64)) T.size ++ b).data.toList = (T ++ b).data.toList.drop (64 * (T.size / 64)) := by
    rw [list_app, rest_list, list_app, List.drop_append_of_le_length (by rw [list_len]; omega)]
  have h1 : hs v T.data.toList (T.size / 64) = hs v (T ++ b).data.toList (T.size / 64) := by
    rw [list_app, hs_pre _ _ _ _ (by rw [list_len]; omega)]
  congr 1
  · rw [hl, h1, ← hs_more, ← hq]
  · rw [ByteArray.size_append]; omega
  · apply bytes_ext
    rw [rest_list, rest_list, hl, List.drop_drop, ← Nat.mul_add, ← hq]

set_option maxHeartbeats 800000 in
theorem rof_any (t : ByteArray) (w : World) (hsz : t.size ≤ 100000) : Calls Tryd.prog 10 #[.string t] w fun e w' => e = .returned (.agg (nums .u8 (St.start.add t).sum).toArray) ∧ Below w.heap.size w w' := by
  have hz1 := (St.start.add_size t)
  have hz2 : St.start.rest.size = 0 := rfl
  have HZ := Lib.hid hz2
  clear hz2
  have hu2 := Tryd.underlying29
  have hi2 : (Tryd.prog.info? 29).map (·.size) = some 32 := by kernel_rfl
  have hl : (nums .u8 (St.start.add t).sum).length = 32 := by simp [nums, St.sum, outs_length]
  have ho := nums_one .u8 (St.start.add t).sum
  go_enter Tryd.func10, Tryd.ntmps10
  go_wp2_with fail
  have HR := Lib.hid (Has.make w 29 (nums .u8 (zeros 32)))
  refine (rstart_any _).mono ?_; rintro e w1 ⟨rfl, hb1⟩
  replace HR := Lib.hid (HR.out.up hb1)
  have HB := Lib.hid ((up_alloc (Below.refl _ w) _).trans (hb1.mono (by simp)))
  clear hb1
  go_wp2_with fail
  refine (radd_any St.start t _ (by rw [HZ.out]; omega)).mono ?_; rintro e w2 ⟨rfl, hb2⟩
  replace HR := Lib.hid (HR.out.up hb2)
  replace HB := Lib.hid (HB.out.trans (hb2.mono HB.out.size))
  clear hb2
  go_wp2_with fail
  refine (rend_any (St.start.add t) _ (by omega)).mono ?_; rintro e w3 ⟨rfl, hb3⟩
  replace HR := Lib.hid (HR.out.up hb3)
  replace HB := Lib.hid (HB.out.trans (hb3.mono HB.out.size))
  clear hb3
  generalize hO : nums .u8 (St.start.add t).sum = O at *
  have HO := Lib.hid hO
  clear hO
  go_wp2_with (refine wpList_store_whole rfl 29 _ _ rfl w.heap.size 29 (nums .u8 (zeros 32)) O (by rfl) (by rfl) HR.out (by rw [hl]; rfl) (by rw [hi2, hl]) ho ?_; intro w5 hF hO5)
  exact bodyPost_ret_by (results_cell_row Tryd.results10 _ _ _ _ _ _ _ (by rfl) hF hu2 rfl (by rw [hi2]; simp [hl])) rfl ⟨by rw [HO.out], hO5.below (Nat.le_refl _) HB.out⟩

end Go.Proofs.YtanjebmpjenmiaaDoor
