/- The document's rows for events hold: what blackboxlaw04.happened returns. -/
import Derived.Test.YtjiepfcohhbjkaaDoorEvPut
import Derived.Test.YtjiepfcohhbjkaaDoorEvGetB
import Derived.Test.YtjiepfcohhbjkaaDoorEvNames
import Derived.Test.YtjiepfcohhbjkaaDoorEvRunB
namespace Go.Proofs.YtjiepfcohhbjkaaDoor
open Go.RowKit Wire Evt

theorem flat_at : ∀ (l : List Ev) (i : Nat) (x : Ev), l[i]? = some x → ∀ j v, (evc x)[j]? = some v → (l.flatMap evc)[i * 6 + j]? = some v
  | [], i, x, h, _, _, _ => by simp at h
  | y :: l, 0, x, h, j, v, hv => by
    obtain rfl : y = x := by simpa using h
    have hj : j < (evc y).length := by
      rcases Nat.lt_or_ge j (evc y).length with h1 | h1
      · exact h1
      · rw [List.getElem?_eq_none h1] at hv; cases hv
    rw [List.flatMap_cons, Nat.zero_mul, Nat.zero_add, List.getElem?_append_left hj]
    exact hv
  | y :: l, i + 1, x, h, j, v, hv => by
    have h' : l[i]? = some x := by simpa using h
    have hl : (evc y).length = 6 := rfl
    rw [List.flatMap_cons, List.getElem?_append_right (by omega), hl, show (i + 1) * 6 + j - 6 = i * 6 + j by omega]
    exact flat_at l i x h' j v hv

theorem EvAt.of_has {w : World} {g : Nat} {l : List Ev} (h : Has w g 24 (l.flatMap evc)) : EvAt w g 0 l := fun i x hx j v hv => by
  rw [Nat.zero_add]
  exact h.at (flat_at l i x hx j v hv)

theorem put_row : putR 300 5 (-1) 2 1 0 = ([2, 172, 2, 5, 0, 1, 0], 0) := by
  have h : isE 5 (-1) 2 1 0 = true := by decide
  have h1 : putL 300 = [172, 2] := by rw [putL_ge (by omega), putL_lt (by omega)]; rfl
  have h2 : putL 5 = [5] := by rw [putL_lt (by omega)]; rfl
  have h3 : putL 0 = [0] := by rw [putL_lt (by omega)]; rfl
  have h4 : putL 1 = [1] := by rw [putL_lt (by omega)]; rfl
  rw [putR_yes h, putE]
  have e1 : (5 : Int).toNat = 5 := rfl
  have e2 : ((-1 : Int) + 1).toNat = 0 := rfl
  have e3 : (1 : Int).toNat = 1 := rfl
  have e4 : (0 : Int).toNat = 0 := rfl
  rw [e1, e2, e3, e4, h1, h2, h3, h4]
  rfl
theorem get_row : got [2, 1, 1, 0, 0] = nothing 4 := by rfl
theorem run_row : runL [⟨4, 0, 0, 1, 0, 0⟩, ⟨5, 0, 0, 2, 0, 0⟩] = true := by rfl
theorem run_row2 : runL [⟨4, 0, 0, 1, 0, 0⟩, ⟨6, 0, 0, 2, 0, 0⟩] = false := by rfl

theorem run_pair (b : Nat) (hb : b < 18446744073709551616) (g : Nat) (w : World) (h : Has w g 24 [.int .u64 4, .int .i64 0, .int .i64 0, .int .i64 1, .int .i64 0, .int .i64 0, .int .u64 (b : Nat), .int .i64 0, .int .i64 0, .int .i64 2, .int .i64 0, .int .i64 0]) :
    Calls Tryd.prog 18 #[.slice (some ⟨g, 0, none⟩) 2 2] w fun e w' => e = .returned (.bool (runL [⟨4, 0, 0, 1, 0, 0⟩, ⟨b, 0, 0, 2, 0, 0⟩])) ∧ Below w.heap.size w w' :=
  run_any (some ⟨g, 0, none⟩) [⟨4, 0, 0, 1, 0, 0⟩, ⟨b, 0, 0, 2, 0, 0⟩] 2 (by simp) (by simp) (by simp; omega) w (fun _ => ⟨g, 0, rfl, EvAt.of_has h⟩)

set_option maxHeartbeats 2000000 in
set_option maxRecDepth 100000 in
theorem happened_any (w : World) (hT : Names w) : Calls Tryd.prog 11 #[] w fun e w' => e = .returned (.bool true) ∧ Below w.heap.size w w' := by
  have p1 := fun w => eput_any 300 5 (-1) 2 1 0 (by omega) w
  rw [put_row] at p1
  simp only [Int.cast_ofNat_Int] at p1
  have g1 := fun w => get_any ⟨#[2, 1, 1, 0, 0]⟩ (by decide) w
  rw [show (⟨#[2, 1, 1, 0, 0]⟩ : ByteArray).data.toList = [2, 1, 1, 0, 0] from rfl, get_row] at g1
  have n1 := fun w h => name_any 7 w h
  rw [show nmK 7 = ⟨#[103, 97, 112]⟩ from rfl] at n1
  have r1 := fun g w h => run_pair 5 (by omega) g w h
  rw [run_row] at r1
  simp only [Int.cast_ofNat_Int] at r1
  have r2 := fun g w h => run_pair 6 (by omega) g w h
  rw [run_row2] at r2
  simp only [Int.cast_ofNat_Int] at r2
  have P1 := Lib.hid p1
  have G1 := Lib.hid g1
  have N1 := Lib.hid n1
  have R1 := Lib.hid r1
  have R2 := Lib.hid r2
  have HT := Lib.hid hT
  clear p1 g1 n1 r1 r2 hT
  go_enter Tryd.func11, Tryd.ntmps11
  go_wp2_with fail
  refine (P1.out _).mono ?_; rintro e w1 ⟨rfl, b1⟩
  go_wp2_with fail
  refine (G1.out _).mono ?_; rintro e w2 ⟨rfl, b2⟩
  have B2 := Lib.hid (up_trans b1 b2)
  clear b1 b2
  simp only [ans, nothing]
  go_wp2_with fail
  refine (N1.out _ (HT.out.up (up_alloc B2.out _))).mono ?_; rintro e w3 ⟨rfl, rfl⟩
  go_wp2_with fail
  refine (R1.out _ _ (Has.make2 _ _ _ _)).mono ?_; rintro e w4 ⟨rfl, b4⟩
  have B4 := Lib.hid (up_trans (up_alloc (up_alloc B2.out _) _) b4)
  clear b4
  go_wp2_with fail
  refine (R2.out _ _ (Has.make _ _ _)).mono ?_; rintro e w5 ⟨rfl, b5⟩
  go_wp2_with fail
  go_ret
  exact ⟨rfl, up_trans (up_alloc B4.out _) b5⟩

end Go.Proofs.YtjiepfcohhbjkaaDoor
