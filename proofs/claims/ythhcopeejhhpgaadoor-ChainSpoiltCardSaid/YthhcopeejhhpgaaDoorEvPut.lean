/- An event's bytes: contracts of event.Put and the document's own. -/
import Derived.Test.YthhcopeejhhpgaaDoorEvA
import Derived.Test.YthhcopeejhhpgaaDoorBase
import Derived.Test.YthhcopeejhhpgaaDoorWires
import Derived.Deep.DeepCutAuto
import Derived.Lib.Hide
namespace Go.Proofs.YthhcopeejhhpgaaDoor
open Go.RowKit Wire Evt

/-- The text of a block of bytes that is known whole. -/
theorem has_text {W : World} {g n : Nat} {l : List UInt8} (h : Has W g 5 (bys l)) (hl : l.length = n) : (convert 51 9 (.slice (some ⟨g, 0, none⟩) n n)).run Tryd.prog W = .ok (.string ⟨l.toArray⟩) W := by
  subst hl
  refine run_convert_bytes_back (P := Tryd.prog) W 51 9 5 ⟨g, 0, none⟩ l.length l Tryd.underlying51 Tryd.underlying5 Tryd.underlying9 ?_
  intro j hj
  have hadd : (⟨g, 0, none⟩ : Addr).add j = ⟨g, j, none⟩ := by unfold Addr.add; split <;> simp_all
  rw [hadd]
  exact h.at (by simp [bys, hj])

/-- A right event's bytes, of numbers that are not below 0. -/
def putN (s t q k a b : Nat) : List UInt8 := UInt8.ofNat k :: (putL s ++ (putL t ++ (putL q ++ (putL a ++ putL b))))
theorem putE_eq (s t q k a b : Nat) : putE s t ((q : Int) - 1) k a b = putN s t q k a b := by
  unfold putE putN
  rw [show ((q : Int) - 1 + 1).toNat = q by omega]
  simp only [Int.toNat_natCast]

/-- A number's text. -/
def tx (n : Nat) : ByteArray := ⟨(putL n).toArray⟩
theorem tx_size {n : Nat} (h : n < 18446744073709551616) : (tx n).size ≤ 10 := by
  have := putL_ten h
  show (putL n).toArray.size ≤ 10
  simpa using this
theorem put_tx (n : Nat) (hn : n < 18446744073709551616) (w : World) : Calls Tryd.prog 60 #[.int .u64 (n : Nat)] w fun e w' => e = .returned (.string (tx n)) ∧ Below w.heap.size w w' := put_any n hn w
theorem rput_tx (n : Nat) (hn : n < 18446744073709551616) (w : World) : Calls Tryd.prog 42 #[.int .u64 (n : Nat)] w fun e w' => e = .returned (.string (tx n)) ∧ Below w.heap.size w w' := rput_any n hn w
theorem cat_tx (c : UInt8) (s t q a b : Nat) : (((((⟨#[c]⟩ : ByteArray) ++ tx s) ++ tx t) ++ tx q) ++ tx a) ++ tx b = ⟨(c :: (putL s ++ (putL t ++ (putL q ++ (putL a ++ putL b))))).toArray⟩ := by
  apply ByteArray.ext
  simp [tx]

set_option maxHeartbeats 20000000 in
set_option maxRecDepth 100000 in
theorem ereput_yes (s t q k a b : Nat) (hs : s < 18446744073709551616) (ht : t ≤ 1099511627776) (hq : q ≤ 32) (k1 : 1 ≤ k) (k8 : k ≤ 8) (ha : a ≤ 4294967295) (hb : b ≤ 4294967295) (w : World) :
    Calls Tryd.prog 43 #[.agg #[.int .u64 (s : Nat), .int .i64 (t : Nat), .int .i64 ((q : Nat) - 1 : Int), .int .i64 (k : Nat), .int .i64 (a : Nat), .int .i64 (b : Nat)]] w fun e w' => e = .returned (.tuple #[.string ⟨(putN s t q k a b).toArray⟩, .int .i64 0]) ∧ Below w.heap.size w w' := by
  have hi : isE (t : Nat) ((q : Nat) - 1 : Int) (k : Nat) (a : Nat) (b : Nat) = true := isE_yes.2 ⟨by omega, by omega, by omega, by omega, by omega, by omega, by omega, by omega, by omega, by omega⟩
  have i1 := fun w => ris_any s t ((q : Nat) - 1 : Int) k a b w
  rw [hi] at i1
  have I1 := Lib.hid i1
  have C0 := Lib.hid (fun w => rput_tx s hs w)
  have C1 := Lib.hid (fun w => rput_tx t (by omega) w)
  have C2 := Lib.hid (fun w => rput_tx q (by omega) w)
  have C3 := Lib.hid (fun w => rput_tx a (by omega) w)
  have C4 := Lib.hid (fun w => rput_tx b (by omega) w)
  have z0 := tx_size hs
  have z1 := tx_size (n := t) (by omega)
  have z2 := tx_size (n := q) (by omega)
  have z3 := tx_size (n := a) (by omega)
  have z4 := tx_size (n := b) (by omega)
  have hc : IntKind.u8.wrap (k : Int) = (((UInt8.ofNat k).toNat : Nat) : Int) := by rw [ofNat_toNat _ (by omega), IntKind.wrap_u8]; omega
  have v1 : IntKind.u64.wrap (t : Int) = (t : Int) := by rw [IntKind.wrap_u64]; omega
  have v2 : IntKind.i64.wrap (q : Int) = (q : Int) := IntWalk.i64_in _ (by omega)
  have v3 : IntKind.u64.wrap (q : Int) = (q : Int) := by rw [IntKind.wrap_u64]; omega
  have v4 : IntKind.u64.wrap (a : Int) = (a : Int) := by rw [IntKind.wrap_u64]; omega
  have v5 : IntKind.u64.wrap (b : Int) = (b : Int) := by rw [IntKind.wrap_u64]; omega
  have E : Hid (Ending.returned (.tuple #[.string ((((((⟨#[UInt8.ofNat k]⟩ : ByteArray) ++ tx s) ++ tx t) ++ tx q) ++ tx a) ++ tx b), .int .i64 0]) = .returned (.tuple #[.string ⟨(putN s t q k a b).toArray⟩, .int .i64 0])) := Lib.hid (by rw [cat_tx]; rfl)
  clear i1 hi
  generalize UInt8.ofNat k = c at *
  generalize tx s = x0 at *
  generalize tx t = x1 at *
  generalize tx q = x2 at *
  generalize tx a = x3 at *
  generalize tx b = x4 at *
  have y0 : ¬ 9223372036854775807 < 1 + x0.size := by omega
  have y1 : ¬ 9223372036854775807 < 1 + x0.size + x1.size := by omega
  have y2 : ¬ 9223372036854775807 < 1 + x0.size + x1.size + x2.size := by omega
  have y3 : ¬ 9223372036854775807 < 1 + x0.size + x1.size + x2.size + x3.size := by omega
  have y4 : ¬ 9223372036854775807 < 1 + x0.size + x1.size + x2.size + x3.size + x4.size := by omega
  clear z0 z1 z2 z3 z4
  go_enter Tryd.func43, Tryd.ntmps43
  go_wp2_with fail
  refine (I1.out _).mono ?_; rintro e w1 ⟨rfl, b1'⟩
  have HA : Has w1 w.heap.size 47 [.int .u64 (s : Nat), .int .i64 (t : Nat), .int .i64 ((q : Nat) - 1 : Int), .int .i64 (k : Nat), .int .i64 (a : Nat), .int .i64 (b : Nat)] := (Has.make w _ _).up b1'
  have HK := Lib.hid (show ∀ W, Below w1.heap.size w1 W → W.cell? ⟨w.heap.size, 0, none⟩ = some (.int .u64 (s : Nat)) ∧ W.cell? ⟨w.heap.size, 1, none⟩ = some (.int .i64 (t : Nat)) ∧ W.cell? ⟨w.heap.size, 2, none⟩ = some (.int .i64 ((q : Nat) - 1 : Int)) ∧ W.cell? ⟨w.heap.size, 3, none⟩ = some (.int .i64 (k : Nat)) ∧ W.cell? ⟨w.heap.size, 4, none⟩ = some (.int .i64 (a : Nat)) ∧ W.cell? ⟨w.heap.size, 5, none⟩ = some (.int .i64 (b : Nat)) from fun W h => ⟨(HA.up h).at rfl, (HA.up h).at rfl, (HA.up h).at rfl, (HA.up h).at rfl, (HA.up h).at rfl, (HA.up h).at rfl⟩)
  have b1 : Below w.heap.size w w1 := up_trans (up_alloc (Below.refl _ _) _) b1'
  clear b1' HA
  replace b1 := Lib.hid b1
  go_wp2_with fail
  refine wp_region_held_drew (S := fun W => W.cell? ⟨w.heap.size, 0, none⟩ = some (.int .u64 (s : Nat)) ∧ W.cell? ⟨w.heap.size, 1, none⟩ = some (.int .i64 (t : Nat)) ∧ W.cell? ⟨w.heap.size, 2, none⟩ = some (.int .i64 ((q : Nat) - 1 : Int)) ∧ W.cell? ⟨w.heap.size, 3, none⟩ = some (.int .i64 (k : Nat)) ∧ W.cell? ⟨w.heap.size, 4, none⟩ = some (.int .i64 (a : Nat)) ∧ W.cell? ⟨w.heap.size, 5, none⟩ = some (.int .i64 (b : Nat))) (by kernel_rfl) (HK.out _ (Below.refl _ _).drew) (fun hHeld => ?_)
  refine wpAnyH_take (i := 0) (v := ?_) rfl (by kernel_rfl) (by kernel_rfl) (by kernel_rfl) (fun _ _ _ h => h) (Or.inl ⟨by rfl, ?_⟩) (by assumption) ?_
  rotate_left
  · intro w hSw; (try dsimp only at hSw); go_simp; try with_reducible rfl
  try simp only [Act.put, List.getElem_toArray, List.getElem_cons_zero, List.setIfInBounds_toArray, List.set_cons_zero, List.set_cons_succ]
  refine wpAnyH_take (i := 1) (v := ?_) rfl (by kernel_rfl) (by kernel_rfl) (by kernel_rfl) (fun _ _ _ h => h) (Or.inl ⟨by rfl, ?_⟩) (by assumption) ?_
  rotate_left
  · intro w hSw; (try dsimp only at hSw); go_simp; try with_reducible rfl
  try simp only [Act.put, List.getElem_toArray, List.getElem_cons_zero, List.getElem_cons_succ, List.setIfInBounds_toArray, List.set_cons_zero, List.set_cons_succ]
  refine wpAnyH_take (i := 2) (v := ?_) rfl (by kernel_rfl) (by kernel_rfl) (by kernel_rfl) (fun _ _ _ h => h) (Or.inl ⟨by rfl, ?_⟩) (by assumption) ?_
  rotate_left
  · intro w hSw; (try dsimp only at hSw); go_simp; try with_reducible rfl
  try simp only [Act.put, List.getElem_toArray, List.getElem_cons_zero, List.getElem_cons_succ, List.setIfInBounds_toArray, List.set_cons_zero, List.set_cons_succ]
  refine wpAnyH_take (i := 5) (v := ?_) rfl (by kernel_rfl) (by kernel_rfl) (by kernel_rfl) (fun _ _ _ h => h) (Or.inl ⟨by rfl, ?_⟩) (by assumption) ?_
  rotate_left
  · intro w hSw; (try dsimp only at hSw); go_simp; try with_reducible rfl
  try simp only [Act.put, List.getElem_toArray, List.getElem_cons_zero, List.getElem_cons_succ, List.setIfInBounds_toArray, List.set_cons_zero, List.set_cons_succ]
  refine wpAnyH_take (i := 6) (v := ?_) rfl (by kernel_rfl) (by kernel_rfl) (by kernel_rfl) (fun _ _ _ h => h) (Or.inl ⟨by rfl, ?_⟩) (by assumption) ?_
  rotate_left
  · intro w hSw; (try dsimp only at hSw); go_simp; try with_reducible rfl
  try simp only [Act.put, List.getElem_toArray, List.getElem_cons_zero, List.getElem_cons_succ, List.setIfInBounds_toArray, List.set_cons_zero, List.set_cons_succ]
  refine wpAnyH_take (i := 9) (v := ?_) rfl (by kernel_rfl) (by kernel_rfl) (by kernel_rfl) (fun _ _ _ h => h) (Or.inl ⟨by rfl, ?_⟩) (by assumption) ?_
  rotate_left
  · intro w hSw; (try dsimp only at hSw); go_simp; try with_reducible rfl
  try simp only [Act.put, List.getElem_toArray, List.getElem_cons_zero, List.getElem_cons_succ, List.setIfInBounds_toArray, List.set_cons_zero, List.set_cons_succ]
  refine wpAnyH_take (i := 10) (v := ?_) rfl (by kernel_rfl) (by kernel_rfl) (by kernel_rfl) (fun _ _ _ h => h) (Or.inl ⟨by rfl, ?_⟩) (by assumption) ?_
  rotate_left
  · intro w hSw; (try dsimp only at hSw); go_simp; try with_reducible rfl
  try simp only [Act.put, List.getElem_toArray, List.getElem_cons_zero, List.getElem_cons_succ, List.setIfInBounds_toArray, List.set_cons_zero, List.set_cons_succ]
  refine wpAnyH_take (i := 11) (v := ?_) rfl (by kernel_rfl) (by kernel_rfl) (by kernel_rfl) (fun _ _ _ h => h) (Or.inl ⟨by rfl, ?_⟩) (by assumption) ?_
  rotate_left
  · intro w hSw; (try dsimp only at hSw); go_simp; try with_reducible rfl
  try simp only [Act.put, List.getElem_toArray, List.getElem_cons_zero, List.getElem_cons_succ, List.setIfInBounds_toArray, List.set_cons_zero, List.set_cons_succ]
  refine wpAnyH_take (i := 14) (v := ?_) rfl (by kernel_rfl) (by kernel_rfl) (by kernel_rfl) (fun _ _ _ h => h) (Or.inl ⟨by rfl, ?_⟩) (by assumption) ?_
  rotate_left
  · intro w hSw; (try dsimp only at hSw); go_simp; try with_reducible rfl
  try simp only [Act.put, List.getElem_toArray, List.getElem_cons_zero, List.getElem_cons_succ, List.setIfInBounds_toArray, List.set_cons_zero, List.set_cons_succ]
  refine wpAnyH_take (i := 15) (v := ?_) rfl (by kernel_rfl) (by kernel_rfl) (by kernel_rfl) (fun _ _ _ h => h) (Or.inl ⟨by rfl, ?_⟩) (by assumption) ?_
  rotate_left
  · intro w hSw; (try dsimp only at hSw); go_simp; try with_reducible rfl
  try simp only [Act.put, List.getElem_toArray, List.getElem_cons_zero, List.getElem_cons_succ, List.setIfInBounds_toArray, List.set_cons_zero, List.set_cons_succ]
  refine wpAnyH_take (i := 16) (v := ?_) rfl (by kernel_rfl) (by kernel_rfl) (by kernel_rfl) (fun _ _ _ h => h) (Or.inl ⟨by rfl, ?_⟩) (by assumption) ?_
  rotate_left
  · intro w hSw; (try dsimp only at hSw); go_simp; try with_reducible rfl
  try simp only [Act.put, List.getElem_toArray, List.getElem_cons_zero, List.getElem_cons_succ, List.setIfInBounds_toArray, List.set_cons_zero, List.set_cons_succ]
  refine wpAnyH_take (i := 17) (v := ?_) rfl (by kernel_rfl) (by kernel_rfl) (by kernel_rfl) (fun _ _ _ h => h) (Or.inl ⟨by rfl, ?_⟩) (by assumption) ?_
  rotate_left
  · intro w hSw; (try dsimp only at hSw); go_simp; try with_reducible rfl
  try simp only [Act.put, List.getElem_toArray, List.getElem_cons_zero, List.getElem_cons_succ, List.setIfInBounds_toArray, List.set_cons_zero, List.set_cons_succ]
  refine wpAnyH_take (i := 20) (v := ?_) rfl (by kernel_rfl) (by kernel_rfl) (by kernel_rfl) (fun _ _ _ h => h) (Or.inl ⟨by rfl, ?_⟩) (by assumption) ?_
  rotate_left
  · intro w hSw; (try dsimp only at hSw); go_simp; try with_reducible rfl
  try simp only [Act.put, List.getElem_toArray, List.getElem_cons_zero, List.getElem_cons_succ, List.setIfInBounds_toArray, List.set_cons_zero, List.set_cons_succ]
  refine wpAnyH_take (i := 21) (v := ?_) rfl (by kernel_rfl) (by kernel_rfl) (by kernel_rfl) (fun _ _ _ h => h) (Or.inl ⟨by rfl, ?_⟩) (by assumption) ?_
  rotate_left
  · intro w hSw; (try dsimp only at hSw); go_simp; try with_reducible rfl
  try simp only [Act.put, List.getElem_toArray, List.getElem_cons_zero, List.getElem_cons_succ, List.setIfInBounds_toArray, List.set_cons_zero, List.set_cons_succ]
  refine wpAnyH_take (i := 22) (v := ?_) rfl (by kernel_rfl) (by kernel_rfl) (by kernel_rfl) (fun _ _ _ h => h) (Or.inl ⟨by rfl, ?_⟩) (by assumption) ?_
  rotate_left
  · intro w hSw; (try dsimp only at hSw); go_simp; try with_reducible rfl
  try simp only [Act.put, List.getElem_toArray, List.getElem_cons_zero, List.getElem_cons_succ, List.setIfInBounds_toArray, List.set_cons_zero, List.set_cons_succ]
  refine wpAnyH_take (i := 25) (v := ?_) rfl (by kernel_rfl) (by kernel_rfl) (by kernel_rfl) (fun _ _ _ h => h) (Or.inl ⟨by rfl, ?_⟩) (by assumption) ?_
  rotate_left
  · intro w hSw; (try dsimp only at hSw); go_simp; try with_reducible rfl
  try simp only [Act.put, List.getElem_toArray, List.getElem_cons_zero, List.getElem_cons_succ, List.setIfInBounds_toArray, List.set_cons_zero, List.set_cons_succ]
  refine wpAnyH_take (i := 26) (v := ?_) rfl (by kernel_rfl) (by kernel_rfl) (by kernel_rfl) (fun _ _ _ h => h) (Or.inl ⟨by rfl, ?_⟩) (by assumption) ?_
  rotate_left
  · intro w hSw; (try dsimp only at hSw); go_simp; try with_reducible rfl
  try simp only [Act.put, List.getElem_toArray, List.getElem_cons_zero, List.getElem_cons_succ, List.setIfInBounds_toArray, List.set_cons_zero, List.set_cons_succ]
  refine wpAnyH_take (i := 27) (v := ?_) rfl (by kernel_rfl) (by kernel_rfl) (by kernel_rfl) (fun _ _ _ h => h) (Or.inl ⟨by rfl, ?_⟩) (by assumption) ?_
  rotate_left
  · intro w hSw; (try dsimp only at hSw); go_simp; try with_reducible rfl
  try simp only [Act.put, List.getElem_toArray, List.getElem_cons_zero, List.getElem_cons_succ, List.setIfInBounds_toArray, List.set_cons_zero, List.set_cons_succ]
  refine wpAnyH_ready (rs := [3, 7]) (by kernel_rfl) (by simp) (AllReadyH.cons rfl (fun K hK => ?_) (AllReadyH.cons rfl (fun K hK => ?_) AllReadyH.nil))
  · skip
    go_simp
    refine hK.out _ _ (HK.out _ (up_alloc (Below.refl _ _).drew _)) (fun hHeld => ?_)
    clear hK K
    try simp only [Act.put, List.getElem_toArray, List.getElem_cons_zero, List.getElem_cons_succ, List.setIfInBounds_toArray, List.set_cons_zero, List.set_cons_succ]
    refine wpAnyH_turn (fun W => (W.cell? ⟨w.heap.size, 0, none⟩ = some (.int .u64 (s : Nat)) ∧ W.cell? ⟨w.heap.size, 1, none⟩ = some (.int .i64 (t : Nat)) ∧ W.cell? ⟨w.heap.size, 2, none⟩ = some (.int .i64 ((q : Nat) - 1 : Int)) ∧ W.cell? ⟨w.heap.size, 3, none⟩ = some (.int .i64 (k : Nat)) ∧ W.cell? ⟨w.heap.size, 4, none⟩ = some (.int .i64 (a : Nat)) ∧ W.cell? ⟨w.heap.size, 5, none⟩ = some (.int .i64 (b : Nat))) ∧ Has W w1.heap.size 5 (bys [c])) (fun _ h => h.1) ⟨HK.out _ (up_alloc (Below.refl _ _).drew _), by first | exact Has.make _ 5 (bys [c]) | exact (Has.make _ 5 (bys [c])).drew⟩ (fun hHeld => ?_)
    refine wpAnyH_take (i := 4) (v := .string ⟨#[c]⟩) rfl (by kernel_rfl) (by kernel_rfl) (by kernel_rfl) (fun _ _ _ h => h) (Or.inl ⟨by rfl, by intro w hSw; have ht := has_text (n := 1) hSw.2 rfl; go_simp⟩) (by assumption) ?_
    try simp only [Act.put, List.getElem_toArray, List.getElem_cons_zero, List.getElem_cons_succ, List.setIfInBounds_toArray, List.set_cons_zero, List.set_cons_succ]
    refine wpAnyH_ready (rs := [7]) (by kernel_rfl) (by simp) (AllReadyH.cons rfl (fun K hK => ?_) AllReadyH.nil)
    go_simp
    refine ((C0.out _)).mono ?_; rintro e wn ⟨rfl, hbn'⟩; have hbn'' := hbn'
    replace hbn : Below w1.heap.size w1 wn := up_trans (up_alloc (Below.refl _ _).drew _) hbn'
    clear hbn'
    go_wp2_with fail
    refine hK.out _ _ (⟨HK.out _ hbn, hHeld.2.up hbn''⟩) (fun hHeld => ?_)
    clear hK K
    try simp only [Act.put, List.getElem_toArray, List.getElem_cons_zero, List.getElem_cons_succ, List.setIfInBounds_toArray, List.set_cons_zero, List.set_cons_succ]
    refine wpAnyH_take (i := 8) (v := ?_) rfl (by kernel_rfl) (by kernel_rfl) (by kernel_rfl) (fun _ _ _ h => h) (Or.inl ⟨by rfl, ?_⟩) (by assumption) ?_
    rotate_left
    · intro w hSw; (try dsimp only at hSw); go_simp; try with_reducible rfl
    try simp only [Act.put, List.getElem_toArray, List.getElem_cons_zero, List.getElem_cons_succ, List.setIfInBounds_toArray, List.set_cons_zero, List.set_cons_succ]
    refine wpAnyH_ready (rs := [12]) (by kernel_rfl) (by simp) (AllReadyH.cons rfl (fun K hK => ?_) AllReadyH.nil)
    go_simp
    refine ((C1.out _)).mono ?_; rintro e wn ⟨rfl, hbn'⟩; have hbn'' := hbn'
    replace hbn : Below w1.heap.size w1 wn := up_trans hbn hbn'
    clear hbn'
    go_wp2_with fail
    refine hK.out _ _ (⟨HK.out _ hbn, hHeld.2.up hbn''⟩) (fun hHeld => ?_)
    clear hK K
    try simp only [Act.put, List.getElem_toArray, List.getElem_cons_zero, List.getElem_cons_succ, List.setIfInBounds_toArray, List.set_cons_zero, List.set_cons_succ]
    refine wpAnyH_take (i := 13) (v := ?_) rfl (by kernel_rfl) (by kernel_rfl) (by kernel_rfl) (fun _ _ _ h => h) (Or.inl ⟨by rfl, ?_⟩) (by assumption) ?_
    rotate_left
    · intro w hSw; (try dsimp only at hSw); go_simp; try with_reducible rfl
    try simp only [Act.put, List.getElem_toArray, List.getElem_cons_zero, List.getElem_cons_succ, List.setIfInBounds_toArray, List.set_cons_zero, List.set_cons_succ]
    refine wpAnyH_ready (rs := [18]) (by kernel_rfl) (by simp) (AllReadyH.cons rfl (fun K hK => ?_) AllReadyH.nil)
    go_simp
    refine ((C2.out _)).mono ?_; rintro e wn ⟨rfl, hbn'⟩; have hbn'' := hbn'
    replace hbn : Below w1.heap.size w1 wn := up_trans hbn hbn'
    clear hbn'
    go_wp2_with fail
    refine hK.out _ _ (⟨HK.out _ hbn, hHeld.2.up hbn''⟩) (fun hHeld => ?_)
    clear hK K
    try simp only [Act.put, List.getElem_toArray, List.getElem_cons_zero, List.getElem_cons_succ, List.setIfInBounds_toArray, List.set_cons_zero, List.set_cons_succ]
    refine wpAnyH_take (i := 19) (v := ?_) rfl (by kernel_rfl) (by kernel_rfl) (by kernel_rfl) (fun _ _ _ h => h) (Or.inl ⟨by rfl, ?_⟩) (by assumption) ?_
    rotate_left
    · intro w hSw; (try dsimp only at hSw); go_simp; try with_reducible rfl
    try simp only [Act.put, List.getElem_toArray, List.getElem_cons_zero, List.getElem_cons_succ, List.setIfInBounds_toArray, List.set_cons_zero, List.set_cons_succ]
    refine wpAnyH_ready (rs := [23]) (by kernel_rfl) (by simp) (AllReadyH.cons rfl (fun K hK => ?_) AllReadyH.nil)
    go_simp
    refine ((C3.out _)).mono ?_; rintro e wn ⟨rfl, hbn'⟩; have hbn'' := hbn'
    replace hbn : Below w1.heap.size w1 wn := up_trans hbn hbn'
    clear hbn'
    go_wp2_with fail
    refine hK.out _ _ (⟨HK.out _ hbn, hHeld.2.up hbn''⟩) (fun hHeld => ?_)
    clear hK K
    try simp only [Act.put, List.getElem_toArray, List.getElem_cons_zero, List.getElem_cons_succ, List.setIfInBounds_toArray, List.set_cons_zero, List.set_cons_succ]
    refine wpAnyH_take (i := 24) (v := ?_) rfl (by kernel_rfl) (by kernel_rfl) (by kernel_rfl) (fun _ _ _ h => h) (Or.inl ⟨by rfl, ?_⟩) (by assumption) ?_
    rotate_left
    · intro w hSw; (try dsimp only at hSw); go_simp; try with_reducible rfl
    try simp only [Act.put, List.getElem_toArray, List.getElem_cons_zero, List.getElem_cons_succ, List.setIfInBounds_toArray, List.set_cons_zero, List.set_cons_succ]
    refine wpAnyH_ready (rs := [28]) (by kernel_rfl) (by simp) (AllReadyH.cons rfl (fun K hK => ?_) AllReadyH.nil)
    go_simp
    refine ((C4.out _)).mono ?_; rintro e wn ⟨rfl, hbn'⟩; have hbn'' := hbn'
    replace hbn : Below w1.heap.size w1 wn := up_trans hbn hbn'
    clear hbn'
    go_wp2_with fail
    refine hK.out _ _ (⟨HK.out _ hbn, hHeld.2.up hbn''⟩) (fun hHeld => ?_)
    clear hK K
    try simp only [Act.put, List.getElem_toArray, List.getElem_cons_zero, List.getElem_cons_succ, List.setIfInBounds_toArray, List.set_cons_zero, List.set_cons_succ]
    refine wpAnyH_take (i := 29) (v := ?_) rfl (by kernel_rfl) (by kernel_rfl) (by kernel_rfl) (fun _ _ _ h => h) (Or.inl ⟨by rfl, ?_⟩) (by assumption) ?_
    rotate_left
    · intro w hSw; (try dsimp only at hSw); go_simp; try with_reducible rfl
    try simp only [Act.put, List.getElem_toArray, List.getElem_cons_zero, List.getElem_cons_succ, List.setIfInBounds_toArray, List.set_cons_zero, List.set_cons_succ]
    refine wpAnyH_take (i := 30) (v := ?_) rfl (by kernel_rfl) (by kernel_rfl) (by kernel_rfl) (fun _ _ _ h => h) (Or.inl ⟨by rfl, ?_⟩) (by assumption) ?_
    rotate_left
    · intro w hSw; (try dsimp only at hSw); go_simp; try with_reducible rfl
    try simp only [Act.put, List.getElem_toArray, List.getElem_cons_zero, List.getElem_cons_succ, List.setIfInBounds_toArray, List.set_cons_zero, List.set_cons_succ]
    refine wpAnyH_take (i := 31) (v := ?_) rfl (by kernel_rfl) (by kernel_rfl) (by kernel_rfl) (fun _ _ _ h => h) (Or.inl ⟨by rfl, ?_⟩) (by assumption) ?_
    rotate_left
    · intro w hSw; (try dsimp only at hSw); go_simp; try with_reducible rfl
    try simp only [Act.put, List.getElem_toArray, List.getElem_cons_zero, List.getElem_cons_succ, List.setIfInBounds_toArray, List.set_cons_zero, List.set_cons_succ]
    refine wpAnyH_done (by kernel_rfl) ?_ _
    go_wp2_with fail
    go_ret2
    exact ⟨E.out, up_trans b1.out hbn⟩
  · skip
    go_simp
    refine ((C0.out _)).mono ?_; rintro e wn ⟨rfl, hbn'⟩; have hbn'' := hbn'
    have hbn : Below w1.heap.size w1 wn := up_trans (Below.refl _ _).drew hbn'
    clear hbn'
    go_wp2_with fail
    refine hK.out _ _ (HK.out _ hbn) (fun hHeld => ?_)
    clear hK K
    try simp only [Act.put, List.getElem_toArray, List.getElem_cons_zero, List.getElem_cons_succ, List.setIfInBounds_toArray, List.set_cons_zero, List.set_cons_succ]
    refine wpAnyH_ready (rs := [3, 12]) (by kernel_rfl) (by simp) (AllReadyH.cons rfl (fun K hK => ?_) (AllReadyH.cons rfl (fun K hK => ?_) AllReadyH.nil))
    · skip
      go_simp
      refine hK.out _ _ (HK.out _ (up_alloc hbn _)) (fun hHeld => ?_)
      clear hK K
      try simp only [Act.put, List.getElem_toArray, List.getElem_cons_zero, List.getElem_cons_succ, List.setIfInBounds_toArray, List.set_cons_zero, List.set_cons_succ]
      refine wpAnyH_turn (fun W => (W.cell? ⟨w.heap.size, 0, none⟩ = some (.int .u64 (s : Nat)) ∧ W.cell? ⟨w.heap.size, 1, none⟩ = some (.int .i64 (t : Nat)) ∧ W.cell? ⟨w.heap.size, 2, none⟩ = some (.int .i64 ((q : Nat) - 1 : Int)) ∧ W.cell? ⟨w.heap.size, 3, none⟩ = some (.int .i64 (k : Nat)) ∧ W.cell? ⟨w.heap.size, 4, none⟩ = some (.int .i64 (a : Nat)) ∧ W.cell? ⟨w.heap.size, 5, none⟩ = some (.int .i64 (b : Nat))) ∧ Has W wn.heap.size 5 (bys [c])) (fun _ h => h.1) ⟨HK.out _ (up_alloc hbn _), by first | exact Has.make _ 5 (bys [c]) | exact (Has.make _ 5 (bys [c])).drew⟩ (fun hHeld => ?_)
      refine wpAnyH_take (i := 4) (v := .string ⟨#[c]⟩) rfl (by kernel_rfl) (by kernel_rfl) (by kernel_rfl) (fun _ _ _ h => h) (Or.inl ⟨by rfl, by intro w hSw; have ht := has_text (n := 1) hSw.2 rfl; go_simp⟩) (by assumption) ?_
      try simp only [Act.put, List.getElem_toArray, List.getElem_cons_zero, List.getElem_cons_succ, List.setIfInBounds_toArray, List.set_cons_zero, List.set_cons_succ]
      refine wpAnyH_take (i := 8) (v := ?_) rfl (by kernel_rfl) (by kernel_rfl) (by kernel_rfl) (fun _ _ _ h => h) (Or.inl ⟨by rfl, ?_⟩) (by assumption) ?_
      rotate_left
      · intro w hSw; (try dsimp only at hSw); go_simp; try with_reducible rfl
      try simp only [Act.put, List.getElem_toArray, List.getElem_cons_zero, List.getElem_cons_succ, List.setIfInBounds_toArray, List.set_cons_zero, List.set_cons_succ]
      refine wpAnyH_ready (rs := [12]) (by kernel_rfl) (by simp) (AllReadyH.cons rfl (fun K hK => ?_) AllReadyH.nil)
      go_simp
      refine ((C1.out _)).mono ?_; rintro e wn ⟨rfl, hbn'⟩; have hbn'' := hbn'
      replace hbn : Below w1.heap.size w1 wn := up_trans (up_alloc hbn _) hbn'
      clear hbn'
      go_wp2_with fail
      refine hK.out _ _ (⟨HK.out _ hbn, hHeld.2.up hbn''⟩) (fun hHeld => ?_)
      clear hK K
      try simp only [Act.put, List.getElem_toArray, List.getElem_cons_zero, List.getElem_cons_succ, List.setIfInBounds_toArray, List.set_cons_zero, List.set_cons_succ]
      refine wpAnyH_take (i := 13) (v := ?_) rfl (by kernel_rfl) (by kernel_rfl) (by kernel_rfl) (fun _ _ _ h => h) (Or.inl ⟨by rfl, ?_⟩) (by assumption) ?_
      rotate_left
      · intro w hSw; (try dsimp only at hSw); go_simp; try with_reducible rfl
      try simp only [Act.put, List.getElem_toArray, List.getElem_cons_zero, List.getElem_cons_succ, List.setIfInBounds_toArray, List.set_cons_zero, List.set_cons_succ]
      refine wpAnyH_ready (rs := [18]) (by kernel_rfl) (by simp) (AllReadyH.cons rfl (fun K hK => ?_) AllReadyH.nil)
      go_simp
      refine ((C2.out _)).mono ?_; rintro e wn ⟨rfl, hbn'⟩; have hbn'' := hbn'
      replace hbn : Below w1.heap.size w1 wn := up_trans hbn hbn'
      clear hbn'
      go_wp2_with fail
      refine hK.out _ _ (⟨HK.out _ hbn, hHeld.2.up hbn''⟩) (fun hHeld => ?_)
      clear hK K
      try simp only [Act.put, List.getElem_toArray, List.getElem_cons_zero, List.getElem_cons_succ, List.setIfInBounds_toArray, List.set_cons_zero, List.set_cons_succ]
      refine wpAnyH_take (i := 19) (v := ?_) rfl (by kernel_rfl) (by kernel_rfl) (by kernel_rfl) (fun _ _ _ h => h) (Or.inl ⟨by rfl, ?_⟩) (by assumption) ?_
      rotate_left
      · intro w hSw; (try dsimp only at hSw); go_simp; try with_reducible rfl
      try simp only [Act.put, List.getElem_toArray, List.getElem_cons_zero, List.getElem_cons_succ, List.setIfInBounds_toArray, List.set_cons_zero, List.set_cons_succ]
      refine wpAnyH_ready (rs := [23]) (by kernel_rfl) (by simp) (AllReadyH.cons rfl (fun K hK => ?_) AllReadyH.nil)
      go_simp
      refine ((C3.out _)).mono ?_; rintro e wn ⟨rfl, hbn'⟩; have hbn'' := hbn'
      replace hbn : Below w1.heap.size w1 wn := up_trans hbn hbn'
      clear hbn'
      go_wp2_with fail
      refine hK.out _ _ (⟨HK.out _ hbn, hHeld.2.up hbn''⟩) (fun hHeld => ?_)
      clear hK K
      try simp only [Act.put, List.getElem_toArray, List.getElem_cons_zero, List.getElem_cons_succ, List.setIfInBounds_toArray, List.set_cons_zero, List.set_cons_succ]
      refine wpAnyH_take (i := 24) (v := ?_) rfl (by kernel_rfl) (by kernel_rfl) (by kernel_rfl) (fun _ _ _ h => h) (Or.inl ⟨by rfl, ?_⟩) (by assumption) ?_
      rotate_left
      · intro w hSw; (try dsimp only at hSw); go_simp; try with_reducible rfl
      try simp only [Act.put, List.getElem_toArray, List.getElem_cons_zero, List.getElem_cons_succ, List.setIfInBounds_toArray, List.set_cons_zero, List.set_cons_succ]
      refine wpAnyH_ready (rs := [28]) (by kernel_rfl) (by simp) (AllReadyH.cons rfl (fun K hK => ?_) AllReadyH.nil)
      go_simp
      refine ((C4.out _)).mono ?_; rintro e wn ⟨rfl, hbn'⟩; have hbn'' := hbn'
      replace hbn : Below w1.heap.size w1 wn := up_trans hbn hbn'
      clear hbn'
      go_wp2_with fail
      refine hK.out _ _ (⟨HK.out _ hbn, hHeld.2.up hbn''⟩) (fun hHeld => ?_)
      clear hK K
      try simp only [Act.put, List.getElem_toArray, List.getElem_cons_zero, List.getElem_cons_succ, List.setIfInBounds_toArray, List.set_cons_zero, List.set_cons_succ]
      refine wpAnyH_take (i := 29) (v := ?_) rfl (by kernel_rfl) (by kernel_rfl) (by kernel_rfl) (fun _ _ _ h => h) (Or.inl ⟨by rfl, ?_⟩) (by assumption) ?_
      rotate_left
      · intro w hSw; (try dsimp only at hSw); go_simp; try with_reducible rfl
      try simp only [Act.put, List.getElem_toArray, List.getElem_cons_zero, List.getElem_cons_succ, List.setIfInBounds_toArray, List.set_cons_zero, List.set_cons_succ]
      refine wpAnyH_take (i := 30) (v := ?_) rfl (by kernel_rfl) (by kernel_rfl) (by kernel_rfl) (fun _ _ _ h => h) (Or.inl ⟨by rfl, ?_⟩) (by assumption) ?_
      rotate_left
      · intro w hSw; (try dsimp only at hSw); go_simp; try with_reducible rfl
      try simp only [Act.put, List.getElem_toArray, List.getElem_cons_zero, List.getElem_cons_succ, List.setIfInBounds_toArray, List.set_cons_zero, List.set_cons_succ]
      refine wpAnyH_take (i := 31) (v := ?_) rfl (by kernel_rfl) (by kernel_rfl) (by kernel_rfl) (fun _ _ _ h => h) (Or.inl ⟨by rfl, ?_⟩) (by assumption) ?_
      rotate_left
      · intro w hSw; (try dsimp only at hSw); go_simp; try with_reducible rfl
      try simp only [Act.put, List.getElem_toArray, List.getElem_cons_zero, List.getElem_cons_succ, List.setIfInBounds_toArray, List.set_cons_zero, List.set_cons_succ]
      refine wpAnyH_done (by kernel_rfl) ?_ _
      go_wp2_with fail
      go_ret2
      exact ⟨E.out, up_trans b1.out hbn⟩
    · skip
      go_simp
      refine ((C1.out _)).mono ?_; rintro e wn ⟨rfl, hbn'⟩; have hbn'' := hbn'
      replace hbn : Below w1.heap.size w1 wn := up_trans hbn hbn'
      clear hbn'
      go_wp2_with fail
      refine hK.out _ _ (HK.out _ hbn) (fun hHeld => ?_)
      clear hK K
      try simp only [Act.put, List.getElem_toArray, List.getElem_cons_zero, List.getElem_cons_succ, List.setIfInBounds_toArray, List.set_cons_zero, List.set_cons_succ]
      refine wpAnyH_ready (rs := [3, 18]) (by kernel_rfl) (by simp) (AllReadyH.cons rfl (fun K hK => ?_) (AllReadyH.cons rfl (fun K hK => ?_) AllReadyH.nil))
      · skip
        go_simp
        refine hK.out _ _ (HK.out _ (up_alloc hbn _)) (fun hHeld => ?_)
        clear hK K
        try simp only [Act.put, List.getElem_toArray, List.getElem_cons_zero, List.getElem_cons_succ, List.setIfInBounds_toArray, List.set_cons_zero, List.set_cons_succ]
        refine wpAnyH_turn (fun W => (W.cell? ⟨w.heap.size, 0, none⟩ = some (.int .u64 (s : Nat)) ∧ W.cell? ⟨w.heap.size, 1, none⟩ = some (.int .i64 (t : Nat)) ∧ W.cell? ⟨w.heap.size, 2, none⟩ = some (.int .i64 ((q : Nat) - 1 : Int)) ∧ W.cell? ⟨w.heap.size, 3, none⟩ = some (.int .i64 (k : Nat)) ∧ W.cell? ⟨w.heap.size, 4, none⟩ = some (.int .i64 (a : Nat)) ∧ W.cell? ⟨w.heap.size, 5, none⟩ = some (.int .i64 (b : Nat))) ∧ Has W wn.heap.size 5 (bys [c])) (fun _ h => h.1) ⟨HK.out _ (up_alloc hbn _), by first | exact Has.make _ 5 (bys [c]) | exact (Has.make _ 5 (bys [c])).drew⟩ (fun hHeld => ?_)
        refine wpAnyH_take (i := 4) (v := .string ⟨#[c]⟩) rfl (by kernel_rfl) (by kernel_rfl) (by kernel_rfl) (fun _ _ _ h => h) (Or.inl ⟨by rfl, by intro w hSw; have ht := has_text (n := 1) hSw.2 rfl; go_simp⟩) (by assumption) ?_
        try simp only [Act.put, List.getElem_toArray, List.getElem_cons_zero, List.getElem_cons_succ, List.setIfInBounds_toArray, List.set_cons_zero, List.set_cons_succ]
        refine wpAnyH_take (i := 8) (v := ?_) rfl (by kernel_rfl) (by kernel_rfl) (by kernel_rfl) (fun _ _ _ h => h) (Or.inl ⟨by rfl, ?_⟩) (by assumption) ?_
        rotate_left
        · intro w hSw; (try dsimp only at hSw); go_simp; try with_reducible rfl
        try simp only [Act.put, List.getElem_toArray, List.getElem_cons_zero, List.getElem_cons_succ, List.setIfInBounds_toArray, List.set_cons_zero, List.set_cons_succ]
        refine wpAnyH_take (i := 13) (v := ?_) rfl (by kernel_rfl) (by kernel_rfl) (by kernel_rfl) (fun _ _ _ h => h) (Or.inl ⟨by rfl, ?_⟩) (by assumption) ?_
        rotate_left
        · intro w hSw; (try dsimp only at hSw); go_simp; try with_reducible rfl
        try simp only [Act.put, List.getElem_toArray, List.getElem_cons_zero, List.getElem_cons_succ, List.setIfInBounds_toArray, List.set_cons_zero, List.set_cons_succ]
        refine wpAnyH_ready (rs := [18]) (by kernel_rfl) (by simp) (AllReadyH.cons rfl (fun K hK => ?_) AllReadyH.nil)
        go_simp
        refine ((C2.out _)).mono ?_; rintro e wn ⟨rfl, hbn'⟩; have hbn'' := hbn'
        replace hbn : Below w1.heap.size w1 wn := up_trans (up_alloc hbn _) hbn'
        clear hbn'
        go_wp2_with fail
        refine hK.out _ _ (⟨HK.out _ hbn, hHeld.2.up hbn''⟩) (fun hHeld => ?_)
        clear hK K
        try simp only [Act.put, List.getElem_toArray, List.getElem_cons_zero, List.getElem_cons_succ, List.setIfInBounds_toArray, List.set_cons_zero, List.set_cons_succ]
        refine wpAnyH_take (i := 19) (v := ?_) rfl (by kernel_rfl) (by kernel_rfl) (by kernel_rfl) (fun _ _ _ h => h) (Or.inl ⟨by rfl, ?_⟩) (by assumption) ?_
        rotate_left
        · intro w hSw; (try dsimp only at hSw); go_simp; try with_reducible rfl
        try simp only [Act.put, List.getElem_toArray, List.getElem_cons_zero, List.getElem_cons_succ, List.setIfInBounds_toArray, List.set_cons_zero, List.set_cons_succ]
        refine wpAnyH_ready (rs := [23]) (by kernel_rfl) (by simp) (AllReadyH.cons rfl (fun K hK => ?_) AllReadyH.nil)
        go_simp
        refine ((C3.out _)).mono ?_; rintro e wn ⟨rfl, hbn'⟩; have hbn'' := hbn'
        replace hbn : Below w1.heap.size w1 wn := up_trans hbn hbn'
        clear hbn'
        go_wp2_with fail
        refine hK.out _ _ (⟨HK.out _ hbn, hHeld.2.up hbn''⟩) (fun hHeld => ?_)
        clear hK K
        try simp only [Act.put, List.getElem_toArray, List.getElem_cons_zero, List.getElem_cons_succ, List.setIfInBounds_toArray, List.set_cons_zero, List.set_cons_succ]
        refine wpAnyH_take (i := 24) (v := ?_) rfl (by kernel_rfl) (by kernel_rfl) (by kernel_rfl) (fun _ _ _ h => h) (Or.inl ⟨by rfl, ?_⟩) (by assumption) ?_
        rotate_left
        · intro w hSw; (try dsimp only at hSw); go_simp; try with_reducible rfl
        try simp only [Act.put, List.getElem_toArray, List.getElem_cons_zero, List.getElem_cons_succ, List.setIfInBounds_toArray, List.set_cons_zero, List.set_cons_succ]
        refine wpAnyH_ready (rs := [28]) (by kernel_rfl) (by simp) (AllReadyH.cons rfl (fun K hK => ?_) AllReadyH.nil)
        go_simp
        refine ((C4.out _)).mono ?_; rintro e wn ⟨rfl, hbn'⟩; have hbn'' := hbn'
        replace hbn : Below w1.heap.size w1 wn := up_trans hbn hbn'
        clear hbn'
        go_wp2_with fail
        refine hK.out _ _ (⟨HK.out _ hbn, hHeld.2.up hbn''⟩) (fun hHeld => ?_)
        clear hK K
        try simp only [Act.put, List.getElem_toArray, List.getElem_cons_zero, List.getElem_cons_succ, List.setIfInBounds_toArray, List.set_cons_zero, List.set_cons_succ]
        refine wpAnyH_take (i := 29) (v := ?_) rfl (by kernel_rfl) (by kernel_rfl) (by kernel_rfl) (fun _ _ _ h => h) (Or.inl ⟨by rfl, ?_⟩) (by assumption) ?_
        rotate_left
        · intro w hSw; (try dsimp only at hSw); go_simp; try with_reducible rfl
        try simp only [Act.put, List.getElem_toArray, List.getElem_cons_zero, List.getElem_cons_succ, List.setIfInBounds_toArray, List.set_cons_zero, List.set_cons_succ]
        refine wpAnyH_take (i := 30) (v := ?_) rfl (by kernel_rfl) (by kernel_rfl) (by kernel_rfl) (fun _ _ _ h => h) (Or.inl ⟨by rfl, ?_⟩) (by assumption) ?_
        rotate_left
        · intro w hSw; (try dsimp only at hSw); go_simp; try with_reducible rfl
        try simp only [Act.put, List.getElem_toArray, List.getElem_cons_zero, List.getElem_cons_succ, List.setIfInBounds_toArray, List.set_cons_zero, List.set_cons_succ]
        refine wpAnyH_take (i := 31) (v := ?_) rfl (by kernel_rfl) (by kernel_rfl) (by kernel_rfl) (fun _ _ _ h => h) (Or.inl ⟨by rfl, ?_⟩) (by assumption) ?_
        rotate_left
        · intro w hSw; (try dsimp only at hSw); go_simp; try with_reducible rfl
        try simp only [Act.put, List.getElem_toArray, List.getElem_cons_zero, List.getElem_cons_succ, List.setIfInBounds_toArray, List.set_cons_zero, List.set_cons_succ]
        refine wpAnyH_done (by kernel_rfl) ?_ _
        go_wp2_with fail
        go_ret2
        exact ⟨E.out, up_trans b1.out hbn⟩
      · skip
        go_simp
        refine ((C2.out _)).mono ?_; rintro e wn ⟨rfl, hbn'⟩; have hbn'' := hbn'
        replace hbn : Below w1.heap.size w1 wn := up_trans hbn hbn'
        clear hbn'
        go_wp2_with fail
        refine hK.out _ _ (HK.out _ hbn) (fun hHeld => ?_)
        clear hK K
        try simp only [Act.put, List.getElem_toArray, List.getElem_cons_zero, List.getElem_cons_succ, List.setIfInBounds_toArray, List.set_cons_zero, List.set_cons_succ]
        refine wpAnyH_ready (rs := [3, 23]) (by kernel_rfl) (by simp) (AllReadyH.cons rfl (fun K hK => ?_) (AllReadyH.cons rfl (fun K hK => ?_) AllReadyH.nil))
        · skip
          go_simp
          refine hK.out _ _ (HK.out _ (up_alloc hbn _)) (fun hHeld => ?_)
          clear hK K
          try simp only [Act.put, List.getElem_toArray, List.getElem_cons_zero, List.getElem_cons_succ, List.setIfInBounds_toArray, List.set_cons_zero, List.set_cons_succ]
          refine wpAnyH_turn (fun W => (W.cell? ⟨w.heap.size, 0, none⟩ = some (.int .u64 (s : Nat)) ∧ W.cell? ⟨w.heap.size, 1, none⟩ = some (.int .i64 (t : Nat)) ∧ W.cell? ⟨w.heap.size, 2, none⟩ = some (.int .i64 ((q : Nat) - 1 : Int)) ∧ W.cell? ⟨w.heap.size, 3, none⟩ = some (.int .i64 (k : Nat)) ∧ W.cell? ⟨w.heap.size, 4, none⟩ = some (.int .i64 (a : Nat)) ∧ W.cell? ⟨w.heap.size, 5, none⟩ = some (.int .i64 (b : Nat))) ∧ Has W wn.heap.size 5 (bys [c])) (fun _ h => h.1) ⟨HK.out _ (up_alloc hbn _), by first | exact Has.make _ 5 (bys [c]) | exact (Has.make _ 5 (bys [c])).drew⟩ (fun hHeld => ?_)
          refine wpAnyH_take (i := 4) (v := .string ⟨#[c]⟩) rfl (by kernel_rfl) (by kernel_rfl) (by kernel_rfl) (fun _ _ _ h => h) (Or.inl ⟨by rfl, by intro w hSw; have ht := has_text (n := 1) hSw.2 rfl; go_simp⟩) (by assumption) ?_
          try simp only [Act.put, List.getElem_toArray, List.getElem_cons_zero, List.getElem_cons_succ, List.setIfInBounds_toArray, List.set_cons_zero, List.set_cons_succ]
          refine wpAnyH_take (i := 8) (v := ?_) rfl (by kernel_rfl) (by kernel_rfl) (by kernel_rfl) (fun _ _ _ h => h) (Or.inl ⟨by rfl, ?_⟩) (by assumption) ?_
          rotate_left
          · intro w hSw; (try dsimp only at hSw); go_simp; try with_reducible rfl
          try simp only [Act.put, List.getElem_toArray, List.getElem_cons_zero, List.getElem_cons_succ, List.setIfInBounds_toArray, List.set_cons_zero, List.set_cons_succ]
          refine wpAnyH_take (i := 13) (v := ?_) rfl (by kernel_rfl) (by kernel_rfl) (by kernel_rfl) (fun _ _ _ h => h) (Or.inl ⟨by rfl, ?_⟩) (by assumption) ?_
          rotate_left
          · intro w hSw; (try dsimp only at hSw); go_simp; try with_reducible rfl
          try simp only [Act.put, List.getElem_toArray, List.getElem_cons_zero, List.getElem_cons_succ, List.setIfInBounds_toArray, List.set_cons_zero, List.set_cons_succ]
          refine wpAnyH_take (i := 19) (v := ?_) rfl (by kernel_rfl) (by kernel_rfl) (by kernel_rfl) (fun _ _ _ h => h) (Or.inl ⟨by rfl, ?_⟩) (by assumption) ?_
          rotate_left
          · intro w hSw; (try dsimp only at hSw); go_simp; try with_reducible rfl
          try simp only [Act.put, List.getElem_toArray, List.getElem_cons_zero, List.getElem_cons_succ, List.setIfInBounds_toArray, List.set_cons_zero, List.set_cons_succ]
          refine wpAnyH_ready (rs := [23]) (by kernel_rfl) (by simp) (AllReadyH.cons rfl (fun K hK => ?_) AllReadyH.nil)
          go_simp
          refine ((C3.out _)).mono ?_; rintro e wn ⟨rfl, hbn'⟩; have hbn'' := hbn'
          replace hbn : Below w1.heap.size w1 wn := up_trans (up_alloc hbn _) hbn'
          clear hbn'
          go_wp2_with fail
          refine hK.out _ _ (⟨HK.out _ hbn, hHeld.2.up hbn''⟩) (fun hHeld => ?_)
          clear hK K
          try simp only [Act.put, List.getElem_toArray, List.getElem_cons_zero, List.getElem_cons_succ, List.setIfInBounds_toArray, List.set_cons_zero, List.set_cons_succ]
          refine wpAnyH_take (i := 24) (v := ?_) rfl (by kernel_rfl) (by kernel_rfl) (by kernel_rfl) (fun _ _ _ h => h) (Or.inl ⟨by rfl, ?_⟩) (by assumption) ?_
          rotate_left
          · intro w hSw; (try dsimp only at hSw); go_simp; try with_reducible rfl
          try simp only [Act.put, List.getElem_toArray, List.getElem_cons_zero, List.getElem_cons_succ, List.setIfInBounds_toArray, List.set_cons_zero, List.set_cons_succ]
          refine wpAnyH_ready (rs := [28]) (by kernel_rfl) (by simp) (AllReadyH.cons rfl (fun K hK => ?_) AllReadyH.nil)
          go_simp
          refine ((C4.out _)).mono ?_; rintro e wn ⟨rfl, hbn'⟩; have hbn'' := hbn'
          replace hbn : Below w1.heap.size w1 wn := up_trans hbn hbn'
          clear hbn'
          go_wp2_with fail
          refine hK.out _ _ (⟨HK.out _ hbn, hHeld.2.up hbn''⟩) (fun hHeld => ?_)
          clear hK K
          try simp only [Act.put, List.getElem_toArray, List.getElem_cons_zero, List.getElem_cons_succ, List.setIfInBounds_toArray, List.set_cons_zero, List.set_cons_succ]
          refine wpAnyH_take (i := 29) (v := ?_) rfl (by kernel_rfl) (by kernel_rfl) (by kernel_rfl) (fun _ _ _ h => h) (Or.inl ⟨by rfl, ?_⟩) (by assumption) ?_
          rotate_left
          · intro w hSw; (try dsimp only at hSw); go_simp; try with_reducible rfl
          try simp only [Act.put, List.getElem_toArray, List.getElem_cons_zero, List.getElem_cons_succ, List.setIfInBounds_toArray, List.set_cons_zero, List.set_cons_succ]
          refine wpAnyH_take (i := 30) (v := ?_) rfl (by kernel_rfl) (by kernel_rfl) (by kernel_rfl) (fun _ _ _ h => h) (Or.inl ⟨by rfl, ?_⟩) (by assumption) ?_
          rotate_left
          · intro w hSw; (try dsimp only at hSw); go_simp; try with_reducible rfl
          try simp only [Act.put, List.getElem_toArray, List.getElem_cons_zero, List.getElem_cons_succ, List.setIfInBounds_toArray, List.set_cons_zero, List.set_cons_succ]
          refine wpAnyH_take (i := 31) (v := ?_) rfl (by kernel_rfl) (by kernel_rfl) (by kernel_rfl) (fun _ _ _ h => h) (Or.inl ⟨by rfl, ?_⟩) (by assumption) ?_
          rotate_left
          · intro w hSw; (try dsimp only at hSw); go_simp; try with_reducible rfl
          try simp only [Act.put, List.getElem_toArray, List.getElem_cons_zero, List.getElem_cons_succ, List.setIfInBounds_toArray, List.set_cons_zero, List.set_cons_succ]
          refine wpAnyH_done (by kernel_rfl) ?_ _
          go_wp2_with fail
          go_ret2
          exact ⟨E.out, up_trans b1.out hbn⟩
        · skip
          go_simp
          refine ((C3.out _)).mono ?_; rintro e wn ⟨rfl, hbn'⟩; have hbn'' := hbn'
          replace hbn : Below w1.heap.size w1 wn := up_trans hbn hbn'
          clear hbn'
          go_wp2_with fail
          refine hK.out _ _ (HK.out _ hbn) (fun hHeld => ?_)
          clear hK K
          try simp only [Act.put, List.getElem_toArray, List.getElem_cons_zero, List.getElem_cons_succ, List.setIfInBounds_toArray, List.set_cons_zero, List.set_cons_succ]
          refine wpAnyH_ready (rs := [3, 28]) (by kernel_rfl) (by simp) (AllReadyH.cons rfl (fun K hK => ?_) (AllReadyH.cons rfl (fun K hK => ?_) AllReadyH.nil))
          · skip
            go_simp
            refine hK.out _ _ (HK.out _ (up_alloc hbn _)) (fun hHeld => ?_)
            clear hK K
            try simp only [Act.put, List.getElem_toArray, List.getElem_cons_zero, List.getElem_cons_succ, List.setIfInBounds_toArray, List.set_cons_zero, List.set_cons_succ]
            refine wpAnyH_turn (fun W => (W.cell? ⟨w.heap.size, 0, none⟩ = some (.int .u64 (s : Nat)) ∧ W.cell? ⟨w.heap.size, 1, none⟩ = some (.int .i64 (t : Nat)) ∧ W.cell? ⟨w.heap.size, 2, none⟩ = some (.int .i64 ((q : Nat) - 1 : Int)) ∧ W.cell? ⟨w.heap.size, 3, none⟩ = some (.int .i64 (k : Nat)) ∧ W.cell? ⟨w.heap.size, 4, none⟩ = some (.int .i64 (a : Nat)) ∧ W.cell? ⟨w.heap.size, 5, none⟩ = some (.int .i64 (b : Nat))) ∧ Has W wn.heap.size 5 (bys [c])) (fun _ h => h.1) ⟨HK.out _ (up_alloc hbn _), by first | exact Has.make _ 5 (bys [c]) | exact (Has.make _ 5 (bys [c])).drew⟩ (fun hHeld => ?_)
            refine wpAnyH_take (i := 4) (v := .string ⟨#[c]⟩) rfl (by kernel_rfl) (by kernel_rfl) (by kernel_rfl) (fun _ _ _ h => h) (Or.inl ⟨by rfl, by intro w hSw; have ht := has_text (n := 1) hSw.2 rfl; go_simp⟩) (by assumption) ?_
            try simp only [Act.put, List.getElem_toArray, List.getElem_cons_zero, List.getElem_cons_succ, List.setIfInBounds_toArray, List.set_cons_zero, List.set_cons_succ]
            refine wpAnyH_take (i := 8) (v := ?_) rfl (by kernel_rfl) (by kernel_rfl) (by kernel_rfl) (fun _ _ _ h => h) (Or.inl ⟨by rfl, ?_⟩) (by assumption) ?_
            rotate_left
            · intro w hSw; (try dsimp only at hSw); go_simp; try with_reducible rfl
            try simp only [Act.put, List.getElem_toArray, List.getElem_cons_zero, List.getElem_cons_succ, List.setIfInBounds_toArray, List.set_cons_zero, List.set_cons_succ]
            refine wpAnyH_take (i := 13) (v := ?_) rfl (by kernel_rfl) (by kernel_rfl) (by kernel_rfl) (fun _ _ _ h => h) (Or.inl ⟨by rfl, ?_⟩) (by assumption) ?_
            rotate_left
            · intro w hSw; (try dsimp only at hSw); go_simp; try with_reducible rfl
            try simp only [Act.put, List.getElem_toArray, List.getElem_cons_zero, List.getElem_cons_succ, List.setIfInBounds_toArray, List.set_cons_zero, List.set_cons_succ]
            refine wpAnyH_take (i := 19) (v := ?_) rfl (by kernel_rfl) (by kernel_rfl) (by kernel_rfl) (fun _ _ _ h => h) (Or.inl ⟨by rfl, ?_⟩) (by assumption) ?_
            rotate_left
            · intro w hSw; (try dsimp only at hSw); go_simp; try with_reducible rfl
            try simp only [Act.put, List.getElem_toArray, List.getElem_cons_zero, List.getElem_cons_succ, List.setIfInBounds_toArray, List.set_cons_zero, List.set_cons_succ]
            refine wpAnyH_take (i := 24) (v := ?_) rfl (by kernel_rfl) (by kernel_rfl) (by kernel_rfl) (fun _ _ _ h => h) (Or.inl ⟨by rfl, ?_⟩) (by assumption) ?_
            rotate_left
            · intro w hSw; (try dsimp only at hSw); go_simp; try with_reducible rfl
            try simp only [Act.put, List.getElem_toArray, List.getElem_cons_zero, List.getElem_cons_succ, List.setIfInBounds_toArray, List.set_cons_zero, List.set_cons_succ]
            refine wpAnyH_ready (rs := [28]) (by kernel_rfl) (by simp) (AllReadyH.cons rfl (fun K hK => ?_) AllReadyH.nil)
            go_simp
            refine ((C4.out _)).mono ?_; rintro e wn ⟨rfl, hbn'⟩; have hbn'' := hbn'
            replace hbn : Below w1.heap.size w1 wn := up_trans (up_alloc hbn _) hbn'
            clear hbn'
            go_wp2_with fail
            refine hK.out _ _ (⟨HK.out _ hbn, hHeld.2.up hbn''⟩) (fun hHeld => ?_)
            clear hK K
            try simp only [Act.put, List.getElem_toArray, List.getElem_cons_zero, List.getElem_cons_succ, List.setIfInBounds_toArray, List.set_cons_zero, List.set_cons_succ]
            refine wpAnyH_take (i := 29) (v := ?_) rfl (by kernel_rfl) (by kernel_rfl) (by kernel_rfl) (fun _ _ _ h => h) (Or.inl ⟨by rfl, ?_⟩) (by assumption) ?_
            rotate_left
            · intro w hSw; (try dsimp only at hSw); go_simp; try with_reducible rfl
            try simp only [Act.put, List.getElem_toArray, List.getElem_cons_zero, List.getElem_cons_succ, List.setIfInBounds_toArray, List.set_cons_zero, List.set_cons_succ]
            refine wpAnyH_take (i := 30) (v := ?_) rfl (by kernel_rfl) (by kernel_rfl) (by kernel_rfl) (fun _ _ _ h => h) (Or.inl ⟨by rfl, ?_⟩) (by assumption) ?_
            rotate_left
            · intro w hSw; (try dsimp only at hSw); go_simp; try with_reducible rfl
            try simp only [Act.put, List.getElem_toArray, List.getElem_cons_zero, List.getElem_cons_succ, List.setIfInBounds_toArray, List.set_cons_zero, List.set_cons_succ]
            refine wpAnyH_take (i := 31) (v := ?_) rfl (by kernel_rfl) (by kernel_rfl) (by kernel_rfl) (fun _ _ _ h => h) (Or.inl ⟨by rfl, ?_⟩) (by assumption) ?_
            rotate_left
            · intro w hSw; (try dsimp only at hSw); go_simp; try with_reducible rfl
            try simp only [Act.put, List.getElem_toArray, List.getElem_cons_zero, List.getElem_cons_succ, List.setIfInBounds_toArray, List.set_cons_zero, List.set_cons_succ]
            refine wpAnyH_done (by kernel_rfl) ?_ _
            go_wp2_with fail
            go_ret2
            exact ⟨E.out, up_trans b1.out hbn⟩
          · skip
            go_simp
            refine ((C4.out _)).mono ?_; rintro e wn ⟨rfl, hbn'⟩; have hbn'' := hbn'
            replace hbn : Below w1.heap.size w1 wn := up_trans hbn hbn'
            clear hbn'
            go_wp2_with fail
            refine hK.out _ _ (HK.out _ hbn) (fun hHeld => ?_)
            clear hK K
            try simp only [Act.put, List.getElem_toArray, List.getElem_cons_zero, List.getElem_cons_succ, List.setIfInBounds_toArray, List.set_cons_zero, List.set_cons_succ]
            refine wpAnyH_ready (rs := [3]) (by kernel_rfl) (by simp) (AllReadyH.cons rfl (fun K hK => ?_) AllReadyH.nil)
            go_simp
            refine hK.out _ _ (HK.out _ (up_alloc hbn _)) (fun hHeld => ?_)
            clear hK K
            try simp only [Act.put, List.getElem_toArray, List.getElem_cons_zero, List.getElem_cons_succ, List.setIfInBounds_toArray, List.set_cons_zero, List.set_cons_succ]
            refine wpAnyH_turn (fun W => (W.cell? ⟨w.heap.size, 0, none⟩ = some (.int .u64 (s : Nat)) ∧ W.cell? ⟨w.heap.size, 1, none⟩ = some (.int .i64 (t : Nat)) ∧ W.cell? ⟨w.heap.size, 2, none⟩ = some (.int .i64 ((q : Nat) - 1 : Int)) ∧ W.cell? ⟨w.heap.size, 3, none⟩ = some (.int .i64 (k : Nat)) ∧ W.cell? ⟨w.heap.size, 4, none⟩ = some (.int .i64 (a : Nat)) ∧ W.cell? ⟨w.heap.size, 5, none⟩ = some (.int .i64 (b : Nat))) ∧ Has W wn.heap.size 5 (bys [c])) (fun _ h => h.1) ⟨HK.out _ (up_alloc hbn _), by first | exact Has.make _ 5 (bys [c]) | exact (Has.make _ 5 (bys [c])).drew⟩ (fun hHeld => ?_)
            refine wpAnyH_take (i := 4) (v := .string ⟨#[c]⟩) rfl (by kernel_rfl) (by kernel_rfl) (by kernel_rfl) (fun _ _ _ h => h) (Or.inl ⟨by rfl, by intro w hSw; have ht := has_text (n := 1) hSw.2 rfl; go_simp⟩) (by assumption) ?_
            try simp only [Act.put, List.getElem_toArray, List.getElem_cons_zero, List.getElem_cons_succ, List.setIfInBounds_toArray, List.set_cons_zero, List.set_cons_succ]
            refine wpAnyH_take (i := 8) (v := ?_) rfl (by kernel_rfl) (by kernel_rfl) (by kernel_rfl) (fun _ _ _ h => h) (Or.inl ⟨by rfl, ?_⟩) (by assumption) ?_
            rotate_left
            · intro w hSw; (try dsimp only at hSw); go_simp; try with_reducible rfl
            try simp only [Act.put, List.getElem_toArray, List.getElem_cons_zero, List.getElem_cons_succ, List.setIfInBounds_toArray, List.set_cons_zero, List.set_cons_succ]
            refine wpAnyH_take (i := 13) (v := ?_) rfl (by kernel_rfl) (by kernel_rfl) (by kernel_rfl) (fun _ _ _ h => h) (Or.inl ⟨by rfl, ?_⟩) (by assumption) ?_
            rotate_left
            · intro w hSw; (try dsimp only at hSw); go_simp; try with_reducible rfl
            try simp only [Act.put, List.getElem_toArray, List.getElem_cons_zero, List.getElem_cons_succ, List.setIfInBounds_toArray, List.set_cons_zero, List.set_cons_succ]
            refine wpAnyH_take (i := 19) (v := ?_) rfl (by kernel_rfl) (by kernel_rfl) (by kernel_rfl) (fun _ _ _ h => h) (Or.inl ⟨by rfl, ?_⟩) (by assumption) ?_
            rotate_left
            · intro w hSw; (try dsimp only at hSw); go_simp; try with_reducible rfl
            try simp only [Act.put, List.getElem_toArray, List.getElem_cons_zero, List.getElem_cons_succ, List.setIfInBounds_toArray, List.set_cons_zero, List.set_cons_succ]
            refine wpAnyH_take (i := 24) (v := ?_) rfl (by kernel_rfl) (by kernel_rfl) (by kernel_rfl) (fun _ _ _ h => h) (Or.inl ⟨by rfl, ?_⟩) (by assumption) ?_
            rotate_left
            · intro w hSw; (try dsimp only at hSw); go_simp; try with_reducible rfl
            try simp only [Act.put, List.getElem_toArray, List.getElem_cons_zero, List.getElem_cons_succ, List.setIfInBounds_toArray, List.set_cons_zero, List.set_cons_succ]
            refine wpAnyH_take (i := 29) (v := ?_) rfl (by kernel_rfl) (by kernel_rfl) (by kernel_rfl) (fun _ _ _ h => h) (Or.inl ⟨by rfl, ?_⟩) (by assumption) ?_
            rotate_left
            · intro w hSw; (try dsimp only at hSw); go_simp; try with_reducible rfl
            try simp only [Act.put, List.getElem_toArray, List.getElem_cons_zero, List.getElem_cons_succ, List.setIfInBounds_toArray, List.set_cons_zero, List.set_cons_succ]
            refine wpAnyH_take (i := 30) (v := ?_) rfl (by kernel_rfl) (by kernel_rfl) (by kernel_rfl) (fun _ _ _ h => h) (Or.inl ⟨by rfl, ?_⟩) (by assumption) ?_
            rotate_left
            · intro w hSw; (try dsimp only at hSw); go_simp; try with_reducible rfl
            try simp only [Act.put, List.getElem_toArray, List.getElem_cons_zero, List.getElem_cons_succ, List.setIfInBounds_toArray, List.set_cons_zero, List.set_cons_succ]
            refine wpAnyH_take (i := 31) (v := ?_) rfl (by kernel_rfl) (by kernel_rfl) (by kernel_rfl) (fun _ _ _ h => h) (Or.inl ⟨by rfl, ?_⟩) (by assumption) ?_
            rotate_left
            · intro w hSw; (try dsimp only at hSw); go_simp; try with_reducible rfl
            try simp only [Act.put, List.getElem_toArray, List.getElem_cons_zero, List.getElem_cons_succ, List.setIfInBounds_toArray, List.set_cons_zero, List.set_cons_succ]
            refine wpAnyH_done (by kernel_rfl) ?_ _
            go_wp2_with fail
            go_ret2
            exact ⟨E.out, up_trans b1.out (up_alloc hbn _)⟩

/-- The texts of the numbers so far. -/
def cat4 (s0 y0 y1 y2 y3 : ByteArray) : Nat → ByteArray
  | 0 => s0
  | 1 => s0 ++ y0
  | 2 => s0 ++ y0 ++ y1
  | 3 => s0 ++ y0 ++ y1 ++ y2
  | _ => s0 ++ y0 ++ y1 ++ y2 ++ y3
def at4 {α : Type} (y0 y1 y2 y3 : α) : Nat → α
  | 0 => y0
  | 1 => y1
  | 2 => y2
  | _ => y3
theorem cat4_next (s0 y0 y1 y2 y3 : ByteArray) {k : Nat} (h : k < 4) : cat4 s0 y0 y1 y2 y3 (k + 1) = cat4 s0 y0 y1 y2 y3 k ++ at4 y0 y1 y2 y3 k := by
  match k, h with
  | 0, _ => rfl
  | 1, _ => rfl
  | 2, _ => rfl
  | 3, _ => rfl
theorem cat4_size {s0 y0 y1 y2 y3 : ByteArray} (h : s0.size ≤ 20) (h0 : y0.size ≤ 10) (h1 : y1.size ≤ 10) (h2 : y2.size ≤ 10) (h3 : y3.size ≤ 10) {k : Nat} (hk : k < 4) : (cat4 s0 y0 y1 y2 y3 k).size + (at4 y0 y1 y2 y3 k).size ≤ 60 := by
  match k, hk with
  | 0, _ => simp only [cat4, at4]; omega
  | 1, _ => simp only [cat4, at4, ByteArray.size_append]; omega
  | 2, _ => simp only [cat4, at4, ByteArray.size_append]; omega
  | 3, _ => simp only [cat4, at4, ByteArray.size_append]; omega

set_option maxHeartbeats 20000000 in
set_option maxRecDepth 100000 in
theorem eput_yes (s t q k a b : Nat) (hs : s < 18446744073709551616) (ht : t ≤ 1099511627776) (hq : q ≤ 32) (k1 : 1 ≤ k) (k8 : k ≤ 8) (ha : a ≤ 4294967295) (hb : b ≤ 4294967295) (w : World) :
    Calls Tryd.prog 61 #[.agg #[.int .u64 (s : Nat), .int .i64 (t : Nat), .int .i64 ((q : Nat) - 1 : Int), .int .i64 (k : Nat), .int .i64 (a : Nat), .int .i64 (b : Nat)]] w fun e w' => e = .returned (.tuple #[.string ⟨(putN s t q k a b).toArray⟩, .int .i64 0]) ∧ Below w.heap.size w w' := by
  have hi : isE (t : Nat) ((q : Nat) - 1 : Int) (k : Nat) (a : Nat) (b : Nat) = true := isE_yes.2 ⟨by omega, by omega, by omega, by omega, by omega, by omega, by omega, by omega, by omega, by omega⟩
  have i1 := fun w => is_any s t ((q : Nat) - 1 : Int) k a b w
  rw [hi] at i1
  have I1 := Lib.hid i1
  have C0 := Lib.hid (fun w => put_tx s hs w)
  have C1 := Lib.hid (fun w => put_tx t (by omega) w)
  have C2 := Lib.hid (fun w => put_tx q (by omega) w)
  have C3 := Lib.hid (fun w => put_tx a (by omega) w)
  have C4 := Lib.hid (fun w => put_tx b (by omega) w)
  have z0 := tx_size hs
  have z1 := tx_size (n := t) (by omega)
  have z2 := tx_size (n := q) (by omega)
  have z3 := tx_size (n := a) (by omega)
  have z4 := tx_size (n := b) (by omega)
  have hc : IntKind.u8.wrap (k : Int) = (((UInt8.ofNat k).toNat : Nat) : Int) := by rw [ofNat_toNat _ (by omega), IntKind.wrap_u8]; omega
  have v1 : IntKind.u64.wrap (t : Int) = (t : Int) := by rw [IntKind.wrap_u64]; omega
  have v2 : IntKind.i64.wrap (q : Int) = (q : Int) := IntWalk.i64_in _ (by omega)
  have v3 : IntKind.u64.wrap (q : Int) = (q : Int) := by rw [IntKind.wrap_u64]; omega
  have v4 : IntKind.u64.wrap (a : Int) = (a : Int) := by rw [IntKind.wrap_u64]; omega
  have v5 : IntKind.u64.wrap (b : Int) = (b : Int) := by rw [IntKind.wrap_u64]; omega
  have E : Hid (Ending.returned (.tuple #[.string ((((((⟨#[UInt8.ofNat k]⟩ : ByteArray) ++ tx s) ++ tx t) ++ tx q) ++ tx a) ++ tx b), .int .i64 0]) = .returned (.tuple #[.string ⟨(putN s t q k a b).toArray⟩, .int .i64 0])) := Lib.hid (by rw [cat_tx]; rfl)
  clear i1 hi
  generalize UInt8.ofNat k = c at *
  generalize tx s = x0 at *
  generalize tx t = x1 at *
  generalize tx q = x2 at *
  generalize tx a = x3 at *
  generalize tx b = x4 at *
  have y0 : ¬ 9223372036854775807 < 1 + x0.size := by omega
  have zs : ((⟨#[c]⟩ : ByteArray) ++ x0).size ≤ 20 := by rw [ByteArray.size_append]; show 1 + x0.size ≤ 20; omega
  have HZ := Lib.hid (fun k (h : k < 4) => cat4_size zs z1 z2 z3 z4 (k := k) h)
  have HN := Lib.hid (fun k (h : k < 4) => cat4_next (⟨#[c]⟩ ++ x0) x1 x2 x3 x4 (k := k) h)
  have HE := Lib.hid (show cat4 ((⟨#[c]⟩ : ByteArray) ++ x0) x1 x2 x3 x4 4 = ⟨#[c]⟩ ++ x0 ++ x1 ++ x2 ++ x3 ++ x4 from rfl)
  have H0 := Lib.hid (show cat4 ((⟨#[c]⟩ : ByteArray) ++ x0) x1 x2 x3 x4 0 = ⟨#[c]⟩ ++ x0 from rfl)
  have CC := Lib.hid (show ∀ k, k < 4 → at4 t q a b k < 18446744073709551616 ∧ ∀ w, Calls Tryd.prog 60 #[.int .u64 (at4 t q a b k : Nat)] w fun e w' => e = .returned (.string (at4 x1 x2 x3 x4 k)) ∧ Below w.heap.size w w' from fun k hk => by
    match k, hk with
    | 0, _ => exact ⟨show t < _ by omega, C1.out⟩
    | 1, _ => exact ⟨show q < _ by omega, C2.out⟩
    | 2, _ => exact ⟨show a < _ by omega, C3.out⟩
    | 3, _ => exact ⟨show b < _ by omega, C4.out⟩)
  have HV := Lib.hid (show ∀ k, k < 4 → [Value.int .i64 (t : Nat), .int .i64 (q : Nat), .int .i64 (a : Nat), .int .i64 (b : Nat)][k]? = some (.int .i64 (at4 t q a b k : Nat)) from fun k hk => by
    match k, hk with
    | 0, _ => rfl
    | 1, _ => rfl
    | 2, _ => rfl
    | 3, _ => rfl)
  clear zs C1 C2 C3 C4 v1 v3 v4 v5
  clear z0 z1 z2 z3 z4
  go_enter Tryd.func61, Tryd.ntmps61
  go_wp2_with fail
  refine (I1.out _).mono ?_; rintro e w1 ⟨rfl, b1'⟩
  have HA : Has w1 w.heap.size 47 [.int .u64 (s : Nat), .int .i64 (t : Nat), .int .i64 ((q : Nat) - 1 : Int), .int .i64 (k : Nat), .int .i64 (a : Nat), .int .i64 (b : Nat)] := (Has.make w _ _).up b1'
  have HK := Lib.hid (show ∀ W, Below w1.heap.size w1 W → W.cell? ⟨w.heap.size, 0, none⟩ = some (.int .u64 (s : Nat)) ∧ W.cell? ⟨w.heap.size, 1, none⟩ = some (.int .i64 (t : Nat)) ∧ W.cell? ⟨w.heap.size, 2, none⟩ = some (.int .i64 ((q : Nat) - 1 : Int)) ∧ W.cell? ⟨w.heap.size, 3, none⟩ = some (.int .i64 (k : Nat)) ∧ W.cell? ⟨w.heap.size, 4, none⟩ = some (.int .i64 (a : Nat)) ∧ W.cell? ⟨w.heap.size, 5, none⟩ = some (.int .i64 (b : Nat)) from fun W h => ⟨(HA.up h).at rfl, (HA.up h).at rfl, (HA.up h).at rfl, (HA.up h).at rfl, (HA.up h).at rfl, (HA.up h).at rfl⟩)
  have b1 : Below w.heap.size w w1 := up_trans (up_alloc (Below.refl _ _) _) b1'
  clear b1' HA
  replace b1 := Lib.hid b1
  go_upto_region 3 with fail
  go_cut [4] (fun v wx => v = .string ((⟨#[c]⟩ : ByteArray) ++ x0) ∧ Below w1.heap.size w1 wx)
  case first =>
    refine wp_region_held_drew (S := fun W => W.cell? ⟨w.heap.size, 0, none⟩ = some (.int .u64 (s : Nat)) ∧ W.cell? ⟨w.heap.size, 1, none⟩ = some (.int .i64 (t : Nat)) ∧ W.cell? ⟨w.heap.size, 2, none⟩ = some (.int .i64 ((q : Nat) - 1 : Int)) ∧ W.cell? ⟨w.heap.size, 3, none⟩ = some (.int .i64 (k : Nat)) ∧ W.cell? ⟨w.heap.size, 4, none⟩ = some (.int .i64 (a : Nat)) ∧ W.cell? ⟨w.heap.size, 5, none⟩ = some (.int .i64 (b : Nat))) (by kernel_rfl) (HK.out _ (Below.refl _ _).drew) (fun hHeld => ?_)
    refine wpAnyH_take (i := 0) (v := ?_) rfl (by kernel_rfl) (by kernel_rfl) (by kernel_rfl) (fun _ _ _ h => h) (Or.inl ⟨by rfl, ?_⟩) (by assumption) ?_
    rotate_left
    · intro w hSw; (try dsimp only at hSw); go_simp; try with_reducible rfl
    try simp only [Act.put, List.getElem_toArray, List.getElem_cons_zero, List.setIfInBounds_toArray, List.set_cons_zero, List.set_cons_succ]
    refine wpAnyH_take (i := 1) (v := ?_) rfl (by kernel_rfl) (by kernel_rfl) (by kernel_rfl) (fun _ _ _ h => h) (Or.inl ⟨by rfl, ?_⟩) (by assumption) ?_
    rotate_left
    · intro w hSw; (try dsimp only at hSw); go_simp; try with_reducible rfl
    try simp only [Act.put, List.getElem_toArray, List.getElem_cons_zero, List.getElem_cons_succ, List.setIfInBounds_toArray, List.set_cons_zero, List.set_cons_succ]
    refine wpAnyH_take (i := 2) (v := ?_) rfl (by kernel_rfl) (by kernel_rfl) (by kernel_rfl) (fun _ _ _ h => h) (Or.inl ⟨by rfl, ?_⟩) (by assumption) ?_
    rotate_left
    · intro w hSw; (try dsimp only at hSw); go_simp; try with_reducible rfl
    try simp only [Act.put, List.getElem_toArray, List.getElem_cons_zero, List.getElem_cons_succ, List.setIfInBounds_toArray, List.set_cons_zero, List.set_cons_succ]
    refine wpAnyH_take (i := 5) (v := ?_) rfl (by kernel_rfl) (by kernel_rfl) (by kernel_rfl) (fun _ _ _ h => h) (Or.inl ⟨by rfl, ?_⟩) (by assumption) ?_
    rotate_left
    · intro w hSw; (try dsimp only at hSw); go_simp; try with_reducible rfl
    try simp only [Act.put, List.getElem_toArray, List.getElem_cons_zero, List.getElem_cons_succ, List.setIfInBounds_toArray, List.set_cons_zero, List.set_cons_succ]
    refine wpAnyH_take (i := 6) (v := ?_) rfl (by kernel_rfl) (by kernel_rfl) (by kernel_rfl) (fun _ _ _ h => h) (Or.inl ⟨by rfl, ?_⟩) (by assumption) ?_
    rotate_left
    · intro w hSw; (try dsimp only at hSw); go_simp; try with_reducible rfl
    try simp only [Act.put, List.getElem_toArray, List.getElem_cons_zero, List.getElem_cons_succ, List.setIfInBounds_toArray, List.set_cons_zero, List.set_cons_succ]
    refine wpAnyH_ready (rs := [3, 7]) (by kernel_rfl) (by simp) (AllReadyH.cons rfl (fun K hK => ?_) (AllReadyH.cons rfl (fun K hK => ?_) AllReadyH.nil))
    · skip
      go_simp
      refine hK.out _ _ (HK.out _ (up_alloc (Below.refl _ _).drew _)) (fun hHeld => ?_)
      clear hK K
      try simp only [Act.put, List.getElem_toArray, List.getElem_cons_zero, List.getElem_cons_succ, List.setIfInBounds_toArray, List.set_cons_zero, List.set_cons_succ]
      refine wpAnyH_turn (fun W => (W.cell? ⟨w.heap.size, 0, none⟩ = some (.int .u64 (s : Nat)) ∧ W.cell? ⟨w.heap.size, 1, none⟩ = some (.int .i64 (t : Nat)) ∧ W.cell? ⟨w.heap.size, 2, none⟩ = some (.int .i64 ((q : Nat) - 1 : Int)) ∧ W.cell? ⟨w.heap.size, 3, none⟩ = some (.int .i64 (k : Nat)) ∧ W.cell? ⟨w.heap.size, 4, none⟩ = some (.int .i64 (a : Nat)) ∧ W.cell? ⟨w.heap.size, 5, none⟩ = some (.int .i64 (b : Nat))) ∧ Has W w1.heap.size 5 (bys [c])) (fun _ h => h.1) ⟨HK.out _ (up_alloc (Below.refl _ _).drew _), by first | exact Has.make _ 5 (bys [c]) | exact (Has.make _ 5 (bys [c])).drew⟩ (fun hHeld => ?_)
      refine wpAnyH_take (i := 4) (v := .string ⟨#[c]⟩) rfl (by kernel_rfl) (by kernel_rfl) (by kernel_rfl) (fun _ _ _ h => h) (Or.inl ⟨by rfl, by intro w hSw; have ht := has_text (n := 1) hSw.2 rfl; go_simp⟩) (by assumption) ?_
      try simp only [Act.put, List.getElem_toArray, List.getElem_cons_zero, List.getElem_cons_succ, List.setIfInBounds_toArray, List.set_cons_zero, List.set_cons_succ]
      refine wpAnyH_ready (rs := [7]) (by kernel_rfl) (by simp) (AllReadyH.cons rfl (fun K hK => ?_) AllReadyH.nil)
      go_simp
      refine ((C0.out _)).mono ?_; rintro e wn ⟨rfl, hbn'⟩; have hbn'' := hbn'
      replace hbn : Below w1.heap.size w1 wn := up_trans (up_alloc (Below.refl _ _).drew _) hbn'
      clear hbn'
      go_wp2_with fail
      refine hK.out _ _ (⟨HK.out _ hbn, hHeld.2.up hbn''⟩) (fun hHeld => ?_)
      clear hK K
      try simp only [Act.put, List.getElem_toArray, List.getElem_cons_zero, List.getElem_cons_succ, List.setIfInBounds_toArray, List.set_cons_zero, List.set_cons_succ]
      refine wpAnyH_take (i := 8) (v := ?_) rfl (by kernel_rfl) (by kernel_rfl) (by kernel_rfl) (fun _ _ _ h => h) (Or.inl ⟨by rfl, ?_⟩) (by assumption) ?_
      rotate_left
      · intro w hSw; (try dsimp only at hSw); go_simp; try with_reducible rfl
      try simp only [Act.put, List.getElem_toArray, List.getElem_cons_zero, List.getElem_cons_succ, List.setIfInBounds_toArray, List.set_cons_zero, List.set_cons_succ]
      refine wpAnyH_take (i := 9) (v := ?_) rfl (by kernel_rfl) (by kernel_rfl) (by kernel_rfl) (fun _ _ _ h => h) (Or.inl ⟨by rfl, ?_⟩) (by assumption) ?_
      rotate_left
      · intro w hSw; (try dsimp only at hSw); go_simp; try with_reducible rfl
      try simp only [Act.put, List.getElem_toArray, List.getElem_cons_zero, List.getElem_cons_succ, List.setIfInBounds_toArray, List.set_cons_zero, List.set_cons_succ]
      refine wpAnyH_done (by kernel_rfl) ?_ _
      go_wp2_with fail
      go_meet
      exact ⟨rfl, hbn⟩
    · skip
      go_simp
      refine ((C0.out _)).mono ?_; rintro e wn ⟨rfl, hbn'⟩; have hbn'' := hbn'
      have hbn : Below w1.heap.size w1 wn := up_trans (Below.refl _ _).drew hbn'
      clear hbn'
      go_wp2_with fail
      refine hK.out _ _ (HK.out _ hbn) (fun hHeld => ?_)
      clear hK K
      try simp only [Act.put, List.getElem_toArray, List.getElem_cons_zero, List.getElem_cons_succ, List.setIfInBounds_toArray, List.set_cons_zero, List.set_cons_succ]
      refine wpAnyH_ready (rs := [3]) (by kernel_rfl) (by simp) (AllReadyH.cons rfl (fun K hK => ?_) AllReadyH.nil)
      go_simp
      refine hK.out _ _ (HK.out _ (up_alloc hbn _)) (fun hHeld => ?_)
      clear hK K
      try simp only [Act.put, List.getElem_toArray, List.getElem_cons_zero, List.getElem_cons_succ, List.setIfInBounds_toArray, List.set_cons_zero, List.set_cons_succ]
      refine wpAnyH_turn (fun W => (W.cell? ⟨w.heap.size, 0, none⟩ = some (.int .u64 (s : Nat)) ∧ W.cell? ⟨w.heap.size, 1, none⟩ = some (.int .i64 (t : Nat)) ∧ W.cell? ⟨w.heap.size, 2, none⟩ = some (.int .i64 ((q : Nat) - 1 : Int)) ∧ W.cell? ⟨w.heap.size, 3, none⟩ = some (.int .i64 (k : Nat)) ∧ W.cell? ⟨w.heap.size, 4, none⟩ = some (.int .i64 (a : Nat)) ∧ W.cell? ⟨w.heap.size, 5, none⟩ = some (.int .i64 (b : Nat))) ∧ Has W wn.heap.size 5 (bys [c])) (fun _ h => h.1) ⟨HK.out _ (up_alloc hbn _), by first | exact Has.make _ 5 (bys [c]) | exact (Has.make _ 5 (bys [c])).drew⟩ (fun hHeld => ?_)
      refine wpAnyH_take (i := 4) (v := .string ⟨#[c]⟩) rfl (by kernel_rfl) (by kernel_rfl) (by kernel_rfl) (fun _ _ _ h => h) (Or.inl ⟨by rfl, by intro w hSw; have ht := has_text (n := 1) hSw.2 rfl; go_simp⟩) (by assumption) ?_
      try simp only [Act.put, List.getElem_toArray, List.getElem_cons_zero, List.getElem_cons_succ, List.setIfInBounds_toArray, List.set_cons_zero, List.set_cons_succ]
      refine wpAnyH_take (i := 8) (v := ?_) rfl (by kernel_rfl) (by kernel_rfl) (by kernel_rfl) (fun _ _ _ h => h) (Or.inl ⟨by rfl, ?_⟩) (by assumption) ?_
      rotate_left
      · intro w hSw; (try dsimp only at hSw); go_simp; try with_reducible rfl
      try simp only [Act.put, List.getElem_toArray, List.getElem_cons_zero, List.getElem_cons_succ, List.setIfInBounds_toArray, List.set_cons_zero, List.set_cons_succ]
      refine wpAnyH_take (i := 9) (v := ?_) rfl (by kernel_rfl) (by kernel_rfl) (by kernel_rfl) (fun _ _ _ h => h) (Or.inl ⟨by rfl, ?_⟩) (by assumption) ?_
      rotate_left
      · intro w hSw; (try dsimp only at hSw); go_simp; try with_reducible rfl
      try simp only [Act.put, List.getElem_toArray, List.getElem_cons_zero, List.getElem_cons_succ, List.setIfInBounds_toArray, List.set_cons_zero, List.set_cons_succ]
      refine wpAnyH_done (by kernel_rfl) ?_ _
      go_wp2_with fail
      go_meet
      exact ⟨rfl, (up_alloc hbn _)⟩

  case rest =>
    obtain ⟨rfl, b2⟩ := hcut
    obtain ⟨g0, g1, g2, g3, g4, g5⟩ := HK.out _ b2
    clear g0 g3
    replace b2 := Lib.hid (up_trans b1.out b2)
    clear HK b1
    go_wp2_with fail
    have hA0 : Has (wc.alloc (Obj.cells #[Value.int .i64 (t : Nat), Value.int .i64 (q : Nat), Value.int .i64 (a : Nat), Value.int .i64 (b : Nat)] 3)) wc.heap.size 3 [.int .i64 (t : Nat), .int .i64 (q : Nat), .int .i64 (a : Nat), .int .i64 (b : Nat)] := Has.make wc _ _
    have hA1 := Lib.hid hA0
    clear hA0 g1 g2 g4 g5
    go_loopw [4, 30] (fun v i wr => ∃ n : Nat, n ≤ 4 ∧ i = .int .i64 n ∧ v = .string (cat4 ((⟨#[c]⟩ : ByteArray) ++ x0) x1 x2 x3 x4 n) ∧ Hid (Has wr wc.heap.size 3 [.int .i64 (t : Nat), .int .i64 (q : Nat), .int .i64 (a : Nat), .int .i64 (b : Nat)]) ∧ Hid (Below w.heap.size w wr)) (fun _ i _ => 4 - (intOf i).toNat)
    case atStart => exact ⟨0, by omega, rfl, by rw [H0.out], hA1, Lib.hid (up_alloc b2.out _)⟩
    case round =>
      obtain ⟨n, hn, rfl, rfl, hA, hB⟩ := hrel
      clear hA1 b2
      by_cases hlt : n < 4
      · have hlt' : (n : Int) < 4 := by omega
        have hcell : wr.cell? ⟨wc.heap.size, n, none⟩ = some (.int .i64 (at4 t q a b n : Nat)) := hA.out.at (HV.out n hlt)
        have hz := HZ.out n hlt
        have hz' : ¬ 9223372036854775807 < (cat4 ((⟨#[c]⟩ : ByteArray) ++ x0) x1 x2 x3 x4 n).size + (at4 x1 x2 x3 x4 n).size := by omega
        have HX := Lib.hid (HN.out n hlt)
        obtain ⟨hv, cc⟩ := CC.out n hlt
        have CK := Lib.hid cc
        have hv' : IntKind.u64.wrap (at4 t q a b n : Nat) = ((at4 t q a b n : Nat) : Int) := by rw [IntKind.wrap_u64]; omega
        clear cc hz
        generalize cat4 ((⟨#[c]⟩ : ByteArray) ++ x0) x1 x2 x3 x4 n = s0 at *
        generalize at4 x1 x2 x3 x4 n = y at *
        generalize at4 t q a b n = m at *
        go_wp2_with fail
        refine (CK.out _).mono ?_; rintro e wn ⟨rfl, b3⟩
        go_wp2_with fail
        go_roundw
        case rel => exact ⟨n + 1, by omega, by go_num, by rw [HX.out], Lib.hid (hA.out.up b3), Lib.hid (up_trans hB.out b3)⟩
        case measure => simp [intOf]; omega
      · obtain rfl : n = 4 := by omega
        go_wp2_with fail
        go_ret2
        exact ⟨by rw [HE.out]; exact E.out, hB.out⟩

/-- An event's bytes, and the error. -/
def putR (s : Nat) (t p k a b : Int) : List UInt8 × Nat := if isE t p k a b then (putE s t p k a b, 0) else ([], 1)
theorem putR_yes {s : Nat} {t p k a b : Int} (h : isE t p k a b = true) : putR s t p k a b = (putE s t p k a b, 0) := by rw [putR, if_pos h]
theorem putR_no {s : Nat} {t p k a b : Int} (h : isE t p k a b = false) : putR s t p k a b = ([], 1) := by rw [putR, if_neg (by rw [h]; simp)]

set_option maxRecDepth 100000 in
theorem eput_any (s : Nat) (t p k a b : Int) (hs : s < 18446744073709551616) (w : World) :
    Calls Tryd.prog 61 #[.agg #[.int .u64 (s : Nat), .int .i64 t, .int .i64 p, .int .i64 k, .int .i64 a, .int .i64 b]] w fun e w' => e = .returned (.tuple #[.string ⟨(putR s t p k a b).1.toArray⟩, .int .i64 ((putR s t p k a b).2 : Nat)]) ∧ Below w.heap.size w w' := by
  cases d : isE t p k a b with
  | false =>
    have i1 := fun w => is_any s t p k a b w
    rw [d] at i1
    have I1 := Lib.hid i1
    have R := Lib.hid (putR_no (s := s) d)
    clear i1 d
    go_enter Tryd.func61, Tryd.ntmps61
    go_wp2_with fail
    refine (I1.out _).mono ?_; rintro e w1 ⟨rfl, b1⟩
    go_wp2_with fail
    go_ret2
    exact ⟨by rw [R.out]; rfl, up_trans (up_alloc (Below.refl _ _) _) b1⟩
  | true =>
    have h := isE_yes.1 d
    obtain ⟨k1, k8, t0, t1, p0, p1, a0, a1, b0, b1⟩ := h
    rw [putR_yes d]
    obtain ⟨T, rfl⟩ : ∃ T : Nat, t = T := ⟨t.toNat, by omega⟩
    obtain ⟨Q, rfl⟩ : ∃ Q : Nat, p = (Q : Int) - 1 := ⟨(p + 1).toNat, by omega⟩
    obtain ⟨K, rfl⟩ : ∃ K : Nat, k = K := ⟨k.toNat, by omega⟩
    obtain ⟨A, rfl⟩ : ∃ A : Nat, a = A := ⟨a.toNat, by omega⟩
    obtain ⟨B, rfl⟩ : ∃ B : Nat, b = B := ⟨b.toNat, by omega⟩
    rw [putE_eq]
    exact eput_yes s T Q K A B hs (by omega) (by omega) (by omega) (by omega) (by omega) (by omega) w

set_option maxRecDepth 100000 in
theorem ereput_any (s : Nat) (t p k a b : Int) (hs : s < 18446744073709551616) (w : World) :
    Calls Tryd.prog 43 #[.agg #[.int .u64 (s : Nat), .int .i64 t, .int .i64 p, .int .i64 k, .int .i64 a, .int .i64 b]] w fun e w' => e = .returned (.tuple #[.string ⟨(putR s t p k a b).1.toArray⟩, .int .i64 ((putR s t p k a b).2 : Nat)]) ∧ Below w.heap.size w w' := by
  cases d : isE t p k a b with
  | false =>
    have i1 := fun w => ris_any s t p k a b w
    rw [d] at i1
    have I1 := Lib.hid i1
    have R := Lib.hid (putR_no (s := s) d)
    clear i1 d
    go_enter Tryd.func43, Tryd.ntmps43
    go_wp2_with fail
    refine (I1.out _).mono ?_; rintro e w1 ⟨rfl, b1⟩
    go_wp2_with fail
    go_ret2
    exact ⟨by rw [R.out]; rfl, up_trans (up_alloc (Below.refl _ _) _) b1⟩
  | true =>
    have h := isE_yes.1 d
    obtain ⟨k1, k8, t0, t1, p0, p1, a0, a1, b0, b1⟩ := h
    rw [putR_yes d]
    obtain ⟨T, rfl⟩ : ∃ T : Nat, t = T := ⟨t.toNat, by omega⟩
    obtain ⟨Q, rfl⟩ : ∃ Q : Nat, p = (Q : Int) - 1 := ⟨(p + 1).toNat, by omega⟩
    obtain ⟨K, rfl⟩ : ∃ K : Nat, k = K := ⟨k.toNat, by omega⟩
    obtain ⟨A, rfl⟩ : ∃ A : Nat, a = A := ⟨a.toNat, by omega⟩
    obtain ⟨B, rfl⟩ : ∃ B : Nat, b = B := ⟨b.toNat, by omega⟩
    rw [putE_eq]
    exact ereput_yes s T Q K A B hs (by omega) (by omega) (by omega) (by omega) (by omega) (by omega) w

end Go.Proofs.YthhcopeejhhpgaaDoor
