/- A sum's signs: contracts of digest.Hex and the document's own. -/
import Derived.Test.YtanjebmpjenmiaaDoorBytes
import Derived.Deep.RegionHeld3
import Derived.Deep.DrawnRows
import Derived.Outline
namespace Go.Proofs.YtanjebmpjenmiaaDoor
open Go.RowKit Word

attribute [local go_sem ↓] Go.wp_at_zero Go.wp_at_succ

/-- The sixteen signs. -/
def signs : List UInt8 := [48, 49, 50, 51, 52, 53, 54, 55, 56, 57, 97, 98, 99, 100, 101, 102]
def dg (n : Nat) : UInt8 := signs.getD n 0

/-- Bytes, each told by two signs. -/
def hexOf (l : List Nat) : List UInt8 := l.flatMap fun n => [dg (n / 16), dg (n % 16)]

theorem hexOf_length (l : List Nat) : (hexOf l).length = 2 * l.length := by
  induction l with
  | nil => rfl
  | cons n l ih =>
    have : hexOf (n :: l) = [dg (n / 16), dg (n % 16)] ++ hexOf l := rfl
    rw [this, List.length_append, ih]; simp; omega

theorem hexOf_take_succ (l : List Nat) (k : Nat) (h : k < l.length) : hexOf (l.take (k + 1)) = hexOf (l.take k) ++ [dg (l[k] / 16), dg (l[k] % 16)] := by
  unfold hexOf
  rw [List.take_succ_eq_append_getElem h, List.flatMap_append]
  simp

theorem run_sign (n : Nat) (h : n < 16) (w : World) : (Instr.index 9 (.string ⟨#[48, 49, 50, 51, 52, 53, 54, 55, 56, 57, 97, 98, 99, 100, 101, 102]⟩) (.int .u8 (n : Int))).run Tryd.prog w = .ok (.int .u8 ((dg n).toNat : Int)) w := by
  have h16 : n = 0 ∨ n = 1 ∨ n = 2 ∨ n = 3 ∨ n = 4 ∨ n = 5 ∨ n = 6 ∨ n = 7 ∨ n = 8 ∨ n = 9 ∨ n = 10 ∨ n = 11 ∨ n = 12 ∨ n = 13 ∨ n = 14 ∨ n = 15 := by omega
  rcases h16 with rfl | rfl | rfl | rfl | rfl | rfl | rfl | rfl | rfl | rfl | rfl | rfl | rfl | rfl | rfl | rfl <;> rfl

theorem run_byte_of (l : List Nat) (hl : l.length = 32) (k : Nat) (hk : k < 32) (w : World) : (Instr.index 29 (.agg (nums .u8 l).toArray) (.int .i64 (k : Int))).run Tryd.prog w = .ok (.int .u8 ((l.getD k 0 : Nat) : Int)) w := by
  have h1 : (nums .u8 l)[k]? = some (.int .u8 ((l.getD k 0 : Nat) : Int)) := by
    rw [nums_at _ _ (by omega), List.getD_eq_getElem?_getD, List.getElem?_eq_getElem (by omega)]; rfl
  simp [Instr.index, asIntOf, go_sem, run_underlying Tryd.underlying29, h1]
  omega

set_option maxHeartbeats 800000 in
set_option maxRecDepth 100000 in
theorem dhex_any (l : List Nat) (hl : l.length = 32) (hb : ∀ n ∈ l, n < 256) (w : World) : Calls Tryd.prog 14 #[.agg (nums .u8 l).toArray] w fun e w' => e = .returned (.string ⟨(hexOf l).toArray⟩) ∧ Below w.heap.size w w' := by
  have m1 : ∀ w : World, (Instr.makeSlice 42 (.int .i64 0) (.int .i64 64)).run Tryd.prog w = .ok (.slice (some ⟨w.heap.size, 0, none⟩) 0 64) (w.alloc (.cells (bys (List.replicate 64 0)).toArray 5)) := fun w => run_make_bys 0 64 (by omega) (by omega) w
  have HL := Lib.hid hl
  have HBb := Lib.hid hb
  have HZ := Lib.hid (show hexOf (l.take 0) = [] from rfl)
  have HE := Lib.hid (show hexOf l = hexOf (l.take 32) by rw [← hl, List.take_length])
  have hle : (nums .u8 l).length = 32 := by rw [nums_length, hl]
  have hi : (Tryd.prog.info? 29).map (·.size) = some (nums .u8 l).length := by rw [hle]; kernel_rfl
  clear hl hb
  go_enter Tryd.func14, Tryd.ntmps14
  go_wp2_with (refine wpList_load_row rfl 29 _ rfl w.heap.size (by rfl) _ _ _ _ ((Has.make w 29 (nums .u8 l)).alloc _) Tryd.underlying29 rfl (by rw [hi]; simp) ?_)
  have o0 : OwnB (w.heap.size + 1) (.slice (some ⟨w.heap.size + 1, 0, none⟩) 0 64) (hexOf (l.take 0)) ((w.alloc (Obj.cells (nums .u8 l).toArray 29)).alloc (Obj.cells (bys (List.replicate 64 0)).toArray 5)) :=
    OwnB.of_block (l := []) (Nat.le_refl _) (Has.make2 w (Obj.cells (nums .u8 l).toArray 29) 5 (bys (List.replicate 64 0))) (by simp) (by omega)
  have HO := Lib.hid o0
  clear o0 m1 hi hle
  go_loopw [3, 5, 8] (fun p _ i wr => ∃ k : Nat, k ≤ 32 ∧ i = .int .i64 k ∧ OwnB (w.heap.size + 1) p (hexOf (l.take k)) wr ∧ w.heap.size < wr.heap.size ∧ Below w.heap.size w wr) (fun _ _ i _ => 32 - (intOf i).toNat)
  case atStart => exact ⟨0, by omega, rfl, HO.out, by simp; omega, up_alloc (up_alloc (Below.refl _ _) _) _⟩
  case round =>
    clear HO
    obtain ⟨k, hk, rfl, hO, hs, hb⟩ := hrel
    by_cases hlt : k < 32
    · have hix := run_byte_of l HL.out k hlt
      have hn : l.getD k 0 < 256 := by
        rw [List.getD_eq_getElem?_getD, List.getElem?_eq_getElem (by rw [HL.out]; omega)]
        exact HBb.out _ (List.getElem_mem _)
      have HS : Hid (hexOf (l.take (k + 1)) = hexOf (l.take k) ++ [dg (l.getD k 0 / 16), dg (l.getD k 0 % 16)]) := Lib.hid (by
        rw [hexOf_take_succ l k (by rw [HL.out]; omega), List.getD_eq_getElem?_getD, List.getElem?_eq_getElem (by rw [HL.out]; omega)]; rfl)
      have HLn := Lib.hid (show (hexOf (l.take k)).length ≤ 64 by rw [hexOf_length, List.length_take]; omega)
      generalize l.getD k 0 = n at *
      generalize hexOf (l.take k) = X at *
      have hr1 := run_sign (n / 16) (by omega)
      have hr2 := run_sign (n % 16) (by omega)
      have HO := Lib.hid hO
      have HB := Lib.hid hb
      clear hO hb
      have e1 : Op.shift .shr .u8 (n : Int) .u64 4 = pure (.int .u8 ((n / 16 : Nat) : Int)) := by
        have : (n : Int).fdiv 16 = ((n / 16 : Nat) : Int) := by rw [Int.fdiv_eq_ediv_of_nonneg _ (by omega)]; omega
        simp [Op.shift, IntKind.bits, this]
      have e2 : bits .and .u8 (n : Int) 15 = ((n % 16 : Nat) : Int) := by
        have := u8_and_nat n 15 hn (by omega)
        simp only [Int.cast_ofNat_Int] at this
        rw [this, nat_mask4]
      generalize n / 16 = na at *
      generalize n % 16 = nb at *
      go_wp2_with fail
      go_region_held3 (fun _ => True) (trivial)
        ((refine step_push rfl (.tmp 11) (.tmp 18) rfl (w.heap.size + 1) _ X (by rfl) ((HO.out.alloc _).drew) wr.heap.size 2 [dg na, dg nb] (by rfl) (Has.make wr 5 (bys [dg na, dg nb])).drew rfl (by omega) (by have := HLn.out; omega) (by simp; omega) ?_; intro v' w' hO' hB'))
      all_goals go_wp2_with fail
      all_goals rw [← HS.out] at hO'
      all_goals have hsz := hB'.size
      all_goals simp at hsz
      all_goals go_roundw
      all_goals first
        | exact ⟨k + 1, by omega, by go_num, hO', by omega, (up_alloc HB.out _).drew.trans (hB'.mono (by omega))⟩
        | (simp [intOf]; omega)
    · obtain rfl : k = 32 := by omega
      have ht := hO.text
      have HB := Lib.hid hb
      clear hO hb
      go_wp2_with fail
      go_ret
      exact ⟨by rw [HE.out]; rfl, HB.out⟩
set_option maxHeartbeats 800000 in
set_option maxRecDepth 100000 in
theorem rhex_any (l : List Nat) (hl : l.length = 32) (hb : ∀ n ∈ l, n < 256) (w : World) : Calls Tryd.prog 15 #[.agg (nums .u8 l).toArray] w fun e w' => e = .returned (.string ⟨(hexOf l).toArray⟩) ∧ Below w.heap.size w w' := by
  have HL := Lib.hid hl
  have HBb := Lib.hid hb
  have HZ := Lib.hid (show hexOf (l.take 0) = [] from rfl)
  have HE := Lib.hid (show hexOf l = hexOf (l.take 32) by rw [← hl, List.take_length])
  clear hl hb
  go_enter Tryd.func15, Tryd.ntmps15
  go_wp2_with fail
  go_loopw [3, 4] (fun p i wr => ∃ k : Nat, k ≤ 32 ∧ i = .int .i64 k ∧ OwnB (w.heap.size + 1) p (hexOf (l.take k)) wr ∧ Has wr w.heap.size 29 (nums .u8 l) ∧ Below w.heap.size w wr) (fun _ i _ => 32 - (intOf i).toNat)
  case atStart => exact ⟨0, by omega, rfl, ⟨World.ownsRow_nil _ _ _ _⟩, Has.make w _ _, up_alloc (Below.refl _ _) _⟩
  case round =>
    obtain ⟨k, hk, rfl, hO, hA, hb⟩ := hrel
    by_cases hlt : k < 32
    · have hn : l.getD k 0 < 256 := by
        rw [List.getD_eq_getElem?_getD, List.getElem?_eq_getElem (by rw [HL.out]; omega)]
        exact HBb.out _ (List.getElem_mem _)
      have HS : Hid (hexOf (l.take (k + 1)) = hexOf (l.take k) ++ [dg (l.getD k 0 / 16), dg (l.getD k 0 % 16)]) := Lib.hid (by
        rw [hexOf_take_succ l k (by rw [HL.out]; omega), List.getD_eq_getElem?_getD, List.getElem?_eq_getElem (by rw [HL.out]; omega)]; rfl)
      have HCV := Lib.hid (show (nums .u8 l)[k]? = some (.int .u8 ((l.getD k 0 : Nat) : Int)) by rw [nums_at _ _ (by rw [HL.out]; omega), List.getD_eq_getElem?_getD, List.getElem?_eq_getElem (by rw [HL.out]; omega)]; rfl)
      have hc := hA.at HCV.out
      have HLn := Lib.hid (show (hexOf (l.take k)).length ≤ 64 by rw [hexOf_length, List.length_take]; omega)
      generalize l.getD k 0 = n at *
      generalize hexOf (l.take k) = X at *
      have hr1 := run_sign (n / 16) (by omega)
      have hr2 := run_sign (n % 16) (by omega)
      have HO := Lib.hid hO
      have HA := Lib.hid hA
      have HB := Lib.hid hb
      have HZs := Lib.hid hA.lt
      have y1 := World.new_ne wr _ hc
      clear hO hb hA
      have q1 : IntKind.u8.wrap ((n : Int).tdiv 16) = ((n / 16 : Nat) : Int) := by rw [IntWalk.u8_quo _ _ (by omega)]; omega
      have q2 : (n : Int).tdiv 16 = ((n / 16 : Nat) : Int) := by rw [Int.tdiv_eq_ediv_of_nonneg (by omega)]; omega
      have q3 : (n : Int).tmod 16 = ((n % 16 : Nat) : Int) := by rw [IntWalk.rem_in _ _ (by omega)]; omega
      have q4 : IntKind.u8.wrap ((n % 16 : Nat) : Int) = ((n % 16 : Nat) : Int) := IntWalk.u8_in _ (by omega)
      have q5 : IntKind.u8.wrap ((n / 16 : Nat) : Int) = ((n / 16 : Nat) : Int) := IntWalk.u8_in _ (by omega)
      generalize n / 16 = na at *
      generalize n % 16 = nb at *
      have k1 : (k : Int) < 32 := by omega
      have k0 : (0 : Int) ≤ (k : Int) := by omega
      go_wp2_with fail
      go_region_held3 (fun W => W.cell? ⟨w.heap.size, k, none⟩ = some (.int .u8 (n : Int))) (first | (with_reducible exact (hB'.cell (p := ⟨w.heap.size, k, none⟩) (Nat.lt_succ_self _)).trans (((HA.out.alloc _).drew).at HCV.out)) | (go_keep; done))
        ((refine step_push rfl (.tmp 9) (.tmp 20) rfl (w.heap.size + 1) _ X (by rfl) ((HO.out.alloc _).drew) wr.heap.size 2 [dg na, dg nb] (by rfl) (Has.make wr 5 (bys [dg na, dg nb])).drew rfl (by omega) (by have := HLn.out; omega) (by have := HZs.out; simp; omega) ?_; intro v' w' hO' hB'))
      all_goals go_wp2_with fail
      all_goals rw [← HS.out] at hO'
      all_goals go_roundw
      all_goals first
        | exact ⟨k + 1, by omega, by go_num, hO', ((HA.out.alloc _).drew).below hB' (by omega), (up_alloc HB.out _).drew.trans (hB'.mono (by omega))⟩
        | (simp [intOf]; omega)
    · obtain rfl : k = 32 := by omega
      have ht := hO.text
      have HB := Lib.hid hb
      clear hO hb hA
      go_wp2_with fail
      go_ret
      exact ⟨by rw [HE.out]; rfl, HB.out⟩

end Go.Proofs.YtanjebmpjenmiaaDoor
