/- The kinds' names: contracts of event.Name, which reads a table in memory, and the document's own. -/
import Derived.Test.YtjiepfcohhbjkaaDoorEvA
namespace Go.Proofs.YtjiepfcohhbjkaaDoor
open Go.RowKit Wire Evt

/-- The kinds' names. -/
def nm : Nat → ByteArray
  | 0 => ⟨#[98, 111, 111, 116]⟩
  | 1 => ⟨#[115, 119, 105, 116, 99, 104]⟩
  | 2 => ⟨#[99, 97, 108, 108]⟩
  | 3 => ⟨#[109, 111, 118, 101]⟩
  | 4 => ⟨#[102, 97, 117, 108, 116]⟩
  | 5 => ⟨#[97, 99, 116, 105, 111, 110]⟩
  | 6 => ⟨#[103, 97, 112]⟩
  | _ => ⟨#[104, 97, 108, 116]⟩
def nmK (k : Int) : ByteArray := if isK k then nm (k - 1).toNat else ⟨#[]⟩

/-- The table of the names lies in memory. -/
def Names (w : World) : Prop := ∀ i, i < 8 → w.cell? ⟨0, i, none⟩ = some (.string (nm i))
theorem Names.drew {w : World} (h : Names w) : Names w.drew := h
theorem Names.low {w : World} (h : Names w) : 0 < w.heap.size := World.block_lt_of_cell? w _ (h 0 (by omega))
theorem Names.up {w w' : World} (h : Names w) (hb : Below w.heap.size w w') : Names w' := fun i hi => (hb.cell (p := ⟨0, i, none⟩) h.low).trans (h i hi)

theorem kinds {k : Int} (h : isK k = true) : k = 1 ∨ k = 2 ∨ k = 3 ∨ k = 4 ∨ k = 5 ∨ k = 6 ∨ k = 7 ∨ k = 8 := by
  have := isK_yes.1 h
  omega

set_option maxRecDepth 100000 in
theorem name_any (k : Int) (w : World) (hT : Names w) : Calls Tryd.prog 14 #[.int .i64 k] w fun e w' => e = .returned (.string (nmK k)) ∧ w = w' := by
  cases d : isK k with
  | false =>
    have H := Lib.hid (show nmK k = ⟨#[]⟩ by rw [nmK, if_neg (by rw [d]; simp)])
    go_enter Tryd.func14, Tryd.ntmps14
    go_wp2_with (go_at_call 22; refine (isKind_any _ _).mono ?_; rintro e w1 ⟨rfl, rfl⟩)
    go_ret
    exact ⟨by rw [H.out]; rfl, rfl⟩
  | true =>
    have c0 := hT 0 (by omega)
    have c1 := hT 1 (by omega)
    have c2 := hT 2 (by omega)
    have c3 := hT 3 (by omega)
    have c4 := hT 4 (by omega)
    have c5 := hT 5 (by omega)
    have c6 := hT 6 (by omega)
    have c7 := hT 7 (by omega)
    have H := Lib.hid (show nmK k = nm (k - 1).toNat by rw [nmK, if_pos d])
    clear hT
    rcases kinds d with rfl | rfl | rfl | rfl | rfl | rfl | rfl | rfl
    all_goals
      go_enter Tryd.func14, Tryd.ntmps14
      go_wp2_with (go_at_call 22; refine (isKind_any _ _).mono ?_; rintro e w1 ⟨rfl, rfl⟩)
      go_ret
      exact ⟨by rw [H.out]; rfl, rfl⟩

set_option maxHeartbeats 2000000 in
set_option maxRecDepth 100000 in
theorem rname_any (k : Int) (w : World) : Calls Tryd.prog 15 #[.int .i64 k] w fun e w' => e = .returned (.string (nmK k)) ∧ Below w.heap.size w w' := by
  cases d : isK k with
  | false =>
    have H := Lib.hid (show nmK k = ⟨#[]⟩ by rw [nmK, if_neg (by rw [d]; simp)])
    by_cases h1 : k < 1
    · go_enter Tryd.func15, Tryd.ntmps15
      go_wp2_with fail
      go_ret
      exact ⟨by rw [H.out]; rfl, up_alloc (Below.refl _ _) _⟩
    · have h8 : 8 < k := by
        refine Int.lt_of_not_ge fun h => ?_
        rw [isK_yes.2 ⟨by omega, h⟩] at d
        cases d
      have d1 : decide (k < 1) = false := by simpa using h1
      go_enter Tryd.func15, Tryd.ntmps15
      go_wp2_with fail
      go_ret
      exact ⟨by rw [H.out]; rfl, up_alloc (Below.refl _ _) _⟩
  | true =>
    have H := Lib.hid (show nmK k = nm (k - 1).toNat by rw [nmK, if_pos d])
    rcases kinds d with rfl | rfl | rfl | rfl | rfl | rfl | rfl | rfl
    all_goals
      go_enter Tryd.func15, Tryd.ntmps15
      go_wp2_with fail
      go_ret
      exact ⟨by rw [H.out]; rfl, up_alloc (Below.refl _ _) _⟩

end Go.Proofs.YtjiepfcohhbjkaaDoor
