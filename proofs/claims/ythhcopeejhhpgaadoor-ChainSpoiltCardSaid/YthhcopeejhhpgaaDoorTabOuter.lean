/- What a row's list gives: the table of the rounds' constants. -/
import Derived.Test.YthhcopeejhhpgaaDoorSums
import Derived.Test.YthhcopeejhhpgaaDoorOuter
import Derived.Lib.LaidTab
namespace Go.Proofs.YthhcopeejhhpgaaDoor
open Go.ChangeShapes Go.WideShapes Go.ChangeAt Go.RowKit

theorem gTab : Tryd.prog.globalNamed "blackbox/digest.constants" = some 0 := by kernel_rfl
theorem gTabType : (Tryd.prog.globals[0]?).map (·.type) = some 105 := by kernel_rfl
theorem cellsTab : Tryd.prog.cellsOf 105 = 64 := by kernel_rfl
theorem cellsWord : Tryd.prog.cellsOf 65 = 1 := by kernel_rfl

theorem tab_of {W : World} (h' : Lib.TabIs Tryd.prog W "blackbox/digest.constants" .u32 ((List.range 64).map fun t => ((kc t : Nat) : Int))) : Tab W := by
  intro t ht
  have := h'.cell gTab t (by simpa using ht)
  rw [this]
  simp [ht]

noncomputable def tabWorld (os : Os) : World :=
  { World.holding Tryd.prog os ⟨#[], #[], []⟩ with heap := (World.holding Tryd.prog os ⟨#[], #[], []⟩).heap.modify 0 fun
      | .cells _ t frozen => .cells ((List.range 64).map fun t => Value.int .u32 ((kc t : Nat) : Int)).toArray t frozen
      | o => o }
theorem laidOut : laidOutB Tryd.prog = true := by kernel_rfl

end Go.Proofs.YthhcopeejhhpgaaDoor
