/-
  DERIVED. GIVEN WITH THE SEED: THE CARDS: each row of YtjiepfcohhbjkaaDoorRows.lean that lists a variable, with what it lists TIED to the program's text (the seventh form; the later family's looks); each row that meets fmt, with fmt's text TOLD by the authors' own Lean function (tested against real Go, not proved from fmt's source: count such statements apart). THE CARD IS WHAT COUNTS. Prove the row's statement (the work); the ties are given (YtjiepfcohhbjkaaDoorTie.lean); close each card by the builder's one call (the guide's Derived/Test/ToyasCard.lean, 'card_holds'). Laid BY PROGRAM, IN A SANDBOX (cutbox-door.mjs). By AI agents, Wed Nov 11 2026. No macro, syntax, notation, axiom, sorry.
-/
import Derived.Test.YtjiepfcohhbjkaaDoorRows
import GoSem.ClaimSeven
namespace Go.Proofs.YtjiepfcohhbjkaaDoor
namespace Rows

/-- THE TIED CARD OF 'blackboxlaw04.EventPuts'. -/
def eventPutsCard : Claim7 := { stood := { row := eventPutsRow, standIns := [], harness := (true, "242e2c3c733e22f806e8c260b39736f4120873373c5556b7562d23d127f0e129"), looks := false }, kinds := [], alts := [], laidByText := true, laidKinds := [.data], laidTests := true, laidLooks := .later }
def EventPutsCardSaid : Prop := Claim7.holds Tryd.pinned (.plain (OpenSpec.ofChange eventPutsSpec)) eventPutsCard

/-- THE TIED CARD OF 'blackboxlaw04.EventGets'. -/
def eventGetsCard : Claim7 := { stood := { row := eventGetsRow, standIns := [], harness := (true, "242e2c3c733e22f806e8c260b39736f4120873373c5556b7562d23d127f0e129"), looks := false }, kinds := [], alts := [], laidByText := true, laidKinds := [.data], laidTests := true, laidLooks := .later }
def EventGetsCardSaid : Prop := Claim7.holds Tryd.pinned (.plain (OpenSpec.ofChange eventGetsSpec)) eventGetsCard

/-- THE TIED CARD OF 'blackboxlaw04.EventRow'. -/
def eventRowCard : Claim7 := { stood := { row := eventRowRow, standIns := [], harness := (true, "242e2c3c733e22f806e8c260b39736f4120873373c5556b7562d23d127f0e129"), looks := false }, kinds := [], alts := [], laidByText := true, laidKinds := [.data], laidTests := true, laidLooks := .later }
def EventRowCardSaid : Prop := Claim7.holds Tryd.pinned (.plain (OpenSpec.ofChange eventRowSpec)) eventRowCard

/-- THE TIED CARD OF 'blackboxlaw04.EventBack'. -/
def eventBackCard : Claim7 := { stood := { row := eventBackRow, standIns := [], harness := (true, "242e2c3c733e22f806e8c260b39736f4120873373c5556b7562d23d127f0e129"), looks := false }, kinds := [], alts := [], laidByText := true, laidKinds := [.data], laidTests := true, laidLooks := .later }
def EventBackCardSaid : Prop := Claim7.holds Tryd.pinned (.plain (OpenSpec.ofChange eventBackSpec)) eventBackCard

/-- THE TIED CARD OF 'blackboxlaw04.EventOnly'. -/
def eventOnlyCard : Claim7 := { stood := { row := eventOnlyRow, standIns := [], harness := (true, "242e2c3c733e22f806e8c260b39736f4120873373c5556b7562d23d127f0e129"), looks := false }, kinds := [], alts := [], laidByText := true, laidKinds := [.data], laidTests := true, laidLooks := .later }
def EventOnlyCardSaid : Prop := Claim7.holds Tryd.pinned (.plain (OpenSpec.ofChange eventOnlySpec)) eventOnlyCard

/-- THE TIED CARD OF 'blackboxlaw04.EventRuns'. -/
def eventRunsCard : Claim7 := { stood := { row := eventRunsRow, standIns := [], harness := (true, "242e2c3c733e22f806e8c260b39736f4120873373c5556b7562d23d127f0e129"), looks := false }, kinds := [], alts := [], laidByText := true, laidKinds := [.data], laidTests := true, laidLooks := .later }
def EventRunsCardSaid : Prop := Claim7.holds Tryd.pinned (.plain (OpenSpec.ofChange eventRunsSpec)) eventRunsCard

/-- THE SECOND FORM's CARD OF 'blackboxlaw04.EventPuts'. -/
def eventPutsUptoCard : Claim7 := { stood := { row := eventPutsUptoRow, standIns := [], harness := (true, "242e2c3c733e22f806e8c260b39736f4120873373c5556b7562d23d127f0e129"), looks := false }, kinds := [], alts := [], laidByText := true, laidKinds := [.data], laidTests := true, laidLooks := .later }
def EventPutsUptoCardSaid : Prop := Claim7.holds Tryd.pinned (.plain (OpenSpec.upto eventPutsSpec)) eventPutsUptoCard

/-- THE SECOND FORM's CARD OF 'blackboxlaw04.EventGets'. -/
def eventGetsUptoCard : Claim7 := { stood := { row := eventGetsUptoRow, standIns := [], harness := (true, "242e2c3c733e22f806e8c260b39736f4120873373c5556b7562d23d127f0e129"), looks := false }, kinds := [], alts := [], laidByText := true, laidKinds := [.data], laidTests := true, laidLooks := .later }
def EventGetsUptoCardSaid : Prop := Claim7.holds Tryd.pinned (.plain (OpenSpec.upto eventGetsSpec)) eventGetsUptoCard

/-- THE SECOND FORM's CARD OF 'blackboxlaw04.EventRow'. -/
def eventRowUptoCard : Claim7 := { stood := { row := eventRowUptoRow, standIns := [], harness := (true, "242e2c3c733e22f806e8c260b39736f4120873373c5556b7562d23d127f0e129"), looks := false }, kinds := [], alts := [], laidByText := true, laidKinds := [.data], laidTests := true, laidLooks := .later }
def EventRowUptoCardSaid : Prop := Claim7.holds Tryd.pinned (.plain (OpenSpec.upto eventRowSpec)) eventRowUptoCard

/-- THE SECOND FORM's CARD OF 'blackboxlaw04.EventBack'. -/
def eventBackUptoCard : Claim7 := { stood := { row := eventBackUptoRow, standIns := [], harness := (true, "242e2c3c733e22f806e8c260b39736f4120873373c5556b7562d23d127f0e129"), looks := false }, kinds := [], alts := [], laidByText := true, laidKinds := [.data], laidTests := true, laidLooks := .later }
def EventBackUptoCardSaid : Prop := Claim7.holds Tryd.pinned (.plain (OpenSpec.upto eventBackSpec)) eventBackUptoCard

/-- THE SECOND FORM's CARD OF 'blackboxlaw04.EventOnly'. -/
def eventOnlyUptoCard : Claim7 := { stood := { row := eventOnlyUptoRow, standIns := [], harness := (true, "242e2c3c733e22f806e8c260b39736f4120873373c5556b7562d23d127f0e129"), looks := false }, kinds := [], alts := [], laidByText := true, laidKinds := [.data], laidTests := true, laidLooks := .later }
def EventOnlyUptoCardSaid : Prop := Claim7.holds Tryd.pinned (.plain (OpenSpec.upto eventOnlySpec)) eventOnlyUptoCard

/-- THE SECOND FORM's CARD OF 'blackboxlaw04.EventRuns'. -/
def eventRunsUptoCard : Claim7 := { stood := { row := eventRunsUptoRow, standIns := [], harness := (true, "242e2c3c733e22f806e8c260b39736f4120873373c5556b7562d23d127f0e129"), looks := false }, kinds := [], alts := [], laidByText := true, laidKinds := [.data], laidTests := true, laidLooks := .later }
def EventRunsUptoCardSaid : Prop := Claim7.holds Tryd.pinned (.plain (OpenSpec.upto eventRunsSpec)) eventRunsUptoCard
end Rows
end Go.Proofs.YtjiepfcohhbjkaaDoor
