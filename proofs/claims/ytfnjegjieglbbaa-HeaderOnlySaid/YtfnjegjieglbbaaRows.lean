/-
  No cell of these rows narrows 'for every input' (looked for: loops, veiled, ifaces, maps, wideKeys, modest, calm, conditions, laid).
  DERIVED. THE GIVEN ROWS OF THIS SEAT. 6 by the template 'for every input the law returns true; each argument reads behind the call as it read before'; 0 by the template 'total and deterministic' (their statements: YtfnjegjieglbbaaTotals.lean).
  GIVEN WITH THE SEED: the statements are not yours to turn. If you find one false, say at which input.
  Laid BY PROGRAM, IN A SANDBOX (cutbox-rows.mjs): the forced cells as the released guide's own fill.sh prints them over the translation 80bac61afc883e9c… (all of the seat's roots in one cut). By AI agents, Wed Nov 11 2026. No macro, syntax, notation, axiom, sorry.
-/
import Derived.Test.YtfnjegjieglbbaaChecked
import GoSem.Claim
import GoSem.ClaimJoined
import GoSem.ClaimMapViews
import Derived.JoinedTies
import Derived.KernelRfl
namespace Go.Proofs.Ytfnjegjieglbbaa
/- THE CELL 'sum', in the pinned program and in every row, IS THE sha256 OF THE DUMP (.gsa) THAT YtfnjegjieglbbaaProg.lean LOADS. Nothing in Lean hashes anything: it is a label: what it is worth is what the hold of that sum in a sandbox is worth. -/
noncomputable def Try.pinned : Pinned := { name := "ytfnjegjieglbbaa", sum := "80bac61afc883e9c43234e249f3077566ff4520f7d2a498a4b4cc47b06ab645b", checked := Try.checked }
namespace Rows
def none {H : Type} : Left H := { results := [], args := [] }

/-- 'blackboxlaw06.HeaderHeads': WHATEVER THE INPUT: true; the input reads as it did. -/
def headerHeadsSpec : ChangeSpec := { name := "headerHeads", fn := fun _ => fun
  | [d1, d2] => { results := [.lit (.bool true)], args := [d1, d2] }
  | _ => none }
def headerHeadsRow : OpenClaim := { program := "ytfnjegjieglbbaa", sum := "80bac61afc883e9c43234e249f3077566ff4520f7d2a498a4b4cc47b06ab645b", func := "blackbox/blackboxlaw06.HeaderHeads", spec := "headerHeads", inPlace := ["internal/abi.NoEscape", "internal/bytealg.MakeNoZero"], unfollowed := true, recurses := true, apart := false }
def HeaderHeadsSaid : Prop := headerHeadsRow.holds Try.pinned (OpenSpec.ofChange headerHeadsSpec)

/-- ITS FALSE NEIGHBOUR: 'it returns false'. Refute it at one input. -/
def headerHeadsWrong : ChangeSpec := { name := "headerHeads", fn := fun _ => fun
  | [d1, d2] => { results := [.lit (.bool false)], args := [d1, d2] }
  | _ => none }
def HeaderHeadsWrongFalsely : Prop := headerHeadsRow.holds Try.pinned (OpenSpec.ofChange headerHeadsWrong)

/-- 'blackboxlaw06.HeaderSupers': WHATEVER THE INPUT: true; the input reads as it did. -/
def headerSupersSpec : ChangeSpec := { name := "headerSupers", fn := fun _ => fun
  | [d1, d2, d3] => { results := [.lit (.bool true)], args := [d1, d2, d3] }
  | _ => none }
def headerSupersRow : OpenClaim := { program := "ytfnjegjieglbbaa", sum := "80bac61afc883e9c43234e249f3077566ff4520f7d2a498a4b4cc47b06ab645b", func := "blackbox/blackboxlaw06.HeaderSupers", spec := "headerSupers", inPlace := ["internal/abi.NoEscape", "internal/bytealg.MakeNoZero"], unfollowed := true, recurses := true, apart := false }
def HeaderSupersSaid : Prop := headerSupersRow.holds Try.pinned (OpenSpec.ofChange headerSupersSpec)

/-- ITS FALSE NEIGHBOUR: 'it returns false'. Refute it at one input. -/
def headerSupersWrong : ChangeSpec := { name := "headerSupers", fn := fun _ => fun
  | [d1, d2, d3] => { results := [.lit (.bool false)], args := [d1, d2, d3] }
  | _ => none }
def HeaderSupersWrongFalsely : Prop := headerSupersRow.holds Try.pinned (OpenSpec.ofChange headerSupersWrong)

/-- 'blackboxlaw06.HeaderBack': WHATEVER THE INPUT: true; the input reads as it did. -/
def headerBackSpec : ChangeSpec := { name := "headerBack", fn := fun _ => fun
  | [d1, d2, d3] => { results := [.lit (.bool true)], args := [d1, d2, d3] }
  | _ => none }
def headerBackRow : OpenClaim := { program := "ytfnjegjieglbbaa", sum := "80bac61afc883e9c43234e249f3077566ff4520f7d2a498a4b4cc47b06ab645b", func := "blackbox/blackboxlaw06.HeaderBack", spec := "headerBack", inPlace := ["internal/abi.NoEscape", "internal/bytealg.MakeNoZero"], unfollowed := true, recurses := true, apart := false }
def HeaderBackSaid : Prop := headerBackRow.holds Try.pinned (OpenSpec.ofChange headerBackSpec)

/-- ITS FALSE NEIGHBOUR: 'it returns false'. Refute it at one input. -/
def headerBackWrong : ChangeSpec := { name := "headerBack", fn := fun _ => fun
  | [d1, d2, d3] => { results := [.lit (.bool false)], args := [d1, d2, d3] }
  | _ => none }
def HeaderBackWrongFalsely : Prop := headerBackRow.holds Try.pinned (OpenSpec.ofChange headerBackWrong)

/-- 'blackboxlaw06.HeaderOnly': WHATEVER THE INPUT: true; the input reads as it did. -/
def headerOnlySpec : ChangeSpec := { name := "headerOnly", fn := fun _ => fun
  | [d] => { results := [.lit (.bool true)], args := [d] }
  | _ => none }
def headerOnlyRow : OpenClaim := { program := "ytfnjegjieglbbaa", sum := "80bac61afc883e9c43234e249f3077566ff4520f7d2a498a4b4cc47b06ab645b", func := "blackbox/blackboxlaw06.HeaderOnly", spec := "headerOnly", inPlace := ["internal/abi.NoEscape", "internal/bytealg.MakeNoZero"], unfollowed := true, recurses := true, apart := false }
def HeaderOnlySaid : Prop := headerOnlyRow.holds Try.pinned (OpenSpec.ofChange headerOnlySpec)

/-- ITS FALSE NEIGHBOUR: 'it returns false'. Refute it at one input. -/
def headerOnlyWrong : ChangeSpec := { name := "headerOnly", fn := fun _ => fun
  | [d] => { results := [.lit (.bool false)], args := [d] }
  | _ => none }
def HeaderOnlyWrongFalsely : Prop := headerOnlyRow.holds Try.pinned (OpenSpec.ofChange headerOnlyWrong)

/-- 'blackboxlaw06.HeaderTells': WHATEVER THE INPUT: true; the input reads as it did. -/
def headerTellsSpec : ChangeSpec := { name := "headerTells", fn := fun _ => fun
  | [d1, d2, d3] => { results := [.lit (.bool true)], args := [d1, d2, d3] }
  | _ => none }
def headerTellsRow : OpenClaim := { program := "ytfnjegjieglbbaa", sum := "80bac61afc883e9c43234e249f3077566ff4520f7d2a498a4b4cc47b06ab645b", func := "blackbox/blackboxlaw06.HeaderTells", spec := "headerTells", inPlace := ["internal/abi.NoEscape", "internal/bytealg.MakeNoZero"], unfollowed := true, recurses := true, apart := false }
def HeaderTellsSaid : Prop := headerTellsRow.holds Try.pinned (OpenSpec.ofChange headerTellsSpec)

/-- ITS FALSE NEIGHBOUR: 'it returns false'. Refute it at one input. -/
def headerTellsWrong : ChangeSpec := { name := "headerTells", fn := fun _ => fun
  | [d1, d2, d3] => { results := [.lit (.bool false)], args := [d1, d2, d3] }
  | _ => none }
def HeaderTellsWrongFalsely : Prop := headerTellsRow.holds Try.pinned (OpenSpec.ofChange headerTellsWrong)

/-- 'blackboxlaw06.HeaderTorn': WHATEVER THE INPUT: true; the input reads as it did. -/
def headerTornSpec : ChangeSpec := { name := "headerTorn", fn := fun _ => fun
  | [d1, d2, d3, d4] => { results := [.lit (.bool true)], args := [d1, d2, d3, d4] }
  | _ => none }
def headerTornRow : OpenClaim := { program := "ytfnjegjieglbbaa", sum := "80bac61afc883e9c43234e249f3077566ff4520f7d2a498a4b4cc47b06ab645b", func := "blackbox/blackboxlaw06.HeaderTorn", spec := "headerTorn", inPlace := ["internal/abi.NoEscape", "internal/bytealg.MakeNoZero"], unfollowed := true, recurses := true, apart := false }
def HeaderTornSaid : Prop := headerTornRow.holds Try.pinned (OpenSpec.ofChange headerTornSpec)

/-- ITS FALSE NEIGHBOUR: 'it returns false'. Refute it at one input. -/
def headerTornWrong : ChangeSpec := { name := "headerTorn", fn := fun _ => fun
  | [d1, d2, d3, d4] => { results := [.lit (.bool false)], args := [d1, d2, d3, d4] }
  | _ => none }
def HeaderTornWrongFalsely : Prop := headerTornRow.holds Try.pinned (OpenSpec.ofChange headerTornWrong)

/- THE SECOND FORM. 'bulk': how many values and letters a reading holds, each counted each time it is reached (what is shared counts as often as it is met; a slice's spare places count too). A statement '..UptoSaid' is the law's where the arguments, and the package variables that the reading takes, are together of bulk at most 1048576: NARROWER than '..Said'. Prove '..Said' where nothing that the law and all that it calls make is longer than what came in: it says more and counts as full. Else prove '..UptoSaid'. A law counts once. -/
mutual
def uptoBulk {H : Type} : DataW H → Nat
  | .lit (.string bytes) => bytes.length + 1
  | .lit _ => 1
  | .nil => 1
  | .ptr d => uptoBulk d + 1
  | .slice elems spare => uptoBulkAll elems + uptoBulkAll spare + 1
  | .agg parts => uptoBulkAll parts + 1
  | .iface _ d => uptoBulk d + 1
  | .map entries => uptoBulkEntries entries + 1
  | .held _ => 1
def uptoBulkAll {H : Type} : List (DataW H) → Nat
  | [] => 0
  | d :: r => uptoBulk d + uptoBulkAll r
def uptoBulkEntries {H : Type} : List (Lit × DataW H) → Nat
  | [] => 0
  | x :: r => uptoBulkEntry x + uptoBulkEntries r
def uptoBulkEntry {H : Type} : Lit × DataW H → Nat
  | (.string bytes, d) => bytes.length + uptoBulk d + 1
  | (_, d) => uptoBulk d + 1
 end
def uptoSmall : (H : Type) → List (DataW H) → Bool := fun _ ds => decide (uptoBulkAll ds ≤ 1048576)
def OpenSpec.upto (s : _root_.Go.ChangeSpec) : _root_.Go.OpenSpec := { _root_.Go.OpenSpec.ofChange s with cond := some uptoSmall }

/-- 'blackboxlaw06.HeaderHeads', WHERE WHAT IT READS IS OF BULK AT MOST 1048576: true; the input reads as it did. -/
def headerHeadsUptoRow : OpenClaim := { program := "ytfnjegjieglbbaa", sum := "80bac61afc883e9c43234e249f3077566ff4520f7d2a498a4b4cc47b06ab645b", func := "blackbox/blackboxlaw06.HeaderHeads", spec := "headerHeads", inPlace := ["internal/abi.NoEscape", "internal/bytealg.MakeNoZero"], unfollowed := true, recurses := true, apart := false, narrowed := true }
def HeaderHeadsUptoSaid : Prop := headerHeadsUptoRow.holds Try.pinned (OpenSpec.upto headerHeadsSpec)

/-- 'blackboxlaw06.HeaderSupers', WHERE WHAT IT READS IS OF BULK AT MOST 1048576: true; the input reads as it did. -/
def headerSupersUptoRow : OpenClaim := { program := "ytfnjegjieglbbaa", sum := "80bac61afc883e9c43234e249f3077566ff4520f7d2a498a4b4cc47b06ab645b", func := "blackbox/blackboxlaw06.HeaderSupers", spec := "headerSupers", inPlace := ["internal/abi.NoEscape", "internal/bytealg.MakeNoZero"], unfollowed := true, recurses := true, apart := false, narrowed := true }
def HeaderSupersUptoSaid : Prop := headerSupersUptoRow.holds Try.pinned (OpenSpec.upto headerSupersSpec)

/-- 'blackboxlaw06.HeaderBack', WHERE WHAT IT READS IS OF BULK AT MOST 1048576: true; the input reads as it did. -/
def headerBackUptoRow : OpenClaim := { program := "ytfnjegjieglbbaa", sum := "80bac61afc883e9c43234e249f3077566ff4520f7d2a498a4b4cc47b06ab645b", func := "blackbox/blackboxlaw06.HeaderBack", spec := "headerBack", inPlace := ["internal/abi.NoEscape", "internal/bytealg.MakeNoZero"], unfollowed := true, recurses := true, apart := false, narrowed := true }
def HeaderBackUptoSaid : Prop := headerBackUptoRow.holds Try.pinned (OpenSpec.upto headerBackSpec)

/-- 'blackboxlaw06.HeaderOnly', WHERE WHAT IT READS IS OF BULK AT MOST 1048576: true; the input reads as it did. -/
def headerOnlyUptoRow : OpenClaim := { program := "ytfnjegjieglbbaa", sum := "80bac61afc883e9c43234e249f3077566ff4520f7d2a498a4b4cc47b06ab645b", func := "blackbox/blackboxlaw06.HeaderOnly", spec := "headerOnly", inPlace := ["internal/abi.NoEscape", "internal/bytealg.MakeNoZero"], unfollowed := true, recurses := true, apart := false, narrowed := true }
def HeaderOnlyUptoSaid : Prop := headerOnlyUptoRow.holds Try.pinned (OpenSpec.upto headerOnlySpec)

/-- 'blackboxlaw06.HeaderTells', WHERE WHAT IT READS IS OF BULK AT MOST 1048576: true; the input reads as it did. -/
def headerTellsUptoRow : OpenClaim := { program := "ytfnjegjieglbbaa", sum := "80bac61afc883e9c43234e249f3077566ff4520f7d2a498a4b4cc47b06ab645b", func := "blackbox/blackboxlaw06.HeaderTells", spec := "headerTells", inPlace := ["internal/abi.NoEscape", "internal/bytealg.MakeNoZero"], unfollowed := true, recurses := true, apart := false, narrowed := true }
def HeaderTellsUptoSaid : Prop := headerTellsUptoRow.holds Try.pinned (OpenSpec.upto headerTellsSpec)

/-- 'blackboxlaw06.HeaderTorn', WHERE WHAT IT READS IS OF BULK AT MOST 1048576: true; the input reads as it did. -/
def headerTornUptoRow : OpenClaim := { program := "ytfnjegjieglbbaa", sum := "80bac61afc883e9c43234e249f3077566ff4520f7d2a498a4b4cc47b06ab645b", func := "blackbox/blackboxlaw06.HeaderTorn", spec := "headerTorn", inPlace := ["internal/abi.NoEscape", "internal/bytealg.MakeNoZero"], unfollowed := true, recurses := true, apart := false, narrowed := true }
def HeaderTornUptoSaid : Prop := headerTornUptoRow.holds Try.pinned (OpenSpec.upto headerTornSpec)

end Rows
end Go.Proofs.Ytfnjegjieglbbaa
