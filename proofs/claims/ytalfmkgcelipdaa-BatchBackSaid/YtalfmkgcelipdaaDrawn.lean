/- Regions that draw their order: small laws for a walk by hand. -/
import Derived.Test.YtalfmkgcelipdaaMem
import Derived.Deep.QuietTactic
import Derived.Deep.RegionHeld3
import Derived.BigQuiet
import Derived.WalkMore
namespace Go.Proofs.Ytalfmkgcelipdaa
open Go.RowKit

/-- The condition on the world may be made stronger on the way. -/
theorem wpAnyH_strong {P : Program} {ops : Array Oper} {Q : Exit → Act → World → Prop} {md : Region.Mode} {S S' : World → Prop} (h : ∀ w, S' w → S w) :
    ∀ (fuel : Nat) (listed : Array Bool) (a : Act) (w : World), wpAnyH P md ops Q S' fuel listed a w → wpAnyH P md ops Q S fuel listed a w
  | 0, _, _, _, hh => hh
  | fuel + 1, _, _, _, hh => ⟨hh.1, fun i hi => wpOp_mono (fun a' w' h' => ⟨h w' h'.1, wpAnyH_strong h fuel _ a' w' h'.2⟩) (hh.2 i hi)⟩

/-- .. with the new condition at hand. -/
theorem wpAnyH_turn {P : Program} {ops : Array Oper} {Q : Exit → Act → World → Prop} {md : Region.Mode} {S : World → Prop} (S' : World → Prop) (h : ∀ w, S' w → S w) {fuel : Nat} {listed : Array Bool} {a : Act} {w : World}
    (hS : S' w) (hh : S' w → wpAnyH P md ops Q S' fuel listed a w) : wpAnyH P md ops Q S fuel listed a w := wpAnyH_strong h _ _ _ _ (hh hS)

end Go.Proofs.Ytalfmkgcelipdaa
