/- Numbers of 64 bits: small laws. -/
import Derived.Test.YtalfmkgcelipdaaKit
import Derived.Test.YtalfmkgcelipdaaPureWire
namespace Go.Proofs.Ytalfmkgcelipdaa
open Go.RowKit Wire

theorem wf_u64 {n : Int} (h : (Lit.int .u64 n).wf = true) : ∃ k : Nat, n = k ∧ k < 18446744073709551616 := by
  have := bounds_u64 h
  exact ⟨n.toNat, by omega, by omega⟩

theorem ret_int {k : IntKind} {a b : Int} (h : a = b) : Ending.returned (.int k a) = .returned (.int k b) := by rw [h]

end Go.Proofs.Ytalfmkgcelipdaa
