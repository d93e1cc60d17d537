/- The hash of bytes, as bytes: what both sides' Of return. -/
import Derived.Test.YthhcopeejhhpgaaDoorSums
import Derived.Test.YthhcopeejhhpgaaDoorOuter
import Derived.Test.YthhcopeejhhpgaaDoorRowsEq
namespace Go.Proofs.YthhcopeejhhpgaaDoor
open Go.RowKit

/-- The hash of bytes. -/
def hsh (t : List UInt8) : List UInt8 := (St.start.add ⟨t.toArray⟩).sum.map UInt8.ofNat

theorem sum_small (s : St) : ∀ m ∈ s.sum, m < 256 := by
  intro m hm
  unfold St.sum outs at hm
  obtain ⟨i, _, rfl⟩ := List.mem_map.1 hm
  exact Nat.mod_lt _ (by omega)

set_option maxRecDepth 100000 in
theorem hsh_len (t : List UInt8) : (hsh t).length = 32 := by simp [hsh, St.sum, outs_length]
theorem hsh_nums (t : List UInt8) : nums .u8 (St.start.add ⟨t.toArray⟩).sum = bys (hsh t) := nums_bys _ (sum_small _)

theorem hof_any (t : List UInt8) (hl : t.length ≤ 100000) (w : World) (hT : Tab w) : Calls Tryd.prog 21 #[.string ⟨t.toArray⟩] w fun e w' => e = .returned (.agg (bys (hsh t)).toArray) ∧ Below w.heap.size w w' := by
  have := dof_any ⟨t.toArray⟩ w hT (by rw [text_list]; exact hl)
  rwa [hsh_nums] at this
theorem rhof_any (t : List UInt8) (hl : t.length ≤ 100000) (w : World) : Calls Tryd.prog 29 #[.string ⟨t.toArray⟩] w fun e w' => e = .returned (.agg (bys (hsh t)).toArray) ∧ Below w.heap.size w w' := by
  have := rof_any ⟨t.toArray⟩ w (by rw [text_list]; exact hl)
  rwa [hsh_nums] at this

end Go.Proofs.YthhcopeejhhpgaaDoor
