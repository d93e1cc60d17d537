/- The walk of the law WireWidths: a number is just the document's bytes of a width, and bytes are just the document's number of it, or none. -/
import Derived.Test.YtbafooofenpenaaWired
import Derived.Test.YtbafooofenpenaaWireF
import Derived.Test.YtbafooofenpenaaWireG
namespace Go.Proofs.Ytbafooofenpenaa
open Go.RowKit Wire

set_option maxHeartbeats 800000 in
set_option maxRecDepth 100000 in
theorem WireWidths_walk (a0 : Int) (a1 : ByteArray) (a2 : Int) (w0 : (Lit.int .u64 a0).wf = true) (z1 : a1.size ≤ 140737488351232) (_w2 : (Lit.int .i64 a2).wf = true) (w : World) :
    Calls Try.prog 4 #[.int .u64 a0, .string a1, .int .i64 a2] w fun e w' => e = .returned (.bool true) ∧ Below w.heap.size w w' := by
  obtain ⟨a, rfl, ha⟩ := wf_u64 w0
  have hm : a1.size ≤ maxLen := by unfold maxLen; omega
  by_cases h1 : 3000 < a1.size
  · have h1' : (3000 : Int) < (a1.size : Int) := by omega
    go_enter Try.func4, Try.ntmps4
    go_wp2_with fail
    go_ret
    exact ⟨rfl, Below.refl _ _⟩
  · have h1' : ¬ (3000 : Int) < (a1.size : Int) := by omega
    have c1 := fun w => takeFixed_any a1 hm a2 w
    have c2 := fun w => rtakeFixed_any a1 hm a2 w
    generalize tkf a1.data.toList a2 = p at c1 c2
    obtain ⟨v, r, e⟩ := p
    have C1 := Lib.hid c1
    have C2 := Lib.hid c2
    clear c1 c2 hm w0
    go_enter Try.func4, Try.ntmps4
    go_wp2_with fail
    refine (C1.out _).mono ?_; rintro e w1 ⟨rfl, b1⟩
    go_wp2_with fail
    refine (C2.out _).mono ?_; rintro e w2 ⟨rfl, b2⟩
    go_wp2_with fail
    refine (wired_any _).mono ?_; rintro e w3 ⟨rfl, b3⟩
    go_wp2_with fail
    refine (fixed_any a a2 _).mono ?_; rintro e w4 ⟨rfl, b4⟩
    go_wp2_with fail
    refine (rfixed_any a a2 _).mono ?_; rintro e w5 ⟨rfl, b5⟩
    go_wp2_with fail
    go_ret
    exact ⟨rfl, up_trans (up_trans (up_trans (up_trans b1 b2) b3) b4) b5⟩
end Go.Proofs.Ytbafooofenpenaa
