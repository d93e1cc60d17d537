/- The walk of the law WireNumbers: a number is just the document's bytes, and bytes are just the document's number, or none. -/
import Derived.Test.YtbafooofenpenaaWired
import Derived.Test.YtbafooofenpenaaWireD
namespace Go.Proofs.Ytbafooofenpenaa
open Go.RowKit Wire

set_option maxHeartbeats 800000 in
set_option maxRecDepth 100000 in
theorem WireNumbers_walk (a0 : Int) (a1 : ByteArray) (w0 : (Lit.int .u64 a0).wf = true) (z1 : a1.size ≤ 140737488351232) (w : World) :
    Calls Try.prog 3 #[.int .u64 a0, .string a1] w fun e w' => e = .returned (.bool true) ∧ Below w.heap.size w w' := by
  obtain ⟨a, rfl, ha⟩ := wf_u64 w0
  have hm : a1.size ≤ maxLen := by unfold maxLen; omega
  by_cases h1 : 3000 < a1.size
  · have h1' : (3000 : Int) < (a1.size : Int) := by omega
    go_enter Try.func3, Try.ntmps3
    go_wp2_with fail
    go_ret
    exact ⟨rfl, Below.refl _ _⟩
  · have h1' : ¬ (3000 : Int) < (a1.size : Int) := by omega
    have c1 := fun w => take_any a1 hm w
    have c2 := fun w => rtake_any a1 hm w
    generalize tk a1.data.toList = p at c1 c2
    obtain ⟨v, r, e⟩ := p
    have C1 := Lib.hid c1
    have C2 := Lib.hid c2
    clear c1 c2 hm w0
    go_enter Try.func3, Try.ntmps3
    go_wp2_with fail
    refine (C1.out _).mono ?_; rintro e w1 ⟨rfl, b1⟩
    go_wp2_with fail
    refine (C2.out _).mono ?_; rintro e w2 ⟨rfl, b2⟩
    go_wp2_with fail
    refine (wired_any _).mono ?_; rintro e w3 ⟨rfl, b3⟩
    go_wp2_with fail
    refine (put_any a ha _).mono ?_; rintro e w4 ⟨rfl, b4⟩
    go_wp2_with fail
    refine (rput_any a ha _).mono ?_; rintro e w5 ⟨rfl, b5⟩
    go_wp2_with fail
    go_ret
    exact ⟨rfl, up_trans (up_trans (up_trans (up_trans b1 b2) b3) b4) b5⟩
end Go.Proofs.Ytbafooofenpenaa
