/- The walk of the law WireTexts: a text is just the document's bytes, or refused, and bytes are just the document's text, or none. -/
import Derived.Test.YtbafooofenpenaaWired
import Derived.Test.YtbafooofenpenaaWireH
namespace Go.Proofs.Ytbafooofenpenaa
open Go.RowKit Wire

set_option maxHeartbeats 800000 in
set_option maxRecDepth 100000 in
theorem WireTexts_walk (a0 : ByteArray) (a1 : ByteArray) (z0 : a0.size ≤ 140737488351232) (z1 : a1.size ≤ 140737488351232) (w : World) :
    Calls Try.prog 6 #[.string a0, .string a1] w fun e w' => e = .returned (.bool true) ∧ Below w.heap.size w w' := by
  have hm0 : a0.size ≤ maxLen := by unfold maxLen; omega
  have hm1 : a1.size ≤ maxLen := by unfold maxLen; omega
  by_cases h0 : 70000 < a0.size
  · have h0' : (70000 : Int) < (a0.size : Int) := by omega
    go_enter Try.func6, Try.ntmps6
    go_wp2_with fail
    go_ret
    exact ⟨rfl, Below.refl _ _⟩
  · have h0' : ¬ (70000 : Int) < (a0.size : Int) := by omega
    have d0 : decide ((70000 : Int) < (a0.size : Int)) = false := by simpa using h0'
    by_cases h1 : 70000 < a1.size
    · have h1' : (70000 : Int) < (a1.size : Int) := by omega
      go_enter Try.func6, Try.ntmps6
      go_wp2_with fail
      go_ret
      exact ⟨rfl, Below.refl _ _⟩
    · have h1' : ¬ (70000 : Int) < (a1.size : Int) := by omega
      have d1 : decide ((70000 : Int) < (a1.size : Int)) = false := by simpa using h1'
      have c1 := fun w => text_any a0 hm0 w
      have c2 := fun w => rtext_any a0 hm0 w
      have c3 := fun w => takeText_any a1 hm1 w
      have c4 := fun w => rtakeText_any a1 hm1 w
      generalize txt a0.data.toList = p at c1 c2
      generalize tkt a1.data.toList = q at c3 c4
      obtain ⟨r, e⟩ := p
      obtain ⟨x, y, f⟩ := q
      have C1 := Lib.hid c1
      have C2 := Lib.hid c2
      have C3 := Lib.hid c3
      have C4 := Lib.hid c4
      clear c1 c2 c3 c4 hm0 hm1 h0 h1
      go_enter Try.func6, Try.ntmps6
      go_wp2_with fail
      refine (C1.out _).mono ?_; rintro e w1 ⟨rfl, b1⟩
      go_wp2_with fail
      refine (C2.out _).mono ?_; rintro e w2 ⟨rfl, b2⟩
      go_wp2_with fail
      refine (C3.out _).mono ?_; rintro e w3 ⟨rfl, b3⟩
      go_wp2_with fail
      refine (C4.out _).mono ?_; rintro e w4 ⟨rfl, b4⟩
      go_wp2_with fail
      refine (wired_any _).mono ?_; rintro e w5 ⟨rfl, b5⟩
      go_wp2_with fail
      go_ret
      exact ⟨rfl, up_trans (up_trans (up_trans (up_trans b1 b2) b3) b4) b5⟩
end Go.Proofs.Ytbafooofenpenaa
