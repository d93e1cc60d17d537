/- The walk of the law WireSigns: an int is just the document's number, and a number just its int; ints that are no farther from 0 are no greater ones. -/
import Derived.Test.YtbafooofenpenaaWired
namespace Go.Proofs.Ytbafooofenpenaa
open Go.RowKit Wire

theorem wf_i64 {n : Int} (h : (Lit.int .i64 n).wf = true) : -9223372036854775808 ≤ n ∧ n ≤ 9223372036854775807 := bounds_i64 h

set_option maxHeartbeats 800000 in
set_option maxRecDepth 100000 in
theorem WireSigns_walk (a0 : Int) (a1 : Int) (a2 : Int) (w0 : (Lit.int .i64 a0).wf = true) (w1 : (Lit.int .i64 a1).wf = true) (w2 : (Lit.int .u64 a2).wf = true) (w : World) :
    Calls Try.prog 5 #[.int .i64 a0, .int .i64 a1, .int .u64 a2] w fun e w' => e = .returned (.bool true) ∧ Below w.heap.size w w' := by
  obtain ⟨n, rfl, hn⟩ := wf_u64 w2
  obtain ⟨k1, k2⟩ := wf_i64 w0
  obtain ⟨j1, j2⟩ := wf_i64 w1
  have C1 := Lib.hid (fun w => sign_any a0 k1 k2 w)
  have C2 := Lib.hid (fun w => rsign_any a0 k1 k2 w)
  have C3 := Lib.hid (fun w => sign_any a1 j1 j2 w)
  have C4 := Lib.hid (fun w => signed_any n hn w)
  have C5 := Lib.hid (fun w => rsigned_any n hn w)
  have hg := @sg_near a0 a1
  clear w0 w1 w2 k1 k2 j1 j2 hn
  generalize sd n = sn at *
  by_cases hk : 0 ≤ a0
  · by_cases hj : a0 ≤ a1
    · have hg' := hg (Or.inl ⟨hk, hj⟩)
      generalize sg a0 = x at *
      generalize sg a1 = y at *
      clear hg
      go_enter Try.func5, Try.ntmps5
      go_wp2_with fail
      refine (wired_any _).mono ?_; rintro e w1 ⟨rfl, b1⟩
      go_wp2_with fail
      refine (C1.out _).mono ?_; rintro e w2 ⟨rfl, rfl⟩
      go_wp2_with fail
      refine (C2.out _).mono ?_; rintro e w2 ⟨rfl, rfl⟩
      go_wp2_with fail
      refine (C4.out _).mono ?_; rintro e w2 ⟨rfl, rfl⟩
      go_wp2_with fail
      refine (C5.out _).mono ?_; rintro e w2 ⟨rfl, rfl⟩
      go_wp2_with fail
      refine (C1.out _).mono ?_; rintro e w2 ⟨rfl, rfl⟩
      go_wp2_with fail
      refine (C3.out _).mono ?_; rintro e w2 ⟨rfl, rfl⟩
      go_wp2_with fail
      go_ret
      exact ⟨by simp, b1⟩
    · have d : decide (a0 ≤ a1) = false := by simpa using hj
      have d2 : decide (a0 < 0) = false := by simpa using hk
      clear hg
      generalize sg a0 = x at *
      go_enter Try.func5, Try.ntmps5
      go_wp2_with fail
      refine (wired_any _).mono ?_; rintro e w1 ⟨rfl, b1⟩
      go_wp2_with fail
      refine (C1.out _).mono ?_; rintro e w2 ⟨rfl, rfl⟩
      go_wp2_with fail
      refine (C2.out _).mono ?_; rintro e w2 ⟨rfl, rfl⟩
      go_wp2_with fail
      refine (C4.out _).mono ?_; rintro e w2 ⟨rfl, rfl⟩
      go_wp2_with fail
      refine (C5.out _).mono ?_; rintro e w2 ⟨rfl, rfl⟩
      go_wp2_with fail
      go_ret
      exact ⟨rfl, b1⟩
  · have d : decide (0 ≤ a0) = false := by simpa using hk
    have hk' : a0 < 0 := by omega
    by_cases hj : a1 ≤ a0
    · have hg' := hg (Or.inr ⟨hk', hj⟩)
      generalize sg a0 = x at *
      generalize sg a1 = y at *
      clear hg
      go_enter Try.func5, Try.ntmps5
      go_wp2_with fail
      refine (wired_any _).mono ?_; rintro e w1 ⟨rfl, b1⟩
      go_wp2_with fail
      refine (C1.out _).mono ?_; rintro e w2 ⟨rfl, rfl⟩
      go_wp2_with fail
      refine (C2.out _).mono ?_; rintro e w2 ⟨rfl, rfl⟩
      go_wp2_with fail
      refine (C4.out _).mono ?_; rintro e w2 ⟨rfl, rfl⟩
      go_wp2_with fail
      refine (C5.out _).mono ?_; rintro e w2 ⟨rfl, rfl⟩
      go_wp2_with fail
      refine (C1.out _).mono ?_; rintro e w2 ⟨rfl, rfl⟩
      go_wp2_with fail
      refine (C3.out _).mono ?_; rintro e w2 ⟨rfl, rfl⟩
      go_wp2_with fail
      go_ret
      exact ⟨by simp, b1⟩
    · have d2 : decide (a1 ≤ a0) = false := by simpa using hj
      clear hg
      generalize sg a0 = x at *
      go_enter Try.func5, Try.ntmps5
      go_wp2_with fail
      refine (wired_any _).mono ?_; rintro e w1 ⟨rfl, b1⟩
      go_wp2_with fail
      refine (C1.out _).mono ?_; rintro e w2 ⟨rfl, rfl⟩
      go_wp2_with fail
      refine (C2.out _).mono ?_; rintro e w2 ⟨rfl, rfl⟩
      go_wp2_with fail
      refine (C4.out _).mono ?_; rintro e w2 ⟨rfl, rfl⟩
      go_wp2_with fail
      refine (C5.out _).mono ?_; rintro e w2 ⟨rfl, rfl⟩
      go_wp2_with fail
      go_ret
      exact ⟨rfl, b1⟩
end Go.Proofs.Ytbafooofenpenaa
