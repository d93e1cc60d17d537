/- The walk of the law EventOnly: what is got is right, and just what would be put; what is not got is told as nothing. -/
import Derived.Test.YtjiepfcohhbjkaaDoorHappened
import Derived.Laws.StructEq
namespace Go.Proofs.YtjiepfcohhbjkaaDoor
open Go.RowKit Wire Evt

theorem bytes_same (x : ByteArray) : (⟨x.data.toList.toArray⟩ : ByteArray) = x := by
  apply ByteArray.ext
  simp

theorem name_some {k : Int} (h : isK k = true) : 0 < (nmK k).size := by
  rcases kinds h with rfl | rfl | rfl | rfl | rfl | rfl | rfl | rfl <;> decide

set_option maxHeartbeats 4000000 in
set_option maxRecDepth 100000 in
theorem EventOnly_core (x : ByteArray) (w : World) (hT : Names w) :
    Calls Tryd.prog 7 #[.string x] w fun e w' => e = .returned (.bool true) ∧ Below w.heap.size w w' := by
  by_cases hl : 1000 < x.size
  · have h : (1000 : Int) < (x.size : Int) := by omega
    go_enter Tryd.func7, Tryd.ntmps7
    go_wp2_with fail
    go_ret
    exact ⟨rfl, Below.refl _ _⟩
  · have h : ¬ (1000 : Int) < (x.size : Int) := by omega
    have g1 := fun w => get_any x (by omega) w
    have HT := Lib.hid hT
    clear hT hl
    by_cases he : (got x.data.toList).err = 0
    · obtain ⟨s, t, p, k, a, b, e, hq⟩ : ∃ s t p k a b e, got x.data.toList = ⟨s, t, p, k, a, b, e⟩ := ⟨_, _, _, _, _, _, _, rfl⟩
      rw [hq] at g1 he
      obtain rfl : e = 0 := he
      obtain ⟨hE, hp, hs⟩ := got_back hq
      simp only [ans] at g1
      have G1 := Lib.hid g1
      have p1 := fun w => eput_any s t p k a b hs w
      rw [putR_yes hE, hp] at p1
      simp only [bytes_same] at p1
      have P1 := Lib.hid p1
      have i1 := fun w => is_any s t p k a b w
      rw [hE] at i1
      have I1 := Lib.hid i1
      have hk : isK k = true := isK_yes.2 ⟨(isE_yes.1 hE).k1, (isE_yes.1 hE).k8⟩
      have hn := text_no (name_some hk)
      have N1 := Lib.hid (fun w h => name_any k w h)
      generalize nmK k = nv at *
      clear g1 p1 i1 hq hE hp hs hk
      go_enter Tryd.func7, Tryd.ntmps7
      go_wp2_with fail
      refine (G1.out _).mono ?_; rintro e w1 ⟨rfl, b1⟩
      have B1 := Lib.hid b1
      clear b1
      go_wp2_with fail
      refine (P1.out _).mono ?_; rintro e w2 ⟨rfl, b2⟩
      have X1 := (Has.make w1 24 [.int .u64 (s : Nat), .int .i64 t, .int .i64 p, .int .i64 k, .int .i64 a, .int .i64 b]).up b2
      have B2 := Lib.hid (up_trans (up_alloc B1.out _) b2)
      have HX := Lib.hid X1
      clear b2 X1
      go_wp2_with fail
      refine (happened_any _ (HT.out.up B2.out)).mono ?_; rintro e w3 ⟨rfl, b3⟩
      have X1 := HX.out.up b3
      have c0 := X1.at (i := 0) rfl
      have c1 := X1.at (i := 1) rfl
      have c2 := X1.at (i := 2) rfl
      have c3 := X1.at (i := 3) rfl
      have c4 := X1.at (i := 4) rfl
      have c5 := X1.at (i := 5) rfl
      have B3 := Lib.hid (up_trans B2.out b3)
      have HX3 := Lib.hid X1
      clear X1 b3
      go_wp2_with fail
      refine (I1.out _).mono ?_; rintro e w4 ⟨rfl, b4⟩
      have d3 := (HX3.out.up b4).at (i := 3) rfl
      have B4 := Lib.hid (up_trans B3.out b4)
      clear b4 c0 c1 c2 c3 c4 c5
      go_wp2_with fail
      refine (N1.out _ (HT.out.up B4.out)).mono ?_; rintro e w5 ⟨rfl, rfl⟩
      go_wp2_with fail
      go_ret
      exact ⟨rfl, B4.out⟩
    · rw [got_bad he] at g1
      generalize (got x.data.toList).err = e at *
      have d0 : ((e : Int) != 0) = true := by rw [bne_iff_ne]; omega
      simp only [ans, nothing] at g1
      have G1 := Lib.hid g1
      clear g1 he
      go_enter Tryd.func7, Tryd.ntmps7
      go_wp2_with fail
      refine (G1.out _).mono ?_; rintro e w1 ⟨rfl, b1⟩
      have B1 := Lib.hid b1
      clear b1
      go_wp2_with fail
      refine (happened_any _ (HT.out.up (up_alloc B1.out _))).mono ?_; rintro e w3 ⟨rfl, b3⟩
      have X1 := (Has.make w1 24 [.int .u64 0, .int .i64 0, .int .i64 0, .int .i64 0, .int .i64 0, .int .i64 0]).up b3
      have c0 := X1.at (i := 0) rfl
      have c1 := X1.at (i := 1) rfl
      have c2 := X1.at (i := 2) rfl
      have c3 := X1.at (i := 3) rfl
      have c4 := X1.at (i := 4) rfl
      have c5 := X1.at (i := 5) rfl
      have B3 := Lib.hid (up_trans (up_alloc B1.out _) b3)
      clear X1 b3
      go_wp2_with fail
      go_ret
      exact ⟨rfl, B3.out⟩

end Go.Proofs.YtjiepfcohhbjkaaDoor
