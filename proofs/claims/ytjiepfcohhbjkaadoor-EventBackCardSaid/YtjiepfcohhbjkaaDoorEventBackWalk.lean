/- The walk of the law EventBack: what is put is got again, and no longer than thirty bytes; with a byte more behind it, or the last one less, it is none. -/
import Derived.Test.YtjiepfcohhbjkaaDoorHappened
import Derived.Laws.StructEq
namespace Go.Proofs.YtjiepfcohhbjkaaDoor
open Go.RowKit Wire Evt

theorem back_facts {s : Nat} {t p k a b : Int} (hs : s < 18446744073709551616) (h : Right t p k a b) (c : UInt8) : ∃ (x : ByteArray) (y : Evt.Told), (⟨(putE s t p k a b).toArray⟩ : ByteArray) = x ∧ 6 ≤ x.size ∧ x.size ≤ 30 ∧ got x.data.toList = ⟨s, t, p, k, a, b, 0⟩ ∧ got (x ++ ⟨#[c]⟩).data.toList = nothing 3 ∧ got (x.extract 0 (x.size - 1)).data.toList = y ∧ y.err ≠ 0 := by
  obtain ⟨l6, l30⟩ := putE_len hs h
  have hz : (⟨(putE s t p k a b).toArray⟩ : ByteArray).size = (putE s t p k a b).length := text_list _
  refine ⟨_, _, rfl, by omega, by omega, got_put hs h, ?_, rfl, ?_⟩
  · have e : ((⟨(putE s t p k a b).toArray⟩ : ByteArray) ++ ⟨#[c]⟩).data.toList = putE s t p k a b ++ [c] := by simp
    rw [e]
    exact got_more hs h c
  · rw [hz]
    have e : ((⟨(putE s t p k a b).toArray⟩ : ByteArray).extract 0 ((putE s t p k a b).length - 1)).data.toList = (putE s t p k a b).take ((putE s t p k a b).length - 1) := by
      rw [Lib.extract_data]; simp
    rw [e]
    have hne : putE s t p k a b ≠ [] := by simp [putE]
    refine got_less hs h (c := (putE s t p k a b).getLast hne) ?_
    rw [← List.dropLast_eq_take]
    exact List.dropLast_concat_getLast hne

set_option maxHeartbeats 4000000 in
set_option maxRecDepth 100000 in
theorem EventBack_core (s : Nat) (t p k a b : Int) (hs : s < 18446744073709551616) (c : UInt8) (w : World) (hT : Names w) :
    Calls Tryd.prog 6 #[.agg #[.int .u64 (s : Nat), .int .i64 t, .int .i64 p, .int .i64 k, .int .i64 a, .int .i64 b], .int .u8 (c.toNat : Nat)] w fun e w' => e = .returned (.bool true) ∧ Below w.heap.size w w' := by
  have p1 := fun w => eput_any s t p k a b hs w
  have i1 := fun w => is_any s t p k a b w
  have HT := Lib.hid hT
  clear hT
  cases hE : isE t p k a b with
  | false =>
    rw [hE] at i1
    rw [putR_no hE] at p1
    have P1 := Lib.hid p1
    have I1 := Lib.hid i1
    clear p1 i1 hE
    go_enter Tryd.func6, Tryd.ntmps6
    go_wp2_with fail
    refine (P1.out _).mono ?_; rintro e w1 ⟨rfl, b1⟩
    have HX := Lib.hid ((Has.make w 24 [.int .u64 (s : Nat), .int .i64 t, .int .i64 p, .int .i64 k, .int .i64 a, .int .i64 b]).up b1)
    have B1 := Lib.hid (up_trans (up_alloc (Below.refl w.heap.size w) _) b1)
    clear b1
    go_wp2_with fail
    refine (happened_any _ (HT.out.up B1.out)).mono ?_; rintro e w3 ⟨rfl, b3⟩
    have X1 := HX.out.up b3
    have c0 := X1.at (i := 0) rfl
    have c1 := X1.at (i := 1) rfl
    have c2 := X1.at (i := 2) rfl
    have c3 := X1.at (i := 3) rfl
    have c4 := X1.at (i := 4) rfl
    have c5 := X1.at (i := 5) rfl
    have B3 := Lib.hid (up_trans B1.out b3)
    clear X1 b3
    go_wp2_with fail
    refine (I1.out _).mono ?_; rintro e w4 ⟨rfl, b4⟩
    go_wp2_with fail
    go_ret
    exact ⟨rfl, up_trans B3.out b4⟩
  | true =>
    obtain ⟨x, y, hx, h6, h30, q1, q2, q3, q4⟩ := back_facts hs (isE_yes.1 hE) c
    rw [hE] at i1
    rw [putR_yes hE] at p1
    simp only [hx] at p1
    have g1 := fun w => get_any x (by omega) w
    have g2 := fun w => get_any (x ++ ⟨#[c]⟩) (by rw [ByteArray.size_append]; show x.size + 1 ≤ _; omega) w
    have g3 := fun w => get_any (x.extract 0 (x.size - 1)) (by rw [ByteArray.size_extract]; omega) w
    rw [q1] at g1
    rw [q2] at g2
    rw [q3] at g3
    obtain ⟨s', t', p', k', a', b', e⟩ := y
    have d0 : ((e : Int) != 0) = true := by rw [bne_iff_ne]; have : e ≠ 0 := q4; omega
    simp only [ans, nothing] at g1 g2 g3
    have P1 := Lib.hid p1
    have I1 := Lib.hid i1
    have G1 := Lib.hid g1
    have G2 := Lib.hid g2
    have G3 := Lib.hid g3
    have z6 : ¬ (x.size : Int) < 6 := by omega
    have z30 : ¬ (30 : Int) < (x.size : Int) := by omega
    have z1 : decide ((x.size : Int) < 6) = false := by simpa using z6
    have z2 : (0 : Int) ≤ (x.size : Int) - 1 := by omega
    have z3 : (1 : Int) ≤ (x.size : Int) := by omega
    have z4 : ¬ 9223372036854775807 < x.size + 1 := by omega
    clear p1 i1 g1 g2 g3 hE hx q1 q2 q3 q4
    go_enter Tryd.func6, Tryd.ntmps6
    go_wp2_with fail
    refine (P1.out _).mono ?_; rintro e w1 ⟨rfl, b1⟩
    have HX := Lib.hid ((Has.make w 24 [.int .u64 (s : Nat), .int .i64 t, .int .i64 p, .int .i64 k, .int .i64 a, .int .i64 b]).up b1)
    have B1 := Lib.hid (up_trans (up_alloc (Below.refl w.heap.size w) _) b1)
    clear b1
    go_wp2_with fail
    refine (G1.out _).mono ?_; rintro e w2 ⟨rfl, b2⟩
    have B2 := Lib.hid (up_trans B1.out b2)
    have HX2 := Lib.hid (HX.out.up b2)
    clear b2 HX
    have hc := has_text (n := 1) (Has.make2 w2 (Obj.cells #[.int .u64 (s : Nat), .int .i64 t, .int .i64 p, .int .i64 k, .int .i64 a, .int .i64 b] 24) 5 (bys [c])) rfl
    simp only [bys, List.map_cons, List.map_nil] at hc
    go_wp2_with fail
    refine (G2.out _).mono ?_; rintro e w3 ⟨rfl, b3⟩
    have HX3 := Lib.hid (((HX2.out.alloc _).alloc _).up b3)
    have HY3 := Lib.hid (((Has.make w2 24 [.int .u64 (s : Nat), .int .i64 t, .int .i64 p, .int .i64 k, .int .i64 a, .int .i64 b]).alloc _).up b3)
    have B3 := Lib.hid (up_trans (up_alloc (up_alloc B2.out _) _) b3)
    clear b3 hc HX2 B2
    go_wp2_with fail
    refine (G3.out _).mono ?_; rintro e w4 ⟨rfl, b4⟩
    have HX4 := Lib.hid ((HX3.out.alloc _).up b4)
    have HY4 := Lib.hid ((HY3.out.alloc _).up b4)
    have B4 := Lib.hid (up_trans (up_alloc B3.out _) b4)
    clear b4 HX3 HY3 B3
    go_wp2_with fail
    refine (happened_any _ (HT.out.up (up_alloc B4.out _))).mono ?_; rintro e w5 ⟨rfl, b5⟩
    have X1 := (HX4.out.alloc _).up b5
    have Y1 := (HY4.out.alloc _).up b5
    have B5 := Lib.hid (up_trans (up_alloc B4.out _) b5)
    have c0 := X1.at (i := 0) rfl
    have c1 := X1.at (i := 1) rfl
    have c2 := X1.at (i := 2) rfl
    have c3 := X1.at (i := 3) rfl
    have c4 := X1.at (i := 4) rfl
    have c5 := X1.at (i := 5) rfl
    have e0 := Y1.at (i := 0) rfl
    have e1 := Y1.at (i := 1) rfl
    have e2 := Y1.at (i := 2) rfl
    have e3 := Y1.at (i := 3) rfl
    have e4 := Y1.at (i := 4) rfl
    have e5 := Y1.at (i := 5) rfl
    clear b5 HX4 HY4 B4 X1 Y1
    go_wp2_with fail
    refine (I1.out _).mono ?_; rintro e w6 ⟨rfl, b6⟩
    go_wp2_with fail
    go_ret
    exact ⟨rfl, up_trans B5.out b6⟩

end Go.Proofs.YtjiepfcohhbjkaaDoor
