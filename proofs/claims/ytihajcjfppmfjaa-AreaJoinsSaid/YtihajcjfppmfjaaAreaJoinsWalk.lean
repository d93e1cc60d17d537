/- The walk of the law AreaJoins: bytes put in two pieces are those put at once; got in two pieces they are those got at once. -/
import Derived.Test.YtihajcjfppmfjaaArH
namespace Go.Proofs.Ytihajcjfppmfjaa
open Go.RowKit Sec

set_option maxRecDepth 100000 in
/-- Inputs that the law lets go. -/
theorem joins_far (m n k o : Int) (b c : ByteArray) (hb : 32 < m ∨ 5000 < b.size ∨ 5000 < c.size) (w : World) :
    Calls Try.prog 4 #[.int .i64 m, .int .i64 n, .int .i64 k, .int .i64 o, .string b, .string c] w fun e w' => e = .returned (.bool true) ∧ Below w.heap.size w w' := by
  by_cases h1 : 32 < m
  · clear hb
    go_enter Try.func4, Try.ntmps4
    go_wp2_with fail
    go_ret
    exact ⟨rfl, Below.refl _ _⟩
  have h1' : m ≤ 32 := by omega
  by_cases h2 : 5000 < b.size
  · have h2' : (5000 : Int) < (b.size : Int) := by omega
    clear hb h1 h2
    go_enter Try.func4, Try.ntmps4
    go_wp2_with fail
    go_ret
    exact ⟨rfl, Below.refl _ _⟩
  have h2' : (b.size : Int) ≤ 5000 := by omega
  have h3' : (5000 : Int) < (c.size : Int) := by omega
  clear hb h1 h2
  go_enter Try.func4, Try.ntmps4
  go_wp2_with fail
  go_ret
  exact ⟨rfl, Below.refl _ _⟩

set_option maxRecDepth 100000 in
/-- Disks, or areas, that may not be. -/
theorem joins_none (m n k o : Int) (b c : ByteArray) (hm : m ≤ 32) (hb : b.size ≤ 5000) (hc : c.size ≤ 5000) (hk : k < 9223372036854775808) (hbad : m < 1 ∨ n < 64 ∨ 1024 < n ∨ k < 1 ∨ m < k) (w : World) :
    Calls Try.prog 4 #[.int .i64 m, .int .i64 n, .int .i64 k, .int .i64 o, .string b, .string c] w fun e w' => e = .returned (.bool true) ∧ Below w.heap.size w w' := by
  have hb' : (b.size : Int) ≤ 5000 := by omega
  have hc' : (c.size : Int) ≤ 5000 := by omega
  by_cases h : m < 1 ∨ 4096 < m ∨ n < 64 ∨ 1024 < n
  · have C := Lib.hid (new_bad m n h)
    clear h hbad hb hc hk
    go_enter Try.func4, Try.ntmps4
    go_wp2_with fail
    refine (C.out _).mono ?_; rintro e w1 ⟨rfl, rfl⟩
    go_wp2_with fail
    refine (C.out _).mono ?_; rintro e w1 ⟨rfl, rfl⟩
    go_wp2_with fail
    refine (anew_nil 0 k _).mono ?_; rintro e w1 ⟨rfl, rfl⟩
    go_wp2_with fail
    refine (anew_nil 0 k _).mono ?_; rintro e w1 ⟨rfl, rfl⟩
    go_wp2_with fail
    refine (placed_any _).mono ?_; rintro e w2 ⟨rfl, b2⟩
    have B2 := Lib.hid b2
    clear b2
    go_wp2_with fail
    go_ret
    exact ⟨rfl, B2.out⟩
  · obtain ⟨m, rfl⟩ : ∃ k : Nat, m = k := ⟨m.toNat, by omega⟩
    obtain ⟨n, rfl⟩ : ∃ k : Nat, n = k := ⟨n.toNat, by omega⟩
    have C := Lib.hid (new_ok m n (by omega) (by omega) (by omega) (by omega))
    have HB := Lib.hid (show k < 1 ∨ (0 : Int) < 0 ∨ (m : Int) - k < 0 by omega)
    have HK := Lib.hid hk
    clear h hbad hb hc hk
    go_enter Try.func4, Try.ntmps4
    go_wp2_with fail
    refine (C.out _).mono ?_; rintro e w1 ⟨d, rfl, M1, b1⟩
    have M := Lib.hid M1
    have B1 := Lib.hid b1
    clear M1 b1
    go_wp2_with fail
    refine (C.out _).mono ?_; rintro e w2 ⟨d2, rfl, M2, b2⟩
    replace M := Lib.hid (M.out.up b2)
    have M2 := Lib.hid M2
    have B2 := Lib.hid (up_trans B1.out b2)
    clear b2
    go_wp2_with fail
    refine (anew_bad M.out 0 k HK.out HB.out).mono ?_; rintro e w3 ⟨rfl, j, rfl⟩
    go_wp2_with fail
    refine (anew_bad (M2.out.up (drewN_below j)) 0 k HK.out HB.out).mono ?_; rintro e w4 ⟨rfl, j2, rfl⟩
    go_wp2_with fail
    refine (placed_any _).mono ?_; rintro e w5 ⟨rfl, b5⟩
    have B5 := Lib.hid (up_trans (up_trans B2.out (drewN_below (j + j2))) b5)
    clear b5
    go_wp2_with fail
    go_ret
    exact ⟨rfl, B5.out⟩

/-- Both disks and their areas, made. -/
theorem joins_new {m n : Nat} {k : Nat} (h5 : 1 ≤ k) (h6 : k ≤ m) {w0 w1 w2 : World} {d e : Nat} (b1 : Below w0.heap.size w0 w1) (b2 : Below w1.heap.size w1 w2) (M1 : Mine w0.heap.size w1 d (Dk.new m n)) :
    Calls Try.prog 7 #[dp d, .int .i64 0, .int .i64 (k : Nat)] w2 fun r w3 => ∃ a, r = .returned (.tuple #[ap a, .int .i64 0]) ∧ Below w2.heap.size w2 w3 ∧
      (Mine w1.heap.size w2 e (Dk.new m n) → Calls Try.prog 7 #[dp e, .int .i64 0, .int .i64 (k : Nat)] w3 fun r w4 => ∃ b, r = .returned (.tuple #[ap b, .int .i64 0]) ∧
        PR w0.heap.size w4 a d b e k m n (List.replicate (m * n) 0) (List.replicate (m * n) 0) 0 (List.replicate (m * n) 0) (List.replicate (m * n) 0) 0 ∧ Below w0.heap.size w0 w4) := by
  have z2 := b2.size
  have C1 := anew_ok (M1.narrow.up b2) (fun k hk => by omega) 0 k h5 (by show 0 + k ≤ m; omega)
  refine C1.mono ?_
  rintro r w3 ⟨a, rfl, ga, A1, b3⟩
  refine ⟨a, rfl, b3, fun M2 => ?_⟩
  have z3 := b3.size
  have C2 := anew_ok (M2.narrow.up b3) (fun k hk => by omega) 0 k h5 (by show 0 + k ≤ m; omega)
  refine C2.mono ?_
  rintro r w4 ⟨b, rfl, gb, A2, b4⟩
  exact ⟨b, rfl, pr_new b1 b2 (up_trans b3 b4) (A1.dsk.up b4) A2.dsk (A1.hA.up b4) A2.hA ga (by omega) h5 h6, up_trans (up_trans (up_trans b1 b2) b3) b4⟩

set_option maxHeartbeats 1000000 in
set_option maxRecDepth 100000 in
/-- A place that the law lets go. -/
theorem joins_out (m n k : Nat) (o : Int) (b c : ByteArray) (h1 : 1 ≤ m) (h2 : m ≤ 32) (h3 : 64 ≤ n) (h4 : n ≤ 1024) (h5 : 1 ≤ k) (h6 : k ≤ m) (hb : b.size ≤ 5000) (hc : c.size ≤ 5000) (ho : o < 0 ∨ 100000 < o) (w : World) :
    Calls Try.prog 4 #[.int .i64 (m : Nat), .int .i64 (n : Nat), .int .i64 (k : Nat), .int .i64 o, .string b, .string c] w fun e w' => e = .returned (.bool true) ∧ Below w.heap.size w w' := by
  have hm' : (m : Int) ≤ 32 := by omega
  have hb' : (b.size : Int) ≤ 5000 := by omega
  have hc' : (c.size : Int) ≤ 5000 := by omega
  have NW := Lib.hid (new_ok m n h1 (by omega) h3 h4)
  have JN := Lib.hid (fun (w1 w2 : World) (d e : Nat) => joins_new (m := m) (n := n) h5 h6 (w0 := w) (w1 := w1) (w2 := w2) (d := d) (e := e))
  clear h1 h2 h3 h4 h5 h6 hb hc
  rcases ho with ho | ho
  · go_enter Try.func4, Try.ntmps4
    go_wp2_with fail
    refine (NW.out _).mono ?_; rintro r w1 ⟨d, rfl, m1, b1⟩
    have M1 := Lib.hid m1
    have B1 := Lib.hid b1
    clear m1 b1
    go_wp2_with fail
    refine (NW.out _).mono ?_; rintro r w2 ⟨e, rfl, m2, b2⟩
    have M2 := Lib.hid m2
    have B2 := Lib.hid b2
    clear m2 b2
    go_wp2_with fail
    refine (JN.out _ _ _ e B1.out B2.out M1.out).mono ?_; rintro r w3 ⟨a, rfl, b3, j3⟩
    have J3 := Lib.hid (j3 M2.out)
    clear j3 b3
    go_wp2_with fail
    refine J3.out.mono ?_; rintro r w4 ⟨b', rfl, m4, b4⟩
    have B4 := Lib.hid b4
    clear b4 m4
    go_wp2_with fail
    refine (placed_any _).mono ?_; rintro e w5 ⟨rfl, b5⟩
    have B5 := Lib.hid (up_trans B4.out b5)
    clear b5
    go_wp2_with fail
    go_ret
    exact ⟨rfl, B5.out⟩
  · have ho' : 0 ≤ o := by omega
    go_enter Try.func4, Try.ntmps4
    go_wp2_with fail
    refine (NW.out _).mono ?_; rintro r w1 ⟨d, rfl, m1, b1⟩
    have M1 := Lib.hid m1
    have B1 := Lib.hid b1
    clear m1 b1
    go_wp2_with fail
    refine (NW.out _).mono ?_; rintro r w2 ⟨e, rfl, m2, b2⟩
    have M2 := Lib.hid m2
    have B2 := Lib.hid b2
    clear m2 b2
    go_wp2_with fail
    refine (JN.out _ _ _ e B1.out B2.out M1.out).mono ?_; rintro r w3 ⟨a, rfl, b3, j3⟩
    have J3 := Lib.hid (j3 M2.out)
    clear j3 b3
    go_wp2_with fail
    refine J3.out.mono ?_; rintro r w4 ⟨b', rfl, m4, b4⟩
    have B4 := Lib.hid b4
    clear b4 m4
    go_wp2_with fail
    refine (placed_any _).mono ?_; rintro e w5 ⟨rfl, b5⟩
    have B5 := Lib.hid (up_trans B4.out b5)
    clear b5
    go_wp2_with fail
    go_ret
    exact ⟨rfl, B5.out⟩

/-- What is put in two pieces, and got in two. -/
theorem joined {V b c : List UInt8} {o : Nat} (h : o + (b.length + c.length) ≤ V.length) :
    lay (lay V o b) (o + b.length) c = lay V o (b ++ c) ∧ ((lay V o (b ++ c)).drop o).take b.length = b ∧ ((lay V o (b ++ c)).drop (o + b.length)).take c.length = c := by
  have e := lay_lay (L := V) (a := b) (b := c) (o := o) (by omega)
  have h1 := lay_there (L := V) (b := b ++ c) (o := o) (by rw [List.length_append]; exact h)
  refine ⟨e, ?_, ?_⟩
  · have h2 := congrArg (List.take b.length) h1
    rw [List.take_take, List.length_append, Nat.min_eq_left (by omega), List.take_left'  rfl] at h2
    exact h2
  · have h2 := congrArg (List.drop b.length) h1
    rw [List.drop_take, List.length_append, List.drop_drop, Nat.add_sub_cancel_left, List.drop_left' rfl] at h2
    exact h2

set_option maxHeartbeats 1000000 in
set_option maxRecDepth 100000 in
theorem joins_ok (m n k o : Nat) (b c : List UInt8) (h1 : 1 ≤ m) (h2 : m ≤ 32) (h3 : 64 ≤ n) (h4 : n ≤ 1024) (h5 : 1 ≤ k) (h6 : k ≤ m) (hb : b.length ≤ 5000) (hc : c.length ≤ 5000) (ho : o ≤ 100000) (w : World) :
    Calls Try.prog 4 #[.int .i64 (m : Nat), .int .i64 (n : Nat), .int .i64 (k : Nat), .int .i64 (o : Nat), .string ⟨b.toArray⟩, .string ⟨c.toArray⟩] w fun e w' => e = .returned (.bool true) ∧ Below w.heap.size w w' := by
  have hm' : (m : Int) ≤ 32 := by omega
  have hbs : (⟨b.toArray⟩ : ByteArray).size = b.length := text_list b
  have hcs : (⟨c.toArray⟩ : ByteArray).size = c.length := text_list c
  have hb' : (b.length : Int) ≤ 5000 := by omega
  have hc' : (c.length : Int) ≤ 5000 := by omega
  have ho' : (o : Int) ≤ 100000 := by omega
  obtain ⟨bc, hbc⟩ : ∃ q, q = b ++ c := ⟨_, rfl⟩
  have hjn : (⟨b.toArray⟩ : ByteArray) ++ ⟨c.toArray⟩ = ⟨bc.toArray⟩ := by rw [hbc]; exact join_lists b c
  have hbcl : bc.length = b.length + c.length := by rw [hbc, List.length_append]
  have hsm : ¬ 9223372036854775807 < b.length + c.length := by omega
  have hkn : k * n ≤ 32 * 1024 := Nat.mul_le_mul (by omega) h4
  have hmn : m * n ≤ 32 * 1024 := Nat.mul_le_mul h2 h4
  have NW := Lib.hid (new_ok m n h1 (by omega) h3 h4)
  have JN := Lib.hid (fun (w1 w2 : World) (d e : Nat) => joins_new (m := m) (n := n) h5 h6 (w0 := w) (w1 := w1) (w2 := w2) (d := d) (e := e))
  have HM := Lib.hid (show m ≤ 32 from h2)
  have HB := Lib.hid hb
  have HC := Lib.hid hc
  have HKM := Lib.hid (Nat.mul_le_mul_right n h6)
  obtain ⟨ob, hob⟩ : ∃ q, q = o + b.length := ⟨_, rfl⟩
  have e1 : Hid ((o : Int) + (b.length : Int) = (ob : Int)) := Lib.hid <| by omega
  have U0 : (o + b.length + c.length ≤ k * n ∧ aunfit (k * n) (o : Nat) (bc.length : Nat) = 0 ∧ aunfit (k * n) (o : Nat) (b.length : Nat) = 0 ∧ aunfit (k * n) (ob : Nat) (c.length : Nat) = 0) ∨
      (aunfit (k * n) (o : Nat) (bc.length : Nat) = 6 ∧ (aunfit (k * n) (o : Nat) (b.length : Nat) = 0 ∨ aunfit (k * n) (o : Nat) (b.length : Nat) = 6) ∧ aunfit (k * n) (ob : Nat) (c.length : Nat) = 6) := by
    rw [hbcl]
    unfold aunfit
    by_cases hq : o + b.length + c.length ≤ k * n
    · exact Or.inl ⟨hq, by rw [if_neg (by omega)], by rw [if_neg (by omega)], by rw [if_neg (by omega)]⟩
    · refine Or.inr ⟨by rw [if_pos (by omega)], ?_, by rw [if_pos (by omega)]⟩
      split <;> simp
  have UU := Lib.hid U0
  have HOB := Lib.hid hob
  have HBC := Lib.hid hbc
  have HBCL := Lib.hid hbcl
  clear hbc hbcl
  clear h1 h2 h3 h4 h5 h6 hb hc ho hkn hmn hob U0
  go_enter Try.func4, Try.ntmps4
  go_wp2_with fail
  refine (NW.out _).mono ?_; rintro r w1 ⟨d, rfl, m1, b1⟩
  have M1 := Lib.hid m1
  have B1 := Lib.hid b1
  clear m1 b1
  go_wp2_with fail
  refine (NW.out _).mono ?_; rintro r w2 ⟨e, rfl, m2, b2⟩
  have M2 := Lib.hid m2
  have B2 := Lib.hid b2
  clear m2 b2
  go_wp2_with fail
  refine (JN.out _ _ _ e B1.out B2.out M1.out).mono ?_; rintro r w3 ⟨a, rfl, b3, j3⟩
  have J3 := Lib.hid (j3 M2.out)
  clear j3 b3
  go_wp2_with fail
  refine J3.out.mono ?_; rintro r w4 ⟨a', rfl, m4, b4⟩
  clear M1 M2 B1 B2 J3 JN NW
  have M := Lib.hid m4
  have Bl := Lib.hid b4
  clear b4 m4
  go_wp2_with fail
  refine (pr_put Bl.out.size M.out (by omega) (o : Nat) bc (by rw [HBCL.out]; have := HB.out; have := HC.out; omega)).mono ?_; rintro r w5 ⟨rfl, m5, b5⟩
  replace M := Lib.hid m5.swap
  replace Bl := Lib.hid (Bl.out.trans b5)
  clear m5 b5
  go_wp2_with fail
  refine (pr_put Bl.out.size M.out (by omega) (o : Nat) b (by have := HB.out; omega)).mono ?_; rintro r w6 ⟨rfl, m6, b6⟩
  replace M := Lib.hid m6
  replace Bl := Lib.hid (Bl.out.trans b6)
  clear m6 b6
  go_wp2_with fail
  rw [e1.out]
  refine (pr_put Bl.out.size M.out (by have := HM.out; omega) (ob : Nat) c (by have := HC.out; omega)).mono ?_; rintro r w7 ⟨rfl, m7, b7⟩
  replace M := Lib.hid m7.swap
  replace Bl := Lib.hid (Bl.out.trans b7)
  clear m7 b7
  rcases UU.out with ⟨hle, u1, u2, u3⟩ | ⟨u1, u2, u3⟩
  · simp only [u1, u2, u3, if_true, Int.toNat_natCast] at M ⊢
    have FX := M.out.facts
    obtain ⟨f1, f2, f3, f4, f5, f6⟩ := FX
    have hz : (List.replicate (m * n) (0 : UInt8)).length = m * n := List.length_replicate
    generalize List.replicate (m * n) (0 : UInt8) = Z at *
    have hof : o + (b.length + c.length) ≤ Z.length := by rw [hz]; have := HKM.out; omega
    obtain ⟨g1, g2, g3⟩ := joined hof
    rw [← HBC.out] at g1 g2 g3
    rw [HOB.out, g1] at M
    rw [← HOB.out] at g3
    have G2 := Lib.hid g2
    have G3 := Lib.hid g3
    have U2 := Lib.hid u2
    have U3 := Lib.hid u3
    clear g1 g2 g3 f1 f2 f3 f4 f5 f6 hz hof hle u1 u2 u3 UU
    generalize lay Z o bc = V at *
    go_wp2_with fail
    refine (pr_sync Bl.out.size M.out (by have := HM.out; omega)).mono ?_; rintro r w8 ⟨rfl, m8, b8⟩
    replace M := Lib.hid m8.swap
    replace Bl := Lib.hid (Bl.out.trans b8)
    clear m8 b8
    go_wp2_with fail
    refine (pr_sync Bl.out.size M.out (by have := HM.out; omega)).mono ?_; rintro r w9 ⟨rfl, m9, b9⟩
    replace M := Lib.hid m9.swap
    replace Bl := Lib.hid (Bl.out.trans b9)
    clear m9 b9
    go_wp2_with fail
    have g5 := pr_get Bl.out.size M.out (o : Nat) (b.length : Nat) (by have := HB.out; omega)
    rw [U2.out, if_pos rfl, Int.toNat_natCast, Int.toNat_natCast, G2.out] at g5
    refine g5.mono ?_; rintro r w10 ⟨rfl, m10, b10⟩
    replace M := Lib.hid m10
    replace Bl := Lib.hid (Bl.out.trans b10)
    clear m10 b10 g5
    go_wp2_with fail
    rw [e1.out]
    have g6 := pr_get Bl.out.size M.out (ob : Nat) (c.length : Nat) (by have := HC.out; omega)
    rw [U3.out, if_pos rfl, Int.toNat_natCast, Int.toNat_natCast, G3.out] at g6
    refine g6.mono ?_; rintro r w11 ⟨rfl, m11, b11⟩
    replace M := Lib.hid m11
    replace Bl := Lib.hid (Bl.out.trans b11)
    clear m11 b11 g6
    go_wp2_with fail
    refine (placed_any _).mono ?_; rintro r w12 ⟨rfl, b12⟩
    replace M := Lib.hid (M.out.up b12)
    replace Bl := Lib.hid (up_trans Bl.out b12)
    clear b12
    go_wp2_with fail
    refine (pr_image M.out).mono ?_; rintro r w13 ⟨rfl, rfl⟩
    go_wp2_with fail
    refine (pr_image M.out.swap).mono ?_; rintro r w13 ⟨rfl, rfl⟩
    go_wp2_with fail
    go_ret
    exact ⟨rfl, Bl.out⟩
  · simp only [u1, u3] at M ⊢
    clear u1 u3 UU
    rcases u2 with u2 | u2
    · simp only [u2] at M ⊢
      clear u2
      go_wp2_with fail
      refine (pr_sync Bl.out.size M.out (by have := HM.out; omega)).mono ?_; rintro r w8 ⟨rfl, m8, b8⟩
      replace M := Lib.hid m8.swap
      replace Bl := Lib.hid (Bl.out.trans b8)
      clear m8 b8
      go_wp2_with fail
      refine (pr_sync Bl.out.size M.out (by have := HM.out; omega)).mono ?_; rintro r w9 ⟨rfl, m9, b9⟩
      replace Bl := Lib.hid (Bl.out.trans b9)
      clear m9 b9 M
      go_wp2_with fail
      refine (placed_any _).mono ?_; rintro r w12 ⟨rfl, b12⟩
      replace Bl := Lib.hid (up_trans Bl.out b12)
      clear b12
      go_wp2_with fail
      go_ret
      exact ⟨rfl, Bl.out⟩
    · simp only [u2] at M ⊢
      clear u2
      go_wp2_with fail
      refine (pr_sync Bl.out.size M.out (by have := HM.out; omega)).mono ?_; rintro r w8 ⟨rfl, m8, b8⟩
      replace M := Lib.hid m8.swap
      replace Bl := Lib.hid (Bl.out.trans b8)
      clear m8 b8
      go_wp2_with fail
      refine (pr_sync Bl.out.size M.out (by have := HM.out; omega)).mono ?_; rintro r w9 ⟨rfl, m9, b9⟩
      replace Bl := Lib.hid (Bl.out.trans b9)
      clear m9 b9 M
      go_wp2_with fail
      refine (placed_any _).mono ?_; rintro r w12 ⟨rfl, b12⟩
      replace Bl := Lib.hid (up_trans Bl.out b12)
      clear b12
      go_wp2_with fail
      go_ret
      exact ⟨rfl, Bl.out⟩

theorem AreaJoins_core (m n k : Int) (hk : k < 9223372036854775808) (o : Int) (b : ByteArray) (_hb : b.size ≤ maxLen) (c : ByteArray) (_hc : c.size ≤ maxLen) (w : World) :
    Calls Try.prog 4 #[.int .i64 m, .int .i64 n, .int .i64 k, .int .i64 o, .string b, .string c] w fun e w' => e = .returned (.bool true) ∧ Below w.heap.size w w' := by
  by_cases h1 : 32 < m ∨ 5000 < b.size ∨ 5000 < c.size
  · exact joins_far m n k o b c h1 w
  by_cases h2 : m < 1 ∨ n < 64 ∨ 1024 < n ∨ k < 1 ∨ m < k
  · exact joins_none m n k o b c (by omega) (by omega) (by omega) hk h2 w
  obtain ⟨m, rfl⟩ : ∃ q : Nat, m = q := ⟨m.toNat, by omega⟩
  obtain ⟨n, rfl⟩ : ∃ q : Nat, n = q := ⟨n.toNat, by omega⟩
  obtain ⟨k, rfl⟩ : ∃ q : Nat, k = q := ⟨k.toNat, by omega⟩
  by_cases h3 : o < 0 ∨ 100000 < o
  · exact joins_out m n k o b c (by omega) (by omega) (by omega) (by omega) (by omega) (by omega) (by omega) (by omega) h3 w
  obtain ⟨o, rfl⟩ : ∃ q : Nat, o = q := ⟨o.toNat, by omega⟩
  obtain ⟨b, rfl⟩ : ∃ l : List UInt8, b = ⟨l.toArray⟩ := ⟨b.data.toList, by cases b; simp⟩
  obtain ⟨c, rfl⟩ : ∃ l : List UInt8, c = ⟨l.toArray⟩ := ⟨c.data.toList, by cases c; simp⟩
  have hb := text_list b
  have hc := text_list c
  exact joins_ok m n k o b c (by omega) (by omega) (by omega) (by omega) (by omega) (by omega) (by omega) (by omega) (by omega) w

end Go.Proofs.Ytihajcjfppmfjaa
