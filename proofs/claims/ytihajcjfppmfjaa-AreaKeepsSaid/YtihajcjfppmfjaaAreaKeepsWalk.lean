/- The walk of the law AreaKeeps: what is put is got again, and all other bytes of the disk are as they were. -/
import Derived.Test.YtihajcjfppmfjaaArG
namespace Go.Proofs.Ytihajcjfppmfjaa
open Go.RowKit Sec

theorem text_of (b : ByteArray) : ∃ l : List UInt8, b = ⟨l.toArray⟩ := ⟨b.data.toList, by cases b; simp⟩

set_option maxRecDepth 100000 in
/-- Inputs that the law lets go. -/
theorem keeps_far (m n f k o o1 : Int) (b c : ByteArray) (hb : 32 < m ∨ 10000 < b.size ∨ 10000 < c.size) (w : World) :
    Calls Try.prog 3 #[.int .i64 m, .int .i64 n, .int .i64 f, .int .i64 k, .int .i64 o, .string b, .int .i64 o1, .string c] w fun e w' => e = .returned (.bool true) ∧ Below w.heap.size w w' := by
  by_cases h1 : 32 < m
  · clear hb
    go_enter Try.func3, Try.ntmps3
    go_wp2_with fail
    go_ret
    exact ⟨rfl, Below.refl _ _⟩
  have h1' : m ≤ 32 := by omega
  by_cases h2 : 10000 < b.size
  · have h2' : (10000 : Int) < (b.size : Int) := by omega
    clear hb h1 h2
    go_enter Try.func3, Try.ntmps3
    go_wp2_with fail
    go_ret
    exact ⟨rfl, Below.refl _ _⟩
  have h2' : (b.size : Int) ≤ 10000 := by omega
  have h3' : (10000 : Int) < (c.size : Int) := by omega
  clear hb h1 h2
  go_enter Try.func3, Try.ntmps3
  go_wp2_with fail
  go_ret
  exact ⟨rfl, Below.refl _ _⟩

set_option maxRecDepth 100000 in
/-- Disks, or areas, that may not be. -/
theorem keeps_none (m n f k o o1 : Int) (b c : ByteArray) (hm : m ≤ 32) (hb : b.size ≤ 10000) (hc : c.size ≤ 10000) (hk : k < 9223372036854775808) (hbad : m < 1 ∨ n < 64 ∨ 1024 < n ∨ k < 1 ∨ f < 0 ∨ m - k < f) (w : World) :
    Calls Try.prog 3 #[.int .i64 m, .int .i64 n, .int .i64 f, .int .i64 k, .int .i64 o, .string b, .int .i64 o1, .string c] w fun e w' => e = .returned (.bool true) ∧ Below w.heap.size w w' := by
  have hb' : (b.size : Int) ≤ 10000 := by omega
  have hc' : (c.size : Int) ≤ 10000 := by omega
  by_cases h : m < 1 ∨ 4096 < m ∨ n < 64 ∨ 1024 < n
  · have C := Lib.hid (new_bad m n h)
    clear h hbad hb hc hk
    go_enter Try.func3, Try.ntmps3
    go_wp2_with fail
    refine (C.out _).mono ?_; rintro e w1 ⟨rfl, rfl⟩
    go_wp2_with fail
    refine (anew_nil f k _).mono ?_; rintro e w1 ⟨rfl, rfl⟩
    go_wp2_with fail
    refine (placed_any _).mono ?_; rintro e w2 ⟨rfl, b2⟩
    have B2 := Lib.hid b2
    clear b2
    go_wp2_with fail
    go_ret
    exact ⟨rfl, B2.out⟩
  · obtain ⟨m, rfl⟩ : ∃ k : Nat, m = k := ⟨m.toNat, by omega⟩
    obtain ⟨n, rfl⟩ : ∃ k : Nat, n = k := ⟨n.toNat, by omega⟩
    have C := Lib.hid (new_ok m n (by omega) (by omega) (by omega) (by omega))
    have HB := Lib.hid (show k < 1 ∨ f < 0 ∨ (m : Int) - k < f by omega)
    have HK := Lib.hid hk
    clear h hbad hb hc hk
    go_enter Try.func3, Try.ntmps3
    go_wp2_with fail
    refine (C.out _).mono ?_; rintro e w1 ⟨d, rfl, M1, b1⟩
    have M := Lib.hid M1
    have B1 := Lib.hid b1
    clear M1 b1
    go_wp2_with fail
    refine (anew_bad M.out f k HK.out HB.out).mono ?_; rintro e w2 ⟨rfl, j, rfl⟩
    go_wp2_with fail
    refine (placed_any _).mono ?_; rintro e w3 ⟨rfl, b3⟩
    have B3 := Lib.hid (up_trans (up_trans B1.out (drewN_below j)) b3)
    clear b3
    go_wp2_with fail
    go_ret
    exact ⟨rfl, B3.out⟩

set_option maxHeartbeats 4000000 in
set_option maxRecDepth 100000 in
theorem keeps_ok (m n f k : Nat) (o o1 : Int) (b c : List UInt8) (h1 : 1 ≤ m) (h2 : m ≤ 32) (h3 : 64 ≤ n) (h4 : n ≤ 1024) (h5 : 1 ≤ k) (h6 : f + k ≤ m) (hb : b.length ≤ 10000) (hc : c.length ≤ 10000) (w : World) :
    Calls Try.prog 3 #[.int .i64 (m : Nat), .int .i64 (n : Nat), .int .i64 (f : Nat), .int .i64 (k : Nat), .int .i64 o, .string ⟨b.toArray⟩, .int .i64 o1, .string ⟨c.toArray⟩] w fun e w' => e = .returned (.bool true) ∧ Below w.heap.size w w' := by
  have hm' : (m : Int) ≤ 32 := by omega
  have hbs : (⟨b.toArray⟩ : ByteArray).size = b.length := text_list b
  have hcs : (⟨c.toArray⟩ : ByteArray).size = c.length := text_list c
  have hb' : (b.length : Int) ≤ 10000 := by omega
  have hc' : (c.length : Int) ≤ 10000 := by omega
  have NW := Lib.hid (new_ok m n h1 (by omega) h3 h4)
  have AN := Lib.hid (fun (d : Nat) (W : World) (hM : Mine w.heap.size W d (Dk.new m n)) (hz : w.heap.size ≤ W.heap.size) => as_new (B := w.heap.size) h1 (by omega) h3 h4 (fun _ h => h) hM hz f k h5 h6)
  have P1 := Lib.hid (fun (a d : Nat) (W : World) (hz : w.heap.size ≤ W.heap.size) (V L : List UInt8) (hA : AS w.heap.size W a d f k m n V L 0) => as_put hz hA (by omega) o1 c (by omega))
  have P2 := Lib.hid (fun (a d : Nat) (W : World) (hz : w.heap.size ≤ W.heap.size) (V L : List UInt8) (hA : AS w.heap.size W a d f k m n V L 0) => as_put hz hA (by omega) o b (by omega))
  have HM := Lib.hid h2
  have HBL := Lib.hid hb
  clear h1 h2 h3 h4 h5 h6 hb hc
  go_enter Try.func3, Try.ntmps3
  go_wp2_with fail
  refine (NW.out _).mono ?_; rintro e w1 ⟨d, rfl, M1, b1⟩
  have M := Lib.hid M1
  have Bl := Lib.hid b1
  clear M1 b1
  go_wp2_with fail
  refine (AN.out d _ M.out Bl.out.size).mono ?_; rintro e w2 ⟨a, rfl, m2, b2⟩
  clear M
  have M := Lib.hid m2
  replace Bl := Lib.hid (Bl.out.trans b2)
  clear m2 b2
  go_wp2_with fail
  refine (P1.out a d _ Bl.out.size _ _ M.out).mono ?_; rintro e w3 ⟨rfl, m3, b3⟩
  generalize (if aunfit (k * n) o1 (c.length : Nat) = 0 then lay (List.replicate (m * n) 0) (f * n + o1.toNat) c else List.replicate (m * n) 0) = V1 at m3
  generalize aunfit (k * n) o1 (c.length : Nat) = u1
  replace M := Lib.hid m3
  replace Bl := Lib.hid (Bl.out.trans b3)
  clear m3 b3
  go_wp2_with fail
  refine (as_sync Bl.out.size M.out (by have := HM.out; omega)).mono ?_; rintro e w4 ⟨rfl, m4, b4⟩
  replace M := Lib.hid m4
  replace Bl := Lib.hid (Bl.out.trans b4)
  clear m4 b4
  go_wp2_with fail
  refine (as_image M.out).mono ?_; rintro e w5 ⟨rfl, rfl⟩
  have FX := Lib.hid M.out.facts
  go_wp2_with fail
  refine (P2.out a d _ Bl.out.size _ _ M.out).mono ?_; rintro e w5 ⟨rfl, m5, b5⟩
  replace M := Lib.hid m5
  replace Bl := Lib.hid (Bl.out.trans b5)
  clear m5 b5
  go_wp2_with fail
  refine (as_get Bl.out.size M.out o (b.length : Nat) (by have := HBL.out; omega)).mono ?_; rintro e w6 ⟨rfl, m6, b6⟩
  replace M := Lib.hid m6
  replace Bl := Lib.hid (Bl.out.trans b6)
  clear m6 b6
  rcases aunfit_or (k * n) o (b.length : Nat) with hu | hu
  · obtain ⟨u2, _, u3⟩ := aunfit_in hu
    obtain ⟨x1, x2, x3, x4, x5, x6, x7, x8, x9, x10⟩ := FX.out
    obtain ⟨o, rfl⟩ : ∃ q : Nat, o = q := ⟨o.toNat, by omega⟩
    simp only [hu, if_true, Int.toNat_natCast] at M ⊢
    rw [Nat.add_mul] at x7
    obtain ⟨fn, hfn⟩ : ∃ q, q = f * n := ⟨_, rfl⟩
    have e1 : Hid (wrap64 ((f : Int) * (n : Int)) = (fn : Int)) := Lib.hid <| by
      rw [show (f : Int) * (n : Int) = (fn : Int) by rw [hfn]; simp]
      exact IntWalk.wrap64_in _ ⟨by omega, by have := HM.out; have h7 : f * n ≤ 4096 * 1024 := Nat.mul_le_mul x3 x5; omega⟩
    rw [← hfn] at M x7 ⊢
    obtain ⟨N, hN⟩ : ∃ q, q = m * n := ⟨_, rfl⟩
    rw [← hN] at x7 x8
    have hN2 : N ≤ 4194304 := by rw [hN]; exact Nat.le_trans (Nat.mul_le_mul x10 x5) (by omega)
    obtain ⟨lo, hlo⟩ : ∃ q, q = fn + o := ⟨_, rfl⟩
    obtain ⟨hi, hhi⟩ : ∃ q, q = lo + b.length := ⟨_, rfl⟩
    have hle : lo + b.length ≤ V1.length := by rw [x8]; omega
    have e2 : Hid (wrap64 ((fn : Int) + (o : Int)) = (lo : Int)) := Lib.hid <| by rw [IntWalk.wrap64_in _ ⟨by omega, by omega⟩]; omega
    have e3 : Hid (wrap64 ((lo : Int) + (b.length : Int)) = (hi : Int)) := Lib.hid <| by rw [IntWalk.wrap64_in _ ⟨by omega, by omega⟩]; omega
    rw [← hlo] at M ⊢
    have t1 := lay_there hle
    have t2 := lay_ahead hle
    have t3 := lay_behind hle
    have t4 := lay_len hle
    obtain ⟨V2, hV2⟩ : ∃ V, V = lay V1 lo b := ⟨_, rfl⟩
    rw [← hV2] at M t1 t2 t3 t4 ⊢
    rw [t1]
    rw [← hhi] at t3
    have s2 : (⟨V2.toArray⟩ : ByteArray).size = N := by rw [text_list, t4, x8]
    have s1 : (⟨V1.toArray⟩ : ByteArray).size = N := by rw [text_list, x8]
    have i1 : (⟨V2.toArray⟩ : ByteArray).extract 0 lo = ⟨(V1.take lo).toArray⟩ := by rw [extract_mid, show (⟨V2.toArray⟩ : ByteArray).data.toList = V2 from rfl, List.drop_zero, Nat.sub_zero, t2]
    have i2 : (⟨V1.toArray⟩ : ByteArray).extract 0 lo = ⟨(V1.take lo).toArray⟩ := by rw [extract_mid, show (⟨V1.toArray⟩ : ByteArray).data.toList = V1 from rfl, List.drop_zero, Nat.sub_zero]
    have i3 : (⟨V2.toArray⟩ : ByteArray).extract hi N = ⟨(V1.drop hi).toArray⟩ := by rw [extract_mid, show (⟨V2.toArray⟩ : ByteArray).data.toList = V2 from rfl, List.take_of_length_le (by rw [List.length_drop]; omega), t3]
    have i4 : (⟨V1.toArray⟩ : ByteArray).extract hi N = ⟨(V1.drop hi).toArray⟩ := by rw [extract_mid, show (⟨V1.toArray⟩ : ByteArray).data.toList = V1 from rfl, List.take_of_length_le (by rw [List.length_drop]; omega)]
    have i5 : (⟨V2.toArray⟩ : ByteArray).extract lo hi = ⟨b.toArray⟩ := by rw [extract_mid, show (⟨V2.toArray⟩ : ByteArray).data.toList = V2 from rfl, show hi - lo = b.length by omega, t1]
    have j1 : (lo : Int) ≤ (hi : Int) := by omega
    have j2 : (hi : Int) ≤ (N : Int) := by omega
    have j3 : (lo : Int) ≤ (N : Int) := by omega
    have j4 : ¬ N < hi := by omega
    have hMl := HM.out
    have hpe : 0 + m ≤ 100000 := by omega
    have HPE := Lib.hid hpe
    clear x1 x2 x3 x4 x5 x6 x7 x8 x9 x10 hfn hN hN2 hlo hhi hle t1 t2 t3 t4 hV2 hu u2 u3 P1 P2 AN NW FX hMl hpe
    go_wp2_with fail
    refine (as_sync Bl.out.size M.out HPE.out).mono ?_; rintro e w7 ⟨rfl, m7, b7⟩
    replace M := Lib.hid m7
    replace Bl := Lib.hid (Bl.out.trans b7)
    clear m7 b7
    go_wp2_with fail
    refine (as_image M.out).mono ?_; rintro e w8 ⟨rfl, rfl⟩
    replace e1 := e1.out
    replace e2 := e2.out
    replace e3 := e3.out
    go_wp2_with fail
    refine wp_region_held_drew (S := fun _ => True) (by kernel_rfl) (trivial) (fun hHeld => ?_)
    refine wpAnyH_ready (rs := [0]) (by kernel_rfl) (by simp) (AllReadyH.cons rfl (fun K hK => ?_) AllReadyH.nil)
    go_simp
    refine (placed_any _).mono ?_; rintro e wn ⟨rfl, hbn'⟩
    have hbn : Below w7.heap.size w7 wn := up_trans (Below.refl _ _).drew hbn'
    clear hbn'
    go_wp2_with fail
    refine hK.out _ _ (trivial) (fun hHeld => ?_)
    clear hK K
    try simp only [Act.put, List.getElem_toArray, List.getElem_cons_zero, List.getElem_cons_succ, List.setIfInBounds_toArray, List.set_cons_zero, List.set_cons_succ]
    refine wpAnyH_take (i := 1) (v := ?_) rfl (by kernel_rfl) (by kernel_rfl) (by kernel_rfl) (fun _ _ _ h => h) (Or.inl ⟨by rfl, ?_⟩) (by assumption) ?_
    rotate_left
    · intro w hSw; (try dsimp only at hSw); go_simp; try with_reducible rfl
    try simp only [Act.put, List.getElem_toArray, List.getElem_cons_zero, List.getElem_cons_succ, List.setIfInBounds_toArray, List.set_cons_zero, List.set_cons_succ]
    refine wpAnyH_take (i := 2) (v := ?_) rfl (by kernel_rfl) (by kernel_rfl) (by kernel_rfl) (fun _ _ _ h => h) (Or.inl ⟨by rfl, ?_⟩) (by assumption) ?_
    rotate_left
    · intro w hSw; (try dsimp only at hSw); go_simp; try with_reducible rfl
    try simp only [Act.put, List.getElem_toArray, List.getElem_cons_zero, List.getElem_cons_succ, List.setIfInBounds_toArray, List.set_cons_zero, List.set_cons_succ]
    refine wpAnyH_take (i := 3) (v := ?_) rfl (by kernel_rfl) (by kernel_rfl) (by kernel_rfl) (fun _ _ _ h => h) (Or.inl ⟨by rfl, ?_⟩) (by assumption) ?_
    rotate_left
    · intro w hSw; (try dsimp only at hSw); go_simp; try with_reducible rfl
    try simp only [Act.put, List.getElem_toArray, List.getElem_cons_zero, List.getElem_cons_succ, List.setIfInBounds_toArray, List.set_cons_zero, List.set_cons_succ]
    refine wpAnyH_take (i := 4) (v := ?_) rfl (by kernel_rfl) (by kernel_rfl) (by kernel_rfl) (fun _ _ _ h => h) (Or.inl ⟨by rfl, ?_⟩) (by assumption) ?_
    rotate_left
    · intro w hSw; (try dsimp only at hSw); go_simp; try with_reducible rfl
    try simp only [Act.put, List.getElem_toArray, List.getElem_cons_zero, List.getElem_cons_succ, List.setIfInBounds_toArray, List.set_cons_zero, List.set_cons_succ]
    refine wpAnyH_take (i := 5) (v := ?_) rfl (by kernel_rfl) (by kernel_rfl) (by kernel_rfl) (fun _ _ _ h => h) (Or.inl ⟨by rfl, ?_⟩) (by assumption) ?_
    rotate_left
    · intro w hSw; (try dsimp only at hSw); go_simp; try with_reducible rfl
    try simp only [Act.put, List.getElem_toArray, List.getElem_cons_zero, List.getElem_cons_succ, List.setIfInBounds_toArray, List.set_cons_zero, List.set_cons_succ]
    refine wpAnyH_take (i := 6) (v := ?_) rfl (by kernel_rfl) (by kernel_rfl) (by kernel_rfl) (fun _ _ _ h => h) (Or.inl ⟨by rfl, ?_⟩) (by assumption) ?_
    rotate_left
    · intro w hSw; (try dsimp only at hSw); go_simp; try with_reducible rfl
    try simp only [Act.put, List.getElem_toArray, List.getElem_cons_zero, List.getElem_cons_succ, List.setIfInBounds_toArray, List.set_cons_zero, List.set_cons_succ]
    refine wpAnyH_take (i := 7) (v := ?_) rfl (by kernel_rfl) (by kernel_rfl) (by kernel_rfl) (fun _ _ _ h => h) (Or.inl ⟨by rfl, ?_⟩) (by assumption) ?_
    rotate_left
    · intro w hSw; (try dsimp only at hSw); go_simp; try with_reducible rfl
    try simp only [Act.put, List.getElem_toArray, List.getElem_cons_zero, List.getElem_cons_succ, List.setIfInBounds_toArray, List.set_cons_zero, List.set_cons_succ]
    refine wpAnyH_take (i := 8) (v := ?_) rfl (by kernel_rfl) (by kernel_rfl) (by kernel_rfl) (fun _ _ _ h => h) (Or.inl ⟨by rfl, ?_⟩) (by assumption) ?_
    rotate_left
    · intro w hSw; (try dsimp only at hSw); go_simp; try with_reducible rfl
    try simp only [Act.put, List.getElem_toArray, List.getElem_cons_zero, List.getElem_cons_succ, List.setIfInBounds_toArray, List.set_cons_zero, List.set_cons_succ]
    refine wpAnyH_take (i := 9) (v := ?_) rfl (by kernel_rfl) (by kernel_rfl) (by kernel_rfl) (fun _ _ _ h => h) (Or.inl ⟨by rfl, ?_⟩) (by assumption) ?_
    rotate_left
    · intro w hSw; (try dsimp only at hSw); go_simp; try with_reducible rfl
    try simp only [Act.put, List.getElem_toArray, List.getElem_cons_zero, List.getElem_cons_succ, List.setIfInBounds_toArray, List.set_cons_zero, List.set_cons_succ]
    refine wpAnyH_take (i := 10) (v := ?_) rfl (by kernel_rfl) (by kernel_rfl) (by kernel_rfl) (fun _ _ _ h => h) (Or.inl ⟨by rfl, ?_⟩) (by assumption) ?_
    rotate_left
    · intro w hSw; (try dsimp only at hSw); go_simp; try with_reducible rfl
    try simp only [Act.put, List.getElem_toArray, List.getElem_cons_zero, List.getElem_cons_succ, List.setIfInBounds_toArray, List.set_cons_zero, List.set_cons_succ]
    refine wpAnyH_take (i := 11) (v := ?_) rfl (by kernel_rfl) (by kernel_rfl) (by kernel_rfl) (fun _ _ _ h => h) (Or.inl ⟨by rfl, ?_⟩) (by assumption) ?_
    rotate_left
    · intro w hSw; (try dsimp only at hSw); go_simp; try with_reducible rfl
    try simp only [Act.put, List.getElem_toArray, List.getElem_cons_zero, List.getElem_cons_succ, List.setIfInBounds_toArray, List.set_cons_zero, List.set_cons_succ]
    refine wpAnyH_take (i := 12) (v := ?_) rfl (by kernel_rfl) (by kernel_rfl) (by kernel_rfl) (fun _ _ _ h => h) (Or.inl ⟨by rfl, ?_⟩) (by assumption) ?_
    rotate_left
    · intro w hSw; (try dsimp only at hSw); go_simp; try with_reducible rfl
    try simp only [Act.put, List.getElem_toArray, List.getElem_cons_zero, List.getElem_cons_succ, List.setIfInBounds_toArray, List.set_cons_zero, List.set_cons_succ]
    refine wpAnyH_take (i := 13) (v := ?_) rfl (by kernel_rfl) (by kernel_rfl) (by kernel_rfl) (fun _ _ _ h => h) (Or.inl ⟨by rfl, ?_⟩) (by assumption) ?_
    rotate_left
    · intro w hSw; (try dsimp only at hSw); go_simp; try with_reducible rfl
    try simp only [Act.put, List.getElem_toArray, List.getElem_cons_zero, List.getElem_cons_succ, List.setIfInBounds_toArray, List.set_cons_zero, List.set_cons_succ]
    refine wpAnyH_take (i := 14) (v := ?_) rfl (by kernel_rfl) (by kernel_rfl) (by kernel_rfl) (fun _ _ _ h => h) (Or.inl ⟨by rfl, ?_⟩) (by assumption) ?_
    rotate_left
    · intro w hSw; (try dsimp only at hSw); go_simp; try with_reducible rfl
    try simp only [Act.put, List.getElem_toArray, List.getElem_cons_zero, List.getElem_cons_succ, List.setIfInBounds_toArray, List.set_cons_zero, List.set_cons_succ]
    refine wpAnyH_take (i := 15) (v := ?_) rfl (by kernel_rfl) (by kernel_rfl) (by kernel_rfl) (fun _ _ _ h => h) (Or.inl ⟨by rfl, ?_⟩) (by assumption) ?_
    rotate_left
    · intro w hSw; (try dsimp only at hSw); go_simp; try with_reducible rfl
    try simp only [Act.put, List.getElem_toArray, List.getElem_cons_zero, List.getElem_cons_succ, List.setIfInBounds_toArray, List.set_cons_zero, List.set_cons_succ]
    refine wpAnyH_take (i := 16) (v := ?_) rfl (by kernel_rfl) (by kernel_rfl) (by kernel_rfl) (fun _ _ _ h => h) (Or.inl ⟨by rfl, ?_⟩) (by assumption) ?_
    rotate_left
    · intro w hSw; (try dsimp only at hSw); go_simp; try with_reducible rfl
    try simp only [Act.put, List.getElem_toArray, List.getElem_cons_zero, List.getElem_cons_succ, List.setIfInBounds_toArray, List.set_cons_zero, List.set_cons_succ]
    refine wpAnyH_take (i := 17) (v := ?_) rfl (by kernel_rfl) (by kernel_rfl) (by kernel_rfl) (fun _ _ _ h => h) (Or.inl ⟨by rfl, ?_⟩) (by assumption) ?_
    rotate_left
    · intro w hSw; (try dsimp only at hSw); go_simp; try with_reducible rfl
    try simp only [Act.put, List.getElem_toArray, List.getElem_cons_zero, List.getElem_cons_succ, List.setIfInBounds_toArray, List.set_cons_zero, List.set_cons_succ]
    refine wpAnyH_take (i := 18) (v := ?_) rfl (by kernel_rfl) (by kernel_rfl) (by kernel_rfl) (fun _ _ _ h => h) (Or.inl ⟨by rfl, ?_⟩) (by assumption) ?_
    rotate_left
    · intro w hSw; (try dsimp only at hSw); go_simp; try with_reducible rfl
    try simp only [Act.put, List.getElem_toArray, List.getElem_cons_zero, List.getElem_cons_succ, List.setIfInBounds_toArray, List.set_cons_zero, List.set_cons_succ]
    refine wpAnyH_take (i := 19) (v := ?_) rfl (by kernel_rfl) (by kernel_rfl) (by kernel_rfl) (fun _ _ _ h => h) (Or.inl ⟨by rfl, ?_⟩) (by assumption) ?_
    rotate_left
    · intro w hSw; (try dsimp only at hSw); go_simp; try with_reducible rfl
    try simp only [Act.put, List.getElem_toArray, List.getElem_cons_zero, List.getElem_cons_succ, List.setIfInBounds_toArray, List.set_cons_zero, List.set_cons_succ]
    refine wpAnyH_take (i := 20) (v := ?_) rfl (by kernel_rfl) (by kernel_rfl) (by kernel_rfl) (fun _ _ _ h => h) (Or.inl ⟨by rfl, ?_⟩) (by assumption) ?_
    rotate_left
    · intro w hSw; (try dsimp only at hSw); go_simp; try with_reducible rfl
    try simp only [Act.put, List.getElem_toArray, List.getElem_cons_zero, List.getElem_cons_succ, List.setIfInBounds_toArray, List.set_cons_zero, List.set_cons_succ]
    refine wpAnyH_take (i := 21) (v := ?_) rfl (by kernel_rfl) (by kernel_rfl) (by kernel_rfl) (fun _ _ _ h => h) (Or.inl ⟨by rfl, ?_⟩) (by assumption) ?_
    rotate_left
    · intro w hSw; (try dsimp only at hSw); go_simp; try with_reducible rfl
    try simp only [Act.put, List.getElem_toArray, List.getElem_cons_zero, List.getElem_cons_succ, List.setIfInBounds_toArray, List.set_cons_zero, List.set_cons_succ]
    refine wpAnyH_take (i := 22) (v := ?_) rfl (by kernel_rfl) (by kernel_rfl) (by kernel_rfl) (fun _ _ _ h => h) (Or.inl ⟨by rfl, ?_⟩) (by assumption) ?_
    rotate_left
    · intro w hSw; (try dsimp only at hSw); go_simp; try with_reducible rfl
    try simp only [Act.put, List.getElem_toArray, List.getElem_cons_zero, List.getElem_cons_succ, List.setIfInBounds_toArray, List.set_cons_zero, List.set_cons_succ]
    refine wpAnyH_take (i := 23) (v := ?_) rfl (by kernel_rfl) (by kernel_rfl) (by kernel_rfl) (fun _ _ _ h => h) (Or.inl ⟨by rfl, ?_⟩) (by assumption) ?_
    rotate_left
    · intro w hSw; (try dsimp only at hSw); go_simp; try with_reducible rfl
    try simp only [Act.put, List.getElem_toArray, List.getElem_cons_zero, List.getElem_cons_succ, List.setIfInBounds_toArray, List.set_cons_zero, List.set_cons_succ]
    refine wpAnyH_take (i := 24) (v := ?_) rfl (by kernel_rfl) (by kernel_rfl) (by kernel_rfl) (fun _ _ _ h => h) (Or.inl ⟨by rfl, ?_⟩) (by assumption) ?_
    rotate_left
    · intro w hSw; (try dsimp only at hSw); go_simp; try with_reducible rfl
    try simp only [Act.put, List.getElem_toArray, List.getElem_cons_zero, List.getElem_cons_succ, List.setIfInBounds_toArray, List.set_cons_zero, List.set_cons_succ]
    refine wpAnyH_take (i := 25) (v := ?_) rfl (by kernel_rfl) (by kernel_rfl) (by kernel_rfl) (fun _ _ _ h => h) (Or.inl ⟨by rfl, ?_⟩) (by assumption) ?_
    rotate_left
    · intro w hSw; (try dsimp only at hSw); go_simp; try with_reducible rfl
    try simp only [Act.put, List.getElem_toArray, List.getElem_cons_zero, List.getElem_cons_succ, List.setIfInBounds_toArray, List.set_cons_zero, List.set_cons_succ]
    refine wpAnyH_take (i := 26) (v := ?_) rfl (by kernel_rfl) (by kernel_rfl) (by kernel_rfl) (fun _ _ _ h => h) (Or.inl ⟨by rfl, ?_⟩) (by assumption) ?_
    rotate_left
    · intro w hSw; (try dsimp only at hSw); go_simp; try with_reducible rfl
    try simp only [Act.put, List.getElem_toArray, List.getElem_cons_zero, List.getElem_cons_succ, List.setIfInBounds_toArray, List.set_cons_zero, List.set_cons_succ]
    refine wpAnyH_take (i := 27) (v := ?_) rfl (by kernel_rfl) (by kernel_rfl) (by kernel_rfl) (fun _ _ _ h => h) (Or.inl ⟨by rfl, ?_⟩) (by assumption) ?_
    rotate_left
    · intro w hSw; (try dsimp only at hSw); go_simp; try with_reducible rfl
    try simp only [Act.put, List.getElem_toArray, List.getElem_cons_zero, List.getElem_cons_succ, List.setIfInBounds_toArray, List.set_cons_zero, List.set_cons_succ]
    refine wpAnyH_done (by kernel_rfl) ?_ _
    skip
    go_wp2_with fail
    go_ret
    exact ⟨rfl, up_trans Bl.out hbn⟩
  · simp only [hu] at M ⊢
    have HPE := Lib.hid (show 0 + m ≤ 100000 by have := HM.out; omega)
    clear P1 P2 AN NW
    go_wp2_with fail
    refine (as_sync Bl.out.size M.out HPE.out).mono ?_; rintro e w7 ⟨rfl, m7, b7⟩
    replace M := Lib.hid m7
    replace Bl := Lib.hid (Bl.out.trans b7)
    clear m7 b7
    go_wp2_with fail
    refine (as_image M.out).mono ?_; rintro e w8 ⟨rfl, rfl⟩
    go_wp2_with fail
    refine (placed_any _).mono ?_; rintro e w9 ⟨rfl, b9⟩
    replace Bl := Lib.hid (up_trans Bl.out b9)
    clear b9
    go_wp2_with fail
    go_ret
    exact ⟨rfl, Bl.out⟩

theorem AreaKeeps_core (m n f k : Int) (hk : k < 9223372036854775808) (o : Int) (b : ByteArray) (_hb : b.size ≤ maxLen) (o1 : Int) (c : ByteArray) (_hc : c.size ≤ maxLen) (w : World) :
    Calls Try.prog 3 #[.int .i64 m, .int .i64 n, .int .i64 f, .int .i64 k, .int .i64 o, .string b, .int .i64 o1, .string c] w fun e w' => e = .returned (.bool true) ∧ Below w.heap.size w w' := by
  by_cases h1 : 32 < m ∨ 10000 < b.size ∨ 10000 < c.size
  · exact keeps_far m n f k o o1 b c h1 w
  by_cases h2 : m < 1 ∨ n < 64 ∨ 1024 < n ∨ k < 1 ∨ f < 0 ∨ m - k < f
  · exact keeps_none m n f k o o1 b c (by omega) (by omega) (by omega) hk h2 w
  obtain ⟨m, rfl⟩ : ∃ q : Nat, m = q := ⟨m.toNat, by omega⟩
  obtain ⟨n, rfl⟩ : ∃ q : Nat, n = q := ⟨n.toNat, by omega⟩
  obtain ⟨f, rfl⟩ : ∃ q : Nat, f = q := ⟨f.toNat, by omega⟩
  obtain ⟨k, rfl⟩ : ∃ q : Nat, k = q := ⟨k.toNat, by omega⟩
  obtain ⟨b, rfl⟩ := text_of b
  obtain ⟨c, rfl⟩ := text_of c
  have hb := text_list b
  have hc := text_list c
  exact keeps_ok m n f k o o1 b c (by omega) (by omega) (by omega) (by omega) (by omega) (by omega) (by omega) (by omega) w

end Go.Proofs.Ytihajcjfppmfjaa
