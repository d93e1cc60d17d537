/- A body in its frame: the contract of batch.framed. -/
import Derived.Test.YtalfmkgcelipdaaDoorPureBatB
import Derived.Test.YtalfmkgcelipdaaDoorWires
import Derived.Test.YtalfmkgcelipdaaDoorEvGetB
import Derived.Test.YtalfmkgcelipdaaDoorCrcA
namespace Go.Proofs.YtalfmkgcelipdaaDoor
open Go.RowKit Wire Evt Bat Crc

theorem list_size (s : ByteArray) : s.data.toList.length = s.size := by simp

theorem take4_few (s : ByteArray) (h : s.size < 4) (w : World) :
    Calls Tryd.prog 51 #[.string s, .int .i64 4] w fun e w' => e = .returned (.tuple #[.int .u64 0, .string ⟨#[]⟩, .int .i64 4]) ∧ Below w.heap.size w w' := by
  have c := takeFixed_any s (by unfold maxLen; omega) 4 w
  have e : tkf s.data.toList 4 = (0, [], 4) := tkf_short (d := 4) (by omega) (by omega) (by rw [list_size]; exact h)
  rw [e] at c
  exact c
theorem take4_more (s : ByteArray) (h : 4 ≤ s.size) (hm : s.size ≤ 100000) (w : World) :
    Calls Tryd.prog 51 #[.string s, .int .i64 4] w fun e w' => e = .returned (.tuple #[.int .u64 (be (s.data.toList.take 4) : Nat), .string ⟨(s.data.toList.drop 4).toArray⟩, .int .i64 0]) ∧ Below w.heap.size w w' := by
  have c := takeFixed_any s (by unfold maxLen; omega) 4 w
  have e : tkf s.data.toList 4 = (be (s.data.toList.take 4), s.data.toList.drop 4, 0) := tkf_long (d := 4) (by omega) (by omega) (by rw [list_size]; exact h)
  rw [e] at c
  exact c
theorem fixed4 (n : Nat) (w : World) :
    Calls Tryd.prog 18 #[.int .u64 (n : Nat), .int .i64 4] w fun e w' => e = .returned (.string ⟨(fx n 4).toArray⟩) ∧ Below w.heap.size w w' := by
  have c := fixed_any n 4 w
  rw [show fxw n 4 = fx n 4 from fxw_yes (w := 4) (by omega) (by omega)] at c
  exact c

theorem extract_mid (s : ByteArray) (a b : Nat) : s.extract a b = ⟨((s.data.toList.drop a).take (b - a)).toArray⟩ := by
  apply ByteArray.ext
  apply Array.toList_inj.1
  rw [Lib.extract_data]

/-- What batch.framed gives. -/
def FrPost (s : List UInt8) (w : World) (e : Ending) (w' : World) : Prop :=
  e = .returned (.tuple #[.string ⟨(frO s).1.toArray⟩, .int .i64 ((frO s).2 : Nat)]) ∧ Below w.heap.size w w'
theorem fr_post {s l : List UInt8} {k : Nat} (h : frO s = (l, k)) {w w' : World} (hb : Below w.heap.size w w') : FrPost s w (.returned (.tuple #[.string ⟨l.toArray⟩, .int .i64 (k : Nat)])) w' := by
  unfold FrPost
  rw [h]
  exact ⟨rfl, hb⟩

theorem list_cons (s : ByteArray) (h : 0 < s.size) : s.data.toList = s[0] :: s.data.toList.drop 1 := by
  have hl : 0 < s.data.toList.length := by rw [list_size]; exact h
  have := List.drop_eq_getElem_cons hl
  simp only [List.drop_zero] at this
  exact this

set_option maxHeartbeats 1000000 in
set_option maxRecDepth 100000 in
theorem framed_any (s : ByteArray) (hs : s.size ≤ 100000) (w : World) :
    Calls Tryd.prog 29 #[.string s] w fun e w' => FrPost s.data.toList w e w' := by
  by_cases h0 : s.size = 0
  · have z := text_yes h0
    have HR := Lib.hid (show frO s.data.toList = ([], 4) by rw [← ByteArray.toList_eq, z]; rfl)
    go_enter Tryd.func29, Tryd.ntmps29
    go_wp2_with fail
    go_ret2
    exact fr_post HR.out (Below.refl _ _)
  have hp : 0 < s.size := by omega
  have hz := text_no hp
  have k0 : (0 : Int) < (s.size : Int) := by omega
  have hl1 := list_cons s hp
  by_cases hc : (s[0]'hp).toNat = 66
  · have d1 : (((s[0]'hp).toNat : Int) != 66) = false := by rw [hc]; rfl
    have k1 : (1 : Int) ≤ (s.size : Int) := by omega
    have F := front_of s 1
    have hxs : (s.extract 1 s.size).size = s.size - 1 := by rw [F, text_list, List.length_drop, list_size]
    have hxl : (s.extract 1 s.size).data.toList = s.data.toList.drop 1 := by rw [F]
    have hrl : (s.data.toList.drop 1).length = s.size - 1 := by rw [List.length_drop, list_size]
    by_cases h4 : s.size < 5
    · have HR := Lib.hid (show frO s.data.toList = ([], 4) by rw [hl1, fr_few hc (by omega)])
      have HC := Lib.hid (fun w => take4_few (s.extract 1 s.size) (by omega) w)
      clear hl1 hc F hxs hxl hrl
      go_enter Tryd.func29, Tryd.ntmps29
      go_wp2_with fail
      refine (HC.out _).mono ?_; rintro e w1 ⟨rfl, b1⟩
      go_wp2_with fail
      go_ret2
      exact fr_post HR.out b1
    have hC := fun w => take4_more (s.extract 1 s.size) (by omega) (by omega) w
    rw [hxl] at hC
    obtain ⟨r, hr⟩ : ∃ r, r = s.data.toList.drop 1 := ⟨_, rfl⟩
    rw [← hr] at hC hl1 hrl
    have hbe := be_lt (r.take 4)
    rw [show (r.take 4).length = 4 by rw [List.length_take]; omega] at hbe
    obtain ⟨n, hn⟩ : ∃ n, n = be (r.take 4) := ⟨_, rfl⟩
    rw [← hn] at hC hbe
    obtain ⟨R, hR⟩ : ∃ R : ByteArray, R = ⟨(r.drop 4).toArray⟩ := ⟨_, rfl⟩
    rw [← hR] at hC
    have hRs : R.size = s.size - 5 := by rw [hR, text_list, List.length_drop, hrl]; omega
    have HC := Lib.hid hC
    clear hC hxs hxl F
    by_cases hbig : 16384 < n
    · have HR := Lib.hid (show frO s.data.toList = ([], 2) by rw [hl1, fr_big hc (by omega) (by omega)])
      have d2 : (16384 : Int) < (n : Int) := by omega
      clear hl1 hc hn hR hr hrl hRs
      go_enter Tryd.func29, Tryd.ntmps29
      go_wp2_with fail
      refine (HC.out _).mono ?_; rintro e w1 ⟨rfl, b1⟩
      go_wp2_with fail
      go_ret2
      exact fr_post HR.out b1
    have d2 : ¬ (16384 : Int) < (n : Int) := by omega
    by_cases hmore : R.size < n + 4
    · have HR := Lib.hid (show frO s.data.toList = ([], 4) by rw [hl1, fr_more hc (by omega) (by omega) (by omega)])
      have d3 : (R.size : Int) < (n : Int) + 4 := by omega
      have d4 : (R.size : Int) ≤ 100000 := by omega
      clear hl1 hc hn hR hr hrl hRs
      go_enter Tryd.func29, Tryd.ntmps29
      go_wp2_with fail
      refine (HC.out _).mono ?_; rintro e w1 ⟨rfl, b1⟩
      go_wp2_with fail
      go_ret2
      exact fr_post HR.out b1
    have d3 : ¬ (R.size : Int) < (n : Int) + 4 := by omega
    have d4 : (R.size : Int) ≤ 100000 := by omega
    have e3 : (n : Int) + 4 ≤ (R.size : Int) := by omega
    have e5 : 5 + (n : Int) ≤ (s.size : Int) := by omega
    have e6 : (n : Int) ≤ (R.size : Int) := by omega
    have e0 : (0 : Int) ≤ (n : Int) := by omega
    have s0 : (s.size : Int) ≤ 100000 := by omega
    have hRl : R.data.toList = r.drop 4 := by rw [hR]
    have hbs : (R.extract 0 n).size = n := by rw [head_of, text_list, List.length_take, hRl, List.length_drop]; omega
    have hBod := head_of R n
    rw [hRl] at hBod
    have hX : R.extract n (n + 4) = ⟨((r.drop (4 + n)).take 4).toArray⟩ := by rw [extract_mid, hRl, List.drop_drop, Nat.add_sub_cancel_left]
    obtain ⟨A, hA⟩ : ∃ A, A = s.extract 0 (5 + n) := ⟨_, rfl⟩
    have hAl : A.data.toList = s.data.toList.take (5 + n) := by rw [hA, head_of]
    have hAs : A.size ≤ maxLen := by
      have : A.data.toList.length = A.size := list_size A
      rw [hAl, List.length_take, list_size] at this
      unfold maxLen; omega
    have hO : ∀ w, Calls Tryd.prog 19 #[.string A] w fun e w' => e = .returned (.int .u32 (sumOf A.data.toList : Nat)) ∧ Below w.heap.size w w' := fun w => by
      refine (of_any A hAs w).mono ?_; rintro e w' ⟨rfl, rfl⟩
      exact ⟨rfl, up_alloc (Below.refl _ _) _⟩
    have hq := sumOf_lt A.data.toList
    rw [hAl] at hO hq
    obtain ⟨q, hqe⟩ : ∃ q, q = sumOf (s.data.toList.take (5 + n)) := ⟨_, rfl⟩
    rw [← hqe] at hO hq
    have hY := fun w => fixed4 q w
    have hfr : (r.drop (4 + n)).take 4 = fx q 4 → frO s.data.toList = ((r.drop 4).take n, 0) := fun h => by
      rw [hl1, fr_fine hc (by omega) (by omega) (by rw [← hn, ← hl1, ← hqe]; exact h), ← hn]
    have hfo : (r.drop (4 + n)).take 4 ≠ fx q 4 → frO s.data.toList = ([], 10) := fun h => by
      rw [hl1, fr_sum hc (by omega) (by omega) (by rw [← hn, ← hl1, ← hqe]; exact h)]
    rw [hA] at hO
    have HO := Lib.hid hO
    have Q1 := Lib.hid (show IntKind.u64.wrap (q : Int) = (q : Int) by rw [IntKind.wrap_u64]; omega)
    have HB := Lib.hid hBod
    have W4 := Lib.hid (show IntKind.u64.wrap ((n : Int) + 4) = (n : Int) + 4 by rw [IntKind.wrap_u64]; omega)
    have W5 := Lib.hid (show IntKind.i64.wrap (5 + (n : Int)) = 5 + (n : Int) from IntWalk.i64_in _ (by omega))
    have hs1 : ∀ W, (Instr.slice 9 (.string R) (some (.int .u64 (n : Int))) (some (.int .u64 ((n : Int) + 4))) none).run Tryd.prog W = .ok (.string (R.extract n (n + 4))) W := fun W => by
      rw [run_slice_string W _ _ _ _ _ _ Tryd.underlying9 (by omega) (by omega) (by omega)]
      rfl
    have HS1 := Lib.hid hs1
    have W6 := Lib.hid (show (0 : Int) ≤ 5 + (n : Int) by omega)
    have W7 := Lib.hid (show (5 + (n : Int)).toNat = 5 + n by omega)
    clear hs1
    by_cases heq : (r.drop (4 + n)).take 4 = fx q 4
    · have HR := Lib.hid (hfr heq)
      have d5 : (R.extract n (n + 4)).toList == (⟨(fx q 4).toArray⟩ : ByteArray).toList := by rw [hX, heq]; exact beq_self_eq_true _
      generalize (⟨(fx q 4).toArray⟩ : ByteArray) = Y at *
      have HY := Lib.hid hY
      clear hl1 hc hn hr hrl hRs hRl hX hAl hAs hO hq hqe hY hfr hfo heq hBod hbig hmore h4 hA hbe hR
      go_enter Tryd.func29, Tryd.ntmps29
      go_wp2_with fail
      refine (HC.out _).mono ?_; rintro e w1 ⟨rfl, b1⟩
      go_wp2_with fail
      have q1 := Q1.out
      have w4 := W4.out
      have w5 := W5.out
      have w6 := W6.out
      have w7 := W7.out
      have s1 := HS1.out
      refine wp_region_held_drew (S := fun _ => True) (by kernel_rfl) (trivial) (fun hHeld => ?_)
      refine wpAnyH_take (i := 0) (v := ?_) rfl (by kernel_rfl) (by kernel_rfl) (by kernel_rfl) (fun _ _ _ h => h) (Or.inl ⟨by rfl, ?_⟩) (by assumption) ?_
      rotate_left
      · intro w hSw; (try dsimp only at hSw); go_simp; try with_reducible rfl
      try simp only [Act.put, List.getElem_toArray, List.getElem_cons_zero, List.setIfInBounds_toArray, List.set_cons_zero, List.set_cons_succ]
      refine wpAnyH_take (i := 1) (v := ?_) rfl (by kernel_rfl) (by kernel_rfl) (by kernel_rfl) (fun _ _ _ h => h) (Or.inl ⟨by rfl, ?_⟩) (by assumption) ?_
      rotate_left
      · intro w hSw; (try dsimp only at hSw); go_simp; try with_reducible rfl
      try simp only [Act.put, List.getElem_toArray, List.getElem_cons_zero, List.getElem_cons_succ, List.setIfInBounds_toArray, List.set_cons_zero, List.set_cons_succ]
      refine wpAnyH_take (i := 2) (v := ?_) rfl (by kernel_rfl) (by kernel_rfl) (by kernel_rfl) (fun _ _ _ h => h) (Or.inl ⟨by rfl, ?_⟩) (by assumption) ?_
      rotate_left
      · intro w hSw; (try dsimp only at hSw); go_simp; try with_reducible rfl
      try simp only [Act.put, List.getElem_toArray, List.getElem_cons_zero, List.getElem_cons_succ, List.setIfInBounds_toArray, List.set_cons_zero, List.set_cons_succ]
      refine wpAnyH_take (i := 3) (v := ?_) rfl (by kernel_rfl) (by kernel_rfl) (by kernel_rfl) (fun _ _ _ h => h) (Or.inl ⟨by rfl, ?_⟩) (by assumption) ?_
      rotate_left
      · intro w hSw; (try dsimp only at hSw); go_simp; try with_reducible rfl
      try simp only [Act.put, List.getElem_toArray, List.getElem_cons_zero, List.getElem_cons_succ, List.setIfInBounds_toArray, List.set_cons_zero, List.set_cons_succ]
      refine wpAnyH_take (i := 4) (v := ?_) rfl (by kernel_rfl) (by kernel_rfl) (by kernel_rfl) (fun _ _ _ h => h) (Or.inl ⟨by rfl, ?_⟩) (by assumption) ?_
      rotate_left
      · intro w hSw; (try dsimp only at hSw); go_simp; try with_reducible rfl
      try simp only [Act.put, List.getElem_toArray, List.getElem_cons_zero, List.getElem_cons_succ, List.setIfInBounds_toArray, List.set_cons_zero, List.set_cons_succ]
      refine wpAnyH_take (i := 5) (v := ?_) rfl (by kernel_rfl) (by kernel_rfl) (by kernel_rfl) (fun _ _ _ h => h) (Or.inl ⟨by rfl, ?_⟩) (by assumption) ?_
      rotate_left
      · intro w hSw; (try dsimp only at hSw); go_simp; try with_reducible rfl
      try simp only [Act.put, List.getElem_toArray, List.getElem_cons_zero, List.getElem_cons_succ, List.setIfInBounds_toArray, List.set_cons_zero, List.set_cons_succ]
      refine wpAnyH_take (i := 6) (v := ?_) rfl (by kernel_rfl) (by kernel_rfl) (by kernel_rfl) (fun _ _ _ h => h) (Or.inl ⟨by rfl, ?_⟩) (by assumption) ?_
      rotate_left
      · intro w hSw; (try dsimp only at hSw); go_simp; try with_reducible rfl
      try simp only [Act.put, List.getElem_toArray, List.getElem_cons_zero, List.getElem_cons_succ, List.setIfInBounds_toArray, List.set_cons_zero, List.set_cons_succ]
      refine wpAnyH_take (i := 7) (v := ?_) rfl (by kernel_rfl) (by kernel_rfl) (by kernel_rfl) (fun _ _ _ h => h) (Or.inl ⟨by rfl, ?_⟩) (by assumption) ?_
      rotate_left
      · intro w hSw; (try dsimp only at hSw); go_simp; try with_reducible rfl
      try simp only [Act.put, List.getElem_toArray, List.getElem_cons_zero, List.getElem_cons_succ, List.setIfInBounds_toArray, List.set_cons_zero, List.set_cons_succ]
      refine wpAnyH_take (i := 8) (v := ?_) rfl (by kernel_rfl) (by kernel_rfl) (by kernel_rfl) (fun _ _ _ h => h) (Or.inl ⟨by rfl, ?_⟩) (by assumption) ?_
      rotate_left
      · intro w hSw; (try dsimp only at hSw); go_simp; try with_reducible rfl
      try simp only [Act.put, List.getElem_toArray, List.getElem_cons_zero, List.getElem_cons_succ, List.setIfInBounds_toArray, List.set_cons_zero, List.set_cons_succ]
      refine wpAnyH_take (i := 9) (v := ?_) rfl (by kernel_rfl) (by kernel_rfl) (by kernel_rfl) (fun _ _ _ h => h) (Or.inl ⟨by rfl, ?_⟩) (by assumption) ?_
      rotate_left
      · intro w hSw; (try dsimp only at hSw); go_simp; try with_reducible rfl
      try simp only [Act.put, List.getElem_toArray, List.getElem_cons_zero, List.getElem_cons_succ, List.setIfInBounds_toArray, List.set_cons_zero, List.set_cons_succ]
      refine wpAnyH_ready (rs := [10]) (by kernel_rfl) (by simp) (AllReadyH.cons rfl (fun K hK => ?_) AllReadyH.nil)
      go_simp
      refine (HO.out _).mono ?_; rintro e wn ⟨rfl, hbn'⟩
      have hbn : Below w1.heap.size w1 wn := up_trans (Below.refl _ _).drew hbn'
      clear hbn'
      go_wp2_with fail
      refine hK.out _ _ (trivial) (fun hHeld => ?_)
      clear hK K
      try simp only [Act.put, List.getElem_toArray, List.getElem_cons_zero, List.getElem_cons_succ, List.setIfInBounds_toArray, List.set_cons_zero, List.set_cons_succ]
      refine wpAnyH_take (i := 11) (v := ?_) rfl (by kernel_rfl) (by kernel_rfl) (by kernel_rfl) (fun _ _ _ h => h) (Or.inl ⟨by rfl, ?_⟩) (by assumption) ?_
      rotate_left
      · intro w hSw; (try dsimp only at hSw); go_simp; try with_reducible rfl
      try simp only [Act.put, List.getElem_toArray, List.getElem_cons_zero, List.getElem_cons_succ, List.setIfInBounds_toArray, List.set_cons_zero, List.set_cons_succ]
      refine wpAnyH_ready (rs := [12]) (by kernel_rfl) (by simp) (AllReadyH.cons rfl (fun K hK => ?_) AllReadyH.nil)
      go_simp
      refine (HY.out _).mono ?_; rintro e wn ⟨rfl, hbn'⟩
      replace hbn : Below w1.heap.size w1 wn := up_trans hbn hbn'
      clear hbn'
      go_wp2_with fail
      refine hK.out _ _ (trivial) (fun hHeld => ?_)
      clear hK K
      try simp only [Act.put, List.getElem_toArray, List.getElem_cons_zero, List.getElem_cons_succ, List.setIfInBounds_toArray, List.set_cons_zero, List.set_cons_succ]
      refine wpAnyH_take (i := 13) (v := ?_) rfl (by kernel_rfl) (by kernel_rfl) (by kernel_rfl) (fun _ _ _ h => h) (Or.inl ⟨by rfl, ?_⟩) (by assumption) ?_
      rotate_left
      · intro w hSw; (try dsimp only at hSw); go_simp; try with_reducible rfl
      try simp only [Act.put, List.getElem_toArray, List.getElem_cons_zero, List.getElem_cons_succ, List.setIfInBounds_toArray, List.set_cons_zero, List.set_cons_succ]
      refine wpAnyH_done (by kernel_rfl) ?_ _
      go_wp2_with fail
      go_ret2
      rw [HB.out]
      exact fr_post HR.out (up_trans b1 hbn)
    · have HR := Lib.hid (hfo heq)
      have d5 : ((R.extract n (n + 4)).toList == (⟨(fx q 4).toArray⟩ : ByteArray).toList) = false := by
        rw [hX, ByteArray.toList_eq, ByteArray.toList_eq, beq_eq_false_iff_ne]; exact heq
      generalize (⟨(fx q 4).toArray⟩ : ByteArray) = Y at *
      have HY := Lib.hid hY
      clear hl1 hc hn hr hrl hRs hRl hX hAl hAs hO hq hqe hY hfr hfo heq hBod hbig hmore h4 hA hbe hR
      go_enter Tryd.func29, Tryd.ntmps29
      go_wp2_with fail
      refine (HC.out _).mono ?_; rintro e w1 ⟨rfl, b1⟩
      go_wp2_with fail
      have q1 := Q1.out
      have w4 := W4.out
      have w5 := W5.out
      have w6 := W6.out
      have w7 := W7.out
      have s1 := HS1.out
      refine wp_region_held_drew (S := fun _ => True) (by kernel_rfl) (trivial) (fun hHeld => ?_)
      refine wpAnyH_take (i := 0) (v := ?_) rfl (by kernel_rfl) (by kernel_rfl) (by kernel_rfl) (fun _ _ _ h => h) (Or.inl ⟨by rfl, ?_⟩) (by assumption) ?_
      rotate_left
      · intro w hSw; (try dsimp only at hSw); go_simp; try with_reducible rfl
      try simp only [Act.put, List.getElem_toArray, List.getElem_cons_zero, List.setIfInBounds_toArray, List.set_cons_zero, List.set_cons_succ]
      refine wpAnyH_take (i := 1) (v := ?_) rfl (by kernel_rfl) (by kernel_rfl) (by kernel_rfl) (fun _ _ _ h => h) (Or.inl ⟨by rfl, ?_⟩) (by assumption) ?_
      rotate_left
      · intro w hSw; (try dsimp only at hSw); go_simp; try with_reducible rfl
      try simp only [Act.put, List.getElem_toArray, List.getElem_cons_zero, List.getElem_cons_succ, List.setIfInBounds_toArray, List.set_cons_zero, List.set_cons_succ]
      refine wpAnyH_take (i := 2) (v := ?_) rfl (by kernel_rfl) (by kernel_rfl) (by kernel_rfl) (fun _ _ _ h => h) (Or.inl ⟨by rfl, ?_⟩) (by assumption) ?_
      rotate_left
      · intro w hSw; (try dsimp only at hSw); go_simp; try with_reducible rfl
      try simp only [Act.put, List.getElem_toArray, List.getElem_cons_zero, List.getElem_cons_succ, List.setIfInBounds_toArray, List.set_cons_zero, List.set_cons_succ]
      refine wpAnyH_take (i := 3) (v := ?_) rfl (by kernel_rfl) (by kernel_rfl) (by kernel_rfl) (fun _ _ _ h => h) (Or.inl ⟨by rfl, ?_⟩) (by assumption) ?_
      rotate_left
      · intro w hSw; (try dsimp only at hSw); go_simp; try with_reducible rfl
      try simp only [Act.put, List.getElem_toArray, List.getElem_cons_zero, List.getElem_cons_succ, List.setIfInBounds_toArray, List.set_cons_zero, List.set_cons_succ]
      refine wpAnyH_take (i := 4) (v := ?_) rfl (by kernel_rfl) (by kernel_rfl) (by kernel_rfl) (fun _ _ _ h => h) (Or.inl ⟨by rfl, ?_⟩) (by assumption) ?_
      rotate_left
      · intro w hSw; (try dsimp only at hSw); go_simp; try with_reducible rfl
      try simp only [Act.put, List.getElem_toArray, List.getElem_cons_zero, List.getElem_cons_succ, List.setIfInBounds_toArray, List.set_cons_zero, List.set_cons_succ]
      refine wpAnyH_take (i := 5) (v := ?_) rfl (by kernel_rfl) (by kernel_rfl) (by kernel_rfl) (fun _ _ _ h => h) (Or.inl ⟨by rfl, ?_⟩) (by assumption) ?_
      rotate_left
      · intro w hSw; (try dsimp only at hSw); go_simp; try with_reducible rfl
      try simp only [Act.put, List.getElem_toArray, List.getElem_cons_zero, List.getElem_cons_succ, List.setIfInBounds_toArray, List.set_cons_zero, List.set_cons_succ]
      refine wpAnyH_take (i := 6) (v := ?_) rfl (by kernel_rfl) (by kernel_rfl) (by kernel_rfl) (fun _ _ _ h => h) (Or.inl ⟨by rfl, ?_⟩) (by assumption) ?_
      rotate_left
      · intro w hSw; (try dsimp only at hSw); go_simp; try with_reducible rfl
      try simp only [Act.put, List.getElem_toArray, List.getElem_cons_zero, List.getElem_cons_succ, List.setIfInBounds_toArray, List.set_cons_zero, List.set_cons_succ]
      refine wpAnyH_take (i := 7) (v := ?_) rfl (by kernel_rfl) (by kernel_rfl) (by kernel_rfl) (fun _ _ _ h => h) (Or.inl ⟨by rfl, ?_⟩) (by assumption) ?_
      rotate_left
      · intro w hSw; (try dsimp only at hSw); go_simp; try with_reducible rfl
      try simp only [Act.put, List.getElem_toArray, List.getElem_cons_zero, List.getElem_cons_succ, List.setIfInBounds_toArray, List.set_cons_zero, List.set_cons_succ]
      refine wpAnyH_take (i := 8) (v := ?_) rfl (by kernel_rfl) (by kernel_rfl) (by kernel_rfl) (fun _ _ _ h => h) (Or.inl ⟨by rfl, ?_⟩) (by assumption) ?_
      rotate_left
      · intro w hSw; (try dsimp only at hSw); go_simp; try with_reducible rfl
      try simp only [Act.put, List.getElem_toArray, List.getElem_cons_zero, List.getElem_cons_succ, List.setIfInBounds_toArray, List.set_cons_zero, List.set_cons_succ]
      refine wpAnyH_take (i := 9) (v := ?_) rfl (by kernel_rfl) (by kernel_rfl) (by kernel_rfl) (fun _ _ _ h => h) (Or.inl ⟨by rfl, ?_⟩) (by assumption) ?_
      rotate_left
      · intro w hSw; (try dsimp only at hSw); go_simp; try with_reducible rfl
      try simp only [Act.put, List.getElem_toArray, List.getElem_cons_zero, List.getElem_cons_succ, List.setIfInBounds_toArray, List.set_cons_zero, List.set_cons_succ]
      refine wpAnyH_ready (rs := [10]) (by kernel_rfl) (by simp) (AllReadyH.cons rfl (fun K hK => ?_) AllReadyH.nil)
      go_simp
      refine (HO.out _).mono ?_; rintro e wn ⟨rfl, hbn'⟩
      have hbn : Below w1.heap.size w1 wn := up_trans (Below.refl _ _).drew hbn'
      clear hbn'
      go_wp2_with fail
      refine hK.out _ _ (trivial) (fun hHeld => ?_)
      clear hK K
      try simp only [Act.put, List.getElem_toArray, List.getElem_cons_zero, List.getElem_cons_succ, List.setIfInBounds_toArray, List.set_cons_zero, List.set_cons_succ]
      refine wpAnyH_take (i := 11) (v := ?_) rfl (by kernel_rfl) (by kernel_rfl) (by kernel_rfl) (fun _ _ _ h => h) (Or.inl ⟨by rfl, ?_⟩) (by assumption) ?_
      rotate_left
      · intro w hSw; (try dsimp only at hSw); go_simp; try with_reducible rfl
      try simp only [Act.put, List.getElem_toArray, List.getElem_cons_zero, List.getElem_cons_succ, List.setIfInBounds_toArray, List.set_cons_zero, List.set_cons_succ]
      refine wpAnyH_ready (rs := [12]) (by kernel_rfl) (by simp) (AllReadyH.cons rfl (fun K hK => ?_) AllReadyH.nil)
      go_simp
      refine (HY.out _).mono ?_; rintro e wn ⟨rfl, hbn'⟩
      replace hbn : Below w1.heap.size w1 wn := up_trans hbn hbn'
      clear hbn'
      go_wp2_with fail
      refine hK.out _ _ (trivial) (fun hHeld => ?_)
      clear hK K
      try simp only [Act.put, List.getElem_toArray, List.getElem_cons_zero, List.getElem_cons_succ, List.setIfInBounds_toArray, List.set_cons_zero, List.set_cons_succ]
      refine wpAnyH_take (i := 13) (v := ?_) rfl (by kernel_rfl) (by kernel_rfl) (by kernel_rfl) (fun _ _ _ h => h) (Or.inl ⟨by rfl, ?_⟩) (by assumption) ?_
      rotate_left
      · intro w hSw; (try dsimp only at hSw); go_simp; try with_reducible rfl
      try simp only [Act.put, List.getElem_toArray, List.getElem_cons_zero, List.getElem_cons_succ, List.setIfInBounds_toArray, List.set_cons_zero, List.set_cons_succ]
      refine wpAnyH_done (by kernel_rfl) ?_ _
      go_wp2_with fail
      go_ret2
      exact fr_post HR.out (up_trans b1 hbn)
  · have d1 : (((s[0]'hp).toNat : Int) != 66) = true := by rw [bne_iff_ne]; omega
    have HR := Lib.hid (show frO s.data.toList = ([], 3) by rw [hl1, fr_mark hc])
    clear hl1 hc
    go_enter Tryd.func29, Tryd.ntmps29
    go_wp2_with fail
    go_ret2
    exact fr_post HR.out (Below.refl _ _)

end Go.Proofs.YtalfmkgcelipdaaDoor
