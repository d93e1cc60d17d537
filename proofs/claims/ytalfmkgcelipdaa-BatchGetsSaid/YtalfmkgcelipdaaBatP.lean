/- Bytes, read as a batch by the document's own answer: the contract of blackboxref05.Get. -/
import Derived.Test.YtalfmkgcelipdaaBatO
import Derived.Test.YtalfmkgcelipdaaCrcRef
namespace Go.Proofs.Ytalfmkgcelipdaa
open Go.RowKit Wire Evt Bat Crc

theorem rtake4_few (s : ByteArray) (h : s.size < 4) (w : World) :
    Calls Try.prog 15 #[.string s, .int .i64 4] w fun e w' => e = .returned (.tuple #[.int .u64 0, .string ⟨#[]⟩, .int .i64 4]) ∧ Below w.heap.size w w' := by
  have c := rtakeFixed_any s (by unfold maxLen; omega) 4 w
  have e : tkf s.data.toList 4 = (0, [], 4) := tkf_short (d := 4) (by omega) (by omega) (by rw [list_size]; exact h)
  rw [e] at c
  exact c
theorem rtake4_more (s : ByteArray) (h : 4 ≤ s.size) (hm : s.size ≤ 100000) (w : World) :
    Calls Try.prog 15 #[.string s, .int .i64 4] w fun e w' => e = .returned (.tuple #[.int .u64 (be (s.data.toList.take 4) : Nat), .string ⟨(s.data.toList.drop 4).toArray⟩, .int .i64 0]) ∧ Below w.heap.size w w' := by
  have c := rtakeFixed_any s (by unfold maxLen; omega) 4 w
  have e : tkf s.data.toList 4 = (be (s.data.toList.take 4), s.data.toList.drop 4, 0) := tkf_long (d := 4) (by omega) (by omega) (by rw [list_size]; exact h)
  rw [e] at c
  exact c
theorem rcrc_of (s : ByteArray) (hs : s.size ≤ maxLen) (w : World) : Calls Try.prog 16 #[.string s] w fun e w' => e = .returned (.int .u32 (sumOf s.data.toList : Nat)) ∧ Below w.heap.size w w' := by
  refine (refOf_any s hs w).mono ?_; rintro e w' ⟨rfl, rfl⟩
  exact ⟨rfl, Below.refl _ _⟩

set_option maxHeartbeats 4000000 in
set_option maxRecDepth 100000 in
theorem rbget_any (s : ByteArray) (hs : s.size ≤ 100000) (w : World) :
    Calls Try.prog 7 #[.string s] w fun e w' => BgetPost s.data.toList w e w' := by
  have hz : zbt.length = 34 := btc_length _ _ (by simp)
  have hzo : ∀ v ∈ zbt, v.oneCell' = true := btc_one 0 none 0 0 _
  have hi := info_batch
  have hu := Try.underlying27
  have HX := Lib.hid (Has.make w 27 zbt)
  have B1 := Lib.hid (up_alloc (Below.refl w.heap.size w) (.cells zbt.toArray 27))
  by_cases h0 : s.size = 0
  · have z := text_yes h0
    have HR := Lib.hid (show gotB s.data.toList = noB 4 by rw [gotB_err (show frO s.data.toList = ([], 4) by rw [← ByteArray.toList_eq, z]; rfl) (by omega)])
    go_enter Try.func7, Try.ntmps7
    go_wp2_with (refine wpList_store_whole rfl 27 _ _ rfl w.heap.size 27 zbt zbt (by rfl) (by rfl) (Has.make w _ zbt) rfl (by rw [hi, hz]) hzo ?_; intro wz hF hO)
    refine bodyPost_ret_by (results_got Try.results7 _ _ w.heap.size _ _ _ (by rfl) hF hz (by rfl) (by rfl)) rfl ?_
    exact bget_bad HR.out (hO.below (Nat.le_refl _) B1.out)
  have hp : 0 < s.size := by omega
  have hzz := text_no hp
  have k0 : (0 : Int) < (s.size : Int) := by omega
  have hl1 := list_cons s hp
  by_cases hc : (s[0]'hp).toNat = 66
  · have d1 : (((s[0]'hp).toNat : Int) != 66) = false := by rw [hc]; rfl
    have k1 : (1 : Int) ≤ (s.size : Int) := by omega
    have F := front_of s 1
    have hxs : (s.extract 1 s.size).size = s.size - 1 := by rw [F, text_list, List.length_drop, list_size]
    have hxl : (s.extract 1 s.size).data.toList = s.data.toList.drop 1 := by rw [F]
    have hrl : (s.data.toList.drop 1).length = s.size - 1 := by rw [List.length_drop, list_size]
    by_cases h4 : s.size < 5
    · have HR := Lib.hid (show gotB s.data.toList = noB 4 by rw [gotB_err (show frO s.data.toList = ([], 4) by rw [hl1, fr_few hc (by omega)]) (by omega)])
      have HC := Lib.hid (fun w => rtake4_few (s.extract 1 s.size) (by omega) w)
      clear hl1 hc F hxs hxl hrl
      go_enter Try.func7, Try.ntmps7
      go_wp2_with fail
      generalize hw1 : w.alloc (Obj.cells _ _) = w1
      replace HX : Hid (Has w1 w.heap.size 27 zbt) := by rw [← hw1]; exact HX
      replace B1 : Hid (Below w.heap.size w w1) := by rw [← hw1]; exact B1
      clear hw1
      refine (HC.out _).mono ?_; rintro e w2 ⟨rfl, b2⟩
      replace HX := Lib.hid (HX.out.up b2)
      replace B1 := Lib.hid (up_trans B1.out b2)
      clear b2
      go_wp2_with (refine wpList_store_whole rfl 27 _ _ rfl w.heap.size 27 zbt zbt (by rfl) (by rfl) HX.out rfl (by rw [hi, hz]) hzo ?_; intro wz hF hO)
      refine bodyPost_ret_by (results_got Try.results7 _ _ w.heap.size _ _ _ (by rfl) hF hz (by rfl) (by rfl)) rfl ?_
      exact bget_bad HR.out (hO.below (Nat.le_refl _) B1.out)
    have hC := fun w => rtake4_more (s.extract 1 s.size) (by omega) (by omega) w
    rw [hxl] at hC
    obtain ⟨r, hr⟩ : ∃ r, r = s.data.toList.drop 1 := ⟨_, rfl⟩
    rw [← hr] at hC hl1 hrl
    have hbe := be_lt (r.take 4)
    rw [show (r.take 4).length = 4 by rw [List.length_take]; omega] at hbe
    obtain ⟨n, hn⟩ : ∃ n, n = be (r.take 4) := ⟨_, rfl⟩
    rw [← hn] at hC hbe
    obtain ⟨R, hR⟩ : ∃ R : ByteArray, R = ⟨(r.drop 4).toArray⟩ := ⟨_, rfl⟩
    rw [← hR] at hC
    have hRs : R.size = s.size - 5 := by rw [hR, text_list, List.length_drop, hrl]; omega
    have HC := Lib.hid hC
    clear hC hxs hxl F
    by_cases hbig : 16384 < n
    · have HR := Lib.hid (show gotB s.data.toList = noB 2 by rw [gotB_err (show frO s.data.toList = ([], 2) by rw [hl1, fr_big hc (by omega) (by omega)]) (by omega)])
      have d2 : (16384 : Int) < (n : Int) := by omega
      clear hl1 hc hn hR hr hrl hRs hbe
      go_enter Try.func7, Try.ntmps7
      go_wp2_with fail
      generalize hw1 : w.alloc (Obj.cells _ _) = w1
      replace HX : Hid (Has w1 w.heap.size 27 zbt) := by rw [← hw1]; exact HX
      replace B1 : Hid (Below w.heap.size w w1) := by rw [← hw1]; exact B1
      clear hw1
      refine (HC.out _).mono ?_; rintro e w2 ⟨rfl, b2⟩
      replace HX := Lib.hid (HX.out.up b2)
      replace B1 := Lib.hid (up_trans B1.out b2)
      clear b2
      go_wp2_with (refine wpList_store_whole rfl 27 _ _ rfl w.heap.size 27 zbt zbt (by rfl) (by rfl) HX.out rfl (by rw [hi, hz]) hzo ?_; intro wz hF hO)
      refine bodyPost_ret_by (results_got Try.results7 _ _ w.heap.size _ _ _ (by rfl) hF hz (by rfl) (by rfl)) rfl ?_
      exact bget_bad HR.out (hO.below (Nat.le_refl _) B1.out)
    have d2 : ¬ (16384 : Int) < (n : Int) := by omega
    have n64 := IntWalk.i64_in (n : Int) (by omega)
    by_cases hmore : R.size < n + 4
    · have HR := Lib.hid (show gotB s.data.toList = noB 4 by rw [gotB_err (show frO s.data.toList = ([], 4) by rw [hl1, fr_more hc (by omega) (by omega) (by omega)]) (by omega)])
      have d3 : (R.size : Int) < (n : Int) + 4 := by omega
      have d4 : (R.size : Int) ≤ 100000 := by omega
      clear hl1 hc hn hR hr hrl hRs hbe
      go_enter Try.func7, Try.ntmps7
      go_wp2_with fail
      generalize hw1 : w.alloc (Obj.cells _ _) = w1
      replace HX : Hid (Has w1 w.heap.size 27 zbt) := by rw [← hw1]; exact HX
      replace B1 : Hid (Below w.heap.size w w1) := by rw [← hw1]; exact B1
      clear hw1
      refine (HC.out _).mono ?_; rintro e w2 ⟨rfl, b2⟩
      replace HX := Lib.hid (HX.out.up b2)
      replace B1 := Lib.hid (up_trans B1.out b2)
      clear b2
      go_wp2_with (refine wpList_store_whole rfl 27 _ _ rfl w.heap.size 27 zbt zbt (by rfl) (by rfl) HX.out rfl (by rw [hi, hz]) hzo ?_; intro wz hF hO)
      refine bodyPost_ret_by (results_got Try.results7 _ _ w.heap.size _ _ _ (by rfl) hF hz (by rfl) (by rfl)) rfl ?_
      exact bget_bad HR.out (hO.below (Nat.le_refl _) B1.out)
    have d3 : ¬ (R.size : Int) < (n : Int) + 4 := by omega
    have d4 : (R.size : Int) ≤ 100000 := by omega
    have e0 : (0 : Int) ≤ (n : Int) := by omega
    have e5 : 5 + (n : Int) ≤ (s.size : Int) := by omega
    have e6 : (n : Int) ≤ (R.size : Int) := by omega
    have hRl : R.data.toList = r.drop 4 := by rw [hR]
    have hbs : (R.extract n R.size).size = R.size - n := by rw [back_of, text_list, List.length_drop, list_size]
    have hbl : (R.extract n R.size).data.toList = r.drop (4 + n) := by rw [back_of, hRl, List.drop_drop]
    obtain ⟨X, hX⟩ : ∃ X, X = (r.drop (4 + n)).take 4 := ⟨_, rfl⟩
    have hXl : X.length = 4 := by rw [hX, List.length_take, List.length_drop]; omega
    have hC2 := fun w => rtake4_more (R.extract n R.size) (by omega) (by omega) w
    rw [hbl, ← hX] at hC2
    have hAl : (s.extract 0 (5 + n)).data.toList = s.data.toList.take (5 + n) := by rw [head_of]
    have hAs : (s.extract 0 (5 + n)).size ≤ maxLen := by
      have : (s.extract 0 (5 + n)).data.toList.length = (s.extract 0 (5 + n)).size := list_size _
      rw [hAl, List.length_take, list_size] at this
      unfold maxLen; omega
    have hO := fun w => rcrc_of (s.extract 0 (5 + n)) hAs w
    have hq := sumOf_lt (s.extract 0 (5 + n)).data.toList
    rw [hAl] at hO hq
    obtain ⟨q, hqe⟩ : ∃ q, q = sumOf (s.data.toList.take (5 + n)) := ⟨_, rfl⟩
    rw [← hqe] at hO hq
    have HO := Lib.hid hO
    have HC2 := Lib.hid hC2
    have q64 : IntKind.u64.wrap (q : Int) = (q : Int) := by rw [IntKind.wrap_u64]; omega
    have Q64 := Lib.hid q64
    by_cases heq : be X = q
    · have hfr : frO s.data.toList = ((r.drop 4).take n, 0) := by
        rw [hl1, fr_fine hc (by omega) (by omega) (by rw [← hn, ← hl1, ← hqe, ← hX, ← heq, fx_be4 hXl]), ← hn]
      have d5 : ((be X : Int) != (q : Int)) = false := by rw [bne_eq_false_iff_eq]; omega
      have hBs : (R.extract 0 n).size ≤ 20000 := by rw [head_of, text_list, List.length_take]; omega
      have hBl : (R.extract 0 n).data.toList = (r.drop 4).take n := by rw [head_of, hRl]
      have hG := fun w => rbody_any (R.extract 0 n) hBs w
      rw [hBl] at hG
      have HG := Lib.hid hG
      have HFR := Lib.hid hfr
      have hln : ((r.drop 4).take n).length = n := by rw [List.length_take, List.length_drop]; omega
      have HLN := Lib.hid hln
      generalize (r.drop 4).take n = l at *
      generalize be X = x at *
      clear hl1 hc hn hr hrl hRs hRl hbs hbl hX hXl hC2 hAl hAs hO hq hqe q64 hbe hR heq hfr hBs hBl hG hln hmore hbig h4
      go_enter Try.func7, Try.ntmps7
      go_wp2_with fail
      generalize hw1 : w.alloc (Obj.cells _ _) = w1
      replace HX : Hid (Has w1 w.heap.size 27 zbt) := by rw [← hw1]; exact HX
      replace B1 : Hid (Below w.heap.size w w1) := by rw [← hw1]; exact B1
      clear hw1
      refine (HC.out _).mono ?_; rintro e w2 ⟨rfl, b2⟩
      replace HX := Lib.hid (HX.out.up b2)
      replace B1 := Lib.hid (up_trans B1.out b2)
      clear b2
      go_wp2_with fail
      refine (HC2.out _).mono ?_; rintro e w3 ⟨rfl, b3⟩
      replace HX := Lib.hid (HX.out.up b3)
      replace B1 := Lib.hid (up_trans B1.out b3)
      clear b3
      go_wp2_with fail
      refine (HO.out _).mono ?_; rintro e w4 ⟨rfl, b4⟩
      replace HX := Lib.hid (HX.out.up b4)
      replace B1 := Lib.hid (up_trans B1.out b4)
      clear b4
      have q64 := Q64.out
      go_wp2_with fail
      refine (HG.out _).mono ?_; intro e w5 h5
      obtain ⟨b5, h5⟩ := h5
      have hs4 := B1.out.size
      replace HX := Lib.hid (HX.out.up b5)
      replace B1 := Lib.hid (up_trans B1.out b5)
      clear b5
      have hlx : w.heap.size < w5.heap.size := HX.out.lt
      cases hrd : rdB l with
      | none =>
        rw [hrd] at h5
        obtain ⟨f6, A6, n6, cap6, p6, hp6, rfl⟩ := h5
        have HR := Lib.hid (gotB_none HFR.out hrd)
        have hl6 := btc_length f6 (.slice A6 n6 cap6) hp6
        go_wp2_with (first
          | (refine wpList_store_whole rfl 27 _ _ rfl w5.heap.size 27 zbt (btc f6 (.slice A6 n6 cap6) p6) (by rfl) (by rfl) (Has.make w5 _ zbt) (by rw [hl6, hz]) (by rw [hi, hl6]) (btc_one _ _ _ _ _) ?_; intro w6 hF6 hO6)
          | (refine wpList_store_whole rfl 27 _ _ rfl w.heap.size 27 zbt zbt (by rfl) (by rfl) (hO6.keep (by omega) (HX.out.alloc _)) rfl (by rw [hi, hz]) hzo ?_; intro wz hF hO))
        refine bodyPost_ret_by (results_got Try.results7 _ _ w.heap.size _ _ _ (by rfl) hF hz (by rfl) (by rfl)) rfl ?_
        exact bget_bad HR.out (hO.below (Nat.le_refl _) (hO6.below (by omega) (B1.out.alloc B1.out.size _)))
      | some b =>
        rw [hrd] at h5
        obtain ⟨v, rfl, hO5⟩ := h5
        obtain ⟨A, m, cap, rfl, hn1, hn2, hn3⟩ := hO5.opened
        clear hn1 hn2 hn3
        have HR := Lib.hid (gotB_some HFR.out hrd)
        rw [HLN.out] at HR
        have hbf := (rdB_back hrd).2.2
        have hb3 := btc_length b.first (.slice A m cap) hbf.prev
        have RO := Lib.hid ((hO5.alloc (.cells zbt.toArray 27)).mono_base hs4)
        clear hO5
        go_wp2_with (first
          | (refine wpList_store_whole rfl 27 _ _ rfl w5.heap.size 27 zbt (btc b.first (.slice A m cap) b.prev) (by rfl) (by rfl) (Has.make w5 _ zbt) (by rw [hb3, hz]) (by rw [hi, hb3]) (btc_one _ _ _ _ _) ?_; intro w6 hF6 hO6)
          | (refine wpList_load_row rfl 27 _ rfl w5.heap.size (by rfl) _ _ _ _ hF6 hu rfl (by rw [hi, List.size_toArray, hb3]) ?_)
          | (refine wpList_store_whole rfl 27 _ _ rfl w.heap.size 27 zbt (btc b.first (.slice A m cap) b.prev) (by rfl) (by rfl) (hO6.keep (by omega) (HX.out.alloc _)) (by rw [hb3, hz]) (by rw [hi, hb3]) (btc_one _ _ _ _ _) ?_; intro wz hF hO))
        have O6 := RO.out.over (Has.make w5 27 zbt) (by decide) hO6
        have O7 := O6.over (hO6.keep (by omega) (HX.out.alloc _)) (by decide) hO
        refine bodyPost_ret_by (results_got Try.results7 _ _ w.heap.size _ (.int .i64 ((n + 9 : Nat) : Int)) (.int .i64 0) (by rfl) hF hb3 (by rfl) (by rfl)) rfl ?_
        exact bget_good HR.out O7 (hO.below (Nat.le_refl _) (hO6.below (by omega) (B1.out.alloc B1.out.size _)))
    · have HR := Lib.hid (show gotB s.data.toList = noB 10 by
        refine gotB_err (l := []) ?_ (by omega)
        rw [hl1, fr_sum hc (by omega) (by omega) (by
          rw [← hn, ← hl1, ← hqe, ← hX]
          intro h
          exact heq (by rw [h, be_four _ hq]))])
      have d5 : ((be X : Int) != (q : Int)) = true := by rw [bne_iff_ne]; omega
      generalize be X = x at *
      clear hl1 hc hn hr hrl hRs hRl hbs hbl hX hXl hC2 hAl hAs hO hq hqe q64 hbe hR heq hmore hbig h4
      go_enter Try.func7, Try.ntmps7
      go_wp2_with fail
      generalize hw1 : w.alloc (Obj.cells _ _) = w1
      replace HX : Hid (Has w1 w.heap.size 27 zbt) := by rw [← hw1]; exact HX
      replace B1 : Hid (Below w.heap.size w w1) := by rw [← hw1]; exact B1
      clear hw1
      refine (HC.out _).mono ?_; rintro e w2 ⟨rfl, b2⟩
      replace HX := Lib.hid (HX.out.up b2)
      replace B1 := Lib.hid (up_trans B1.out b2)
      clear b2
      go_wp2_with fail
      refine (HC2.out _).mono ?_; rintro e w3 ⟨rfl, b3⟩
      replace HX := Lib.hid (HX.out.up b3)
      replace B1 := Lib.hid (up_trans B1.out b3)
      clear b3
      go_wp2_with fail
      refine (HO.out _).mono ?_; rintro e w4 ⟨rfl, b4⟩
      replace HX := Lib.hid (HX.out.up b4)
      replace B1 := Lib.hid (up_trans B1.out b4)
      clear b4
      have q64 := Q64.out
      go_wp2_with (refine wpList_store_whole rfl 27 _ _ rfl w.heap.size 27 zbt zbt (by rfl) (by rfl) HX.out rfl (by rw [hi, hz]) hzo ?_; intro wz hF hO)
      refine bodyPost_ret_by (results_got Try.results7 _ _ w.heap.size _ _ _ (by rfl) hF hz (by rfl) (by rfl)) rfl ?_
      exact bget_bad HR.out (hO.below (Nat.le_refl _) B1.out)
  · have d1 : (((s[0]'hp).toNat : Int) != 66) = true := by rw [bne_iff_ne]; omega
    have HR := Lib.hid (show gotB s.data.toList = noB 3 by rw [gotB_err (show frO s.data.toList = ([], 3) by rw [hl1, fr_mark hc]) (by omega)])
    clear hl1 hc
    go_enter Try.func7, Try.ntmps7
    go_wp2_with (refine wpList_store_whole rfl 27 _ _ rfl w.heap.size 27 zbt zbt (by rfl) (by rfl) (Has.make w _ zbt) rfl (by rw [hi, hz]) hzo ?_; intro wz hF hO)
    refine bodyPost_ret_by (results_got Try.results7 _ _ w.heap.size _ _ _ (by rfl) hF hz (by rfl) (by rfl)) rfl ?_
    exact bget_bad HR.out (hO.below (Nat.le_refl _) B1.out)

end Go.Proofs.Ytalfmkgcelipdaa
