/- The walk of the law BatchBack: what is put is got again, whatever stands behind it; a beginning of it tells ErrMore. -/
import Derived.Test.YtalfmkgcelipdaaBatN
namespace Go.Proofs.Ytalfmkgcelipdaa
open Go.RowKit Wire Evt Bat

theorem big_any (first n : Nat) (A : Option Addr) (cap : Nat) (p : List UInt8) (w : World) :
    Calls Try.prog 10 #[.agg (btc first (.slice A n cap) p).toArray] w fun e w' => e = .returned (.bool (decide ((300 : Int) < (n : Int)))) ∧ Below w.heap.size w w' := by
  have L1 : (btc first (.slice A n cap) p)[1]? = some (.slice A n cap) := rfl
  generalize btc first (.slice A n cap) p = L at *
  have B1 := Lib.hid (up_alloc (Below.refl w.heap.size w) (.cells L.toArray 27))
  go_enter Try.func10, Try.ntmps10
  go_wp2_with fail
  go_ret
  exact ⟨rfl, B1.out⟩

/-- A Get that tells an error, whatever else. -/
theorem bget_err (s : ByteArray) (hs : s.size ≤ 100000) (e : Nat) (he : (gotB s.data.toList).err = e) (w : World) :
    Calls Try.prog 6 #[.string s] w fun x w' => ∃ first A n cap p u, p.length = 32 ∧ x = .returned (.tuple #[.agg (btc first (.slice A n cap) p).toArray, .int .i64 u, .int .i64 (e : Nat)]) ∧ Below w.heap.size w w' := by
  refine (bget_any s hs w).mono ?_
  rintro x w' ⟨v, rfl, hO, hb⟩
  obtain ⟨A, n, cap, rfl, _⟩ := hO.opened
  exact ⟨_, A, n, cap, _, _, (gotB_fits _).prev, by rw [he], hb⟩

theorem bget_ok (s : ByteArray) (hs : s.size ≤ 100000) (b : Bt) (m : Nat) (h : gotB s.data.toList = ⟨b, m, 0⟩) (w : World) :
    Calls Try.prog 6 #[.string s] w fun x w' => ∃ A cap, b.evs.length ≤ cap ∧ x = .returned (.tuple #[.agg (btc b.first (.slice A b.evs.length cap) b.prev).toArray, .int .i64 (m : Nat), .int .i64 0]) ∧ OwnE w.heap.size (.slice A b.evs.length cap) b.evs w' ∧ Below w.heap.size w w' := by
  refine (bget_any s hs w).mono ?_
  rintro x w' ⟨v, rfl, hO, hb⟩
  rw [h] at hO ⊢
  obtain ⟨A, n, cap, rfl, hn, hcap, _⟩ := hO.opened
  subst hn
  exact ⟨A, cap, hcap, rfl, hO, hb⟩

set_option maxHeartbeats 4000000 in
set_option maxRecDepth 100000 in
theorem BatchBack_yes (b : Bt) (hf : b.Fits) (hB : isB b.first b.evs = true) (A : Option Addr) (n cap : Nat) (hn : n = b.evs.length) (hcap : b.evs.length ≤ cap) (behind : ByteArray) (hs : behind.size ≤ 1000) (z : Int) (k m : Nat) (hm : (whole b).length = m) (hk : k < m)
    (hz : (decide (z < 0) = true ∧ k + 1 = m) ∨ (decide (z < 0) = false ∧ (m : Int) ≤ z ∧ k + 1 = m) ∨ z = (k : Int)) (w : World) (hA : EvSl w A b.evs)
    (hbig : ∀ w, Calls Try.prog 10 #[.agg (btc b.first (.slice A n cap) b.prev).toArray] w fun e w' => e = .returned (.bool false) ∧ Below w.heap.size w w') :
    Calls Try.prog 4 #[.agg (btc b.first (.slice A n cap) b.prev).toArray, .string behind, .int .i64 z] w fun e w' => e = .returned (.bool true) ∧ Below w.heap.size w w' := by
  have hlen := btc_length b.first (.slice A n cap) hf.prev
  have hlen2 : ∀ A n cap, (btc b.first (.slice A n cap) b.prev).length = 34 := fun A n cap => btc_length b.first (.slice A n cap) hf.prev
  have hz34 : zbt.length = 34 := btc_length _ _ (by simp)
  have hi := info_batch
  have hu := Try.underlying27
  have HX := Lib.hid (Has.make w 27 (btc b.first (.slice A n cap) b.prev))
  have HBG := Lib.hid hbig
  have d2 : ¬ (1000 : Int) < (behind.size : Int) := by omega
  have HS := Lib.hid (fun W (h : Below w.heap.size w W) => hA.up h)
  obtain ⟨g1, g2, _, _⟩ := isB_yes.1 hB
  have hbl := body_len hf hB
  have hwl := whole_len b
  have P := Lib.hid (fun w hA => bput_yes b hf hB A n cap hn hcap w hA)
  obtain ⟨W, hW⟩ : ∃ W : ByteArray, W = ⟨(whole b).toArray⟩ := ⟨_, rfl⟩
  rw [← hW] at P
  have zW : W.size = m := by rw [hW, text_list, hm]
  have hWb : (W ++ behind).data.toList = whole b ++ behind.data.toList := by rw [hW]; simp
  have gb := gotB_put hf hB behind.data.toList
  rw [← hWb, hm, ← zW] at gb
  have g1' := fun w => bget_ok (W ++ behind) (by rw [ByteArray.size_append]; omega) b W.size gb w
  simp only [← hn] at g1'
  have G1 := Lib.hid g1'
  clear g1'
  have hWk : (W.extract 0 k).data.toList = (whole b).take k := by rw [head_of, hW]
  have hWs : (W.extract 0 k).size ≤ 100000 := by
    have := list_size (W.extract 0 k)
    rw [hWk, List.length_take] at this
    omega
  have gk := gotB_less hf hB (n := k) (by omega)
  rw [← hWk] at gk
  have G2 := Lib.hid (fun w => bget_err (W.extract 0 k) hWs 4 gk w)
  have SM := Lib.hid (fun A' cap' hc hc' w h h' => same_any b.first b.prev hf.prev A A' b.evs n cap cap' hn hc hc' (by omega) w h h')
  have hnc : n ≤ cap := by omega
  have w0 : (1 : Int) ≤ (W.size : Int) := by omega
  have w1' : (W.size : Int) ≤ 16384 := by omega
  have w2' : ¬ 9223372036854775807 < W.size + behind.size := by omega
  have k0 : (0 : Int) ≤ (k : Int) := by omega
  have k1 : (k : Int) ≤ (W.size : Int) := by omega
  have HM := Lib.hid zW
  have HN := Lib.hid hn
  clear hbig hA hn hcap hs hm hbl hwl hW hWb gb hWk hWs gk g1 g2 hB
  generalize btc b.first (.slice A n cap) b.prev = L at *
  have B1 := Lib.hid (up_alloc (Below.refl w.heap.size w) (.cells L.toArray 27))
  have hways : (decide (z < 0) = true ∧ (W.size : Int) - 1 = (k : Int)) ∨ (decide (z < 0) = false ∧ (W.size : Int) ≤ z ∧ (W.size : Int) - 1 = (k : Int)) ∨ (z = (k : Int) ∧ (k : Int) < (W.size : Int)) := by
    rcases hz with ⟨d1, hkm⟩ | ⟨d1, d3, hkm⟩ | rfl
    · exact Or.inl ⟨d1, by omega⟩
    · exact Or.inr (Or.inl ⟨d1, by omega, by omega⟩)
    · exact Or.inr (Or.inr ⟨rfl, by omega⟩)
  clear zW hk hz
  rcases hways with ⟨d1, e1⟩ | ⟨d1, d3, e1⟩ | ⟨rfl, d3⟩
  all_goals
    go_enter Try.func4, Try.ntmps4
    go_wp2_with (refine wpList_load_row rfl 27 _ rfl w.heap.size (by rfl) _ _ _ _ HX.out hu rfl (by rw [hi, List.size_toArray, hlen]) ?_)
    generalize hw1 : w.alloc (Obj.cells L.toArray 27) = w1
    rw [hw1] at HX B1
    clear hw1
    refine (HBG.out _).mono ?_; rintro e w2 ⟨rfl, b2⟩
    replace HX := Lib.hid (HX.out.up b2)
    replace B1 := Lib.hid (up_trans B1.out b2)
    clear b2
    go_wp2_with (refine wpList_load_row rfl 27 _ rfl w.heap.size (by rfl) _ _ _ _ HX.out hu rfl (by rw [hi, List.size_toArray, hlen]) ?_)
    refine (P.out _ (HS.out _ B1.out)).mono ?_; rintro e w3 ⟨rfl, b3⟩
    replace HX := Lib.hid (HX.out.up b3)
    replace B1 := Lib.hid (up_trans B1.out b3)
    clear b3
    go_wp2_with fail
    refine (G1.out _).mono ?_; rintro e w4 ⟨A', cap', hc', rfl, hO, b4⟩
    replace HX := Lib.hid (HX.out.up b4)
    replace B1 := Lib.hid (up_trans B1.out b4)
    have HO := Lib.hid hO
    have hlt4 := HX.out.lt
    clear b4 hO
    go_wp2_with (refine wpList_store_whole rfl 27 _ _ rfl w4.heap.size 27 zbt (btc b.first (.slice A' n cap') b.prev) (by rfl) (by rfl) (Has.make w4 _ zbt) (by rw [hlen2, hz34]) (by rw [hi, hlen2]) (btc_one _ _ _ _ _) ?_; intro w5 hF5 hO5)
    replace HX := Lib.hid (hO5.keep (by omega) (HX.out.alloc _))
    replace HO := Lib.hid ((HO.out.alloc (.cells zbt.toArray 27)).over (Has.make w4 _ zbt) (by decide) hO5)
    replace B1 := Lib.hid (hO5.below (by omega) (B1.out.alloc B1.out.size _))
    have HG := Lib.hid hF5
    clear hF5 hO5
    refine (G2.out _).mono ?_; rintro e w6 ⟨f6, A6, n6, cap6, p6, u6, hp6, rfl, b6⟩
    replace HX := Lib.hid (HX.out.up b6)
    replace HG := Lib.hid (HG.out.up b6)
    replace HO := Lib.hid (HO.out.up b6)
    replace B1 := Lib.hid (up_trans B1.out b6)
    have hlt6 := HG.out.lt
    have hl6 := btc_length f6 (.slice A6 n6 cap6) hp6
    clear b6
    go_wp2_with (refine wpList_store_whole rfl 27 _ _ rfl w6.heap.size 27 zbt (btc f6 (.slice A6 n6 cap6) p6) (by rfl) (by rfl) (Has.make w6 _ zbt) (by rw [hl6, hz34]) (by rw [hi, hl6]) (btc_one _ _ _ _ _) ?_; intro w7 hF7 hO7)
    replace HX := Lib.hid (hO7.keep (by omega) (HX.out.alloc _))
    replace HG := Lib.hid (hO7.keep (by omega) (HG.out.alloc _))
    replace HO := Lib.hid ((HO.out.alloc (.cells zbt.toArray 27)).over (Has.make w6 _ zbt) (by decide) hO7)
    replace B1 := Lib.hid (hO7.below (by omega) (B1.out.alloc B1.out.size _))
    clear hF7 hO7
    refine (batched_any _).mono ?_; rintro e w8 ⟨rfl, b8⟩
    replace HX := Lib.hid (HX.out.up b8)
    replace HG := Lib.hid (HG.out.up b8)
    replace HO := Lib.hid (HO.out.up b8)
    replace B1 := Lib.hid (up_trans B1.out b8)
    clear b8
    go_wp2_with (first
      | (refine wpList_load_wanted (by rfl) 27 _ rfl w.heap.size (by rfl) _ _ _ _ HX.out hu rfl (by rw [hi, List.size_toArray, hlen]) ?_)
      | (refine wpList_load_wanted (by rfl) 27 _ rfl w4.heap.size (by rfl) _ _ _ _ HG.out hu rfl (by rw [hi, List.size_toArray, hlen2]) ?_))
    refine (SM.out _ _ hnc hc' _ (HS.out _ B1.out) HO.out.slice.2.2).mono ?_; rintro e w9 ⟨rfl, b9⟩
    go_wp2_with fail
    go_ret
    exact ⟨rfl, up_trans B1.out b9⟩

set_option maxHeartbeats 4000000 in
set_option maxRecDepth 100000 in
theorem BatchBack_core (b : Bt) (hf : b.Fits) (A : Option Addr) (n cap : Nat) (hn : n = b.evs.length) (hcap : b.evs.length ≤ cap) (behind : ByteArray) (hs : behind.size ≤ maxLen) (z : Int) (hz1 : -9223372036854775808 ≤ z) (hz2 : z ≤ 9223372036854775807) (w : World) (hA : EvSl w A b.evs) :
    Calls Try.prog 4 #[.agg (btc b.first (.slice A n cap) b.prev).toArray, .string behind, .int .i64 z] w fun e w' => e = .returned (.bool true) ∧ Below w.heap.size w w' := by
  have hlen := btc_length b.first (.slice A n cap) hf.prev
  have hi := info_batch
  have hu := Try.underlying27
  have HX := Lib.hid (Has.make w 27 (btc b.first (.slice A n cap) b.prev))
  have hbig := fun w => big_any b.first n A cap b.prev w
  unfold maxLen at hs
  by_cases h1 : 300 < n
  · rw [decide_eq_true (show (300 : Int) < (n : Int) by omega)] at hbig
    have HBG := Lib.hid hbig
    generalize btc b.first (.slice A n cap) b.prev = L at *
    have B1 := Lib.hid (up_alloc (Below.refl w.heap.size w) (.cells L.toArray 27))
    clear hbig hn hcap h1
    go_enter Try.func4, Try.ntmps4
    go_wp2_with (refine wpList_load_row rfl 27 _ rfl w.heap.size (by rfl) _ _ _ _ HX.out hu rfl (by rw [hi, List.size_toArray, hlen]) ?_)
    refine (HBG.out _).mono ?_; rintro e w2 ⟨rfl, b2⟩
    go_wp2_with fail
    go_ret
    exact ⟨rfl, up_trans B1.out b2⟩
  rw [decide_eq_false (show ¬ (300 : Int) < (n : Int) by omega)] at hbig
  have HBG := Lib.hid hbig
  by_cases h2 : 1000 < behind.size
  · have d2 : (1000 : Int) < (behind.size : Int) := by omega
    generalize btc b.first (.slice A n cap) b.prev = L at *
    have B1 := Lib.hid (up_alloc (Below.refl w.heap.size w) (.cells L.toArray 27))
    clear hbig hn hcap h1 h2
    go_enter Try.func4, Try.ntmps4
    go_wp2_with (refine wpList_load_row rfl 27 _ rfl w.heap.size (by rfl) _ _ _ _ HX.out hu rfl (by rw [hi, List.size_toArray, hlen]) ?_)
    refine (HBG.out _).mono ?_; rintro e w2 ⟨rfl, b2⟩
    go_wp2_with fail
    go_ret
    exact ⟨rfl, up_trans B1.out b2⟩
  have d2 : ¬ (1000 : Int) < (behind.size : Int) := by omega
  have HS := Lib.hid (fun W (h : Below w.heap.size w W) => hA.up h)
  cases hB : isB b.first b.evs with
  | false =>
    have P := Lib.hid (fun w hA => bput_no b hf hB (by omega) A n cap hn hcap w hA)
    have i1 := fun w hA => bis_any b.first b.evs b.prev hf.seqs A n cap hn hcap (by omega) w hA
    rw [hB] at i1
    have I := Lib.hid i1
    generalize btc b.first (.slice A n cap) b.prev = L at *
    have B1 := Lib.hid (up_alloc (Below.refl w.heap.size w) (.cells L.toArray 27))
    clear hbig hn hcap h1 h2 i1
    go_enter Try.func4, Try.ntmps4
    go_wp2_with (refine wpList_load_row rfl 27 _ rfl w.heap.size (by rfl) _ _ _ _ HX.out hu rfl (by rw [hi, List.size_toArray, hlen]) ?_)
    generalize hw1 : w.alloc (Obj.cells L.toArray 27) = w1
    rw [hw1] at HX B1
    clear hw1
    refine (HBG.out _).mono ?_; rintro e w2 ⟨rfl, b2⟩
    replace HX := Lib.hid (HX.out.up b2)
    replace B1 := Lib.hid (up_trans B1.out b2)
    clear b2
    go_wp2_with (refine wpList_load_row rfl 27 _ rfl w.heap.size (by rfl) _ _ _ _ HX.out hu rfl (by rw [hi, List.size_toArray, hlen]) ?_)
    refine (P.out _ (HS.out _ B1.out)).mono ?_; rintro e w3 ⟨rfl, b3⟩
    replace HX := Lib.hid (HX.out.up b3)
    replace B1 := Lib.hid (up_trans B1.out b3)
    clear b3
    go_wp2_with fail
    refine (batched_any _).mono ?_; rintro e w4 ⟨rfl, b4⟩
    replace HX := Lib.hid (HX.out.up b4)
    replace B1 := Lib.hid (up_trans B1.out b4)
    clear b4
    go_wp2_with (refine wpList_load_wanted (by rfl) 27 _ rfl w.heap.size (by rfl) _ _ _ _ HX.out hu rfl (by rw [hi, List.size_toArray, hlen]) ?_)
    refine (I.out _ (HS.out _ B1.out)).mono ?_; rintro e w5 ⟨rfl, b5⟩
    go_wp2_with fail
    go_ret
    exact ⟨rfl, up_trans B1.out b5⟩
  | true =>
    obtain ⟨m, hm⟩ : ∃ m, (whole b).length = m := ⟨_, rfl⟩
    have hmp := whole_len b
    by_cases z0 : z < 0
    · exact BatchBack_yes b hf hB A n cap hn hcap behind (by omega) z (m - 1) m hm (by omega) (Or.inl ⟨by simpa using z0, by omega⟩) w hA hbig
    · by_cases z1 : (m : Int) ≤ z
      · exact BatchBack_yes b hf hB A n cap hn hcap behind (by omega) z (m - 1) m hm (by omega) (Or.inr (Or.inl ⟨by simpa using z0, z1, by omega⟩)) w hA hbig
      · exact BatchBack_yes b hf hB A n cap hn hcap behind (by omega) z z.toNat m hm (by omega) (Or.inr (Or.inr (by omega))) w hA hbig

end Go.Proofs.Ytalfmkgcelipdaa
