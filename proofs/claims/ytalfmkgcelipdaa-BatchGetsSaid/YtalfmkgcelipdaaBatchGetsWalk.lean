/- The walk of the law BatchGets: bytes are just this batch, and have just so many, or are none. -/
import Derived.Test.YtalfmkgcelipdaaBatN
import Derived.Test.YtalfmkgcelipdaaBatP
namespace Go.Proofs.Ytalfmkgcelipdaa
open Go.RowKit Wire Evt Bat

theorem gotB_many (s : List UInt8) : (gotB s).bt.evs.length ≤ 256 := by
  by_cases h : (gotB s).err = 0
  · obtain ⟨b, n, e, hg⟩ : ∃ b n e, gotB s = ⟨b, n, e⟩ := ⟨_, _, _, rfl⟩
    rw [hg] at h ⊢
    simp only at h
    subst h
    exact (isB_yes.1 (gotB_back hg).1).2.1
  · rw [gotB_bad h]
    simp [noB, zeroBt]

set_option maxHeartbeats 2000000 in
set_option maxRecDepth 100000 in
theorem BatchGets_core (s : ByteArray) (hs : s.size ≤ maxLen) (w : World) :
    Calls Try.prog 3 #[.string s] w fun e w' => e = .returned (.bool true) ∧ Below w.heap.size w w' := by
  unfold maxLen at hs
  by_cases h : 20000 < s.size
  · have d : (20000 : Int) < (s.size : Int) := by omega
    go_enter Try.func3, Try.ntmps3
    go_wp2_with fail
    go_ret
    exact ⟨rfl, Below.refl _ _⟩
  have d : ¬ (20000 : Int) < (s.size : Int) := by omega
  have hi := info_batch
  have hu := Try.underlying27
  have hz : zbt.length = 34 := btc_length _ _ (by simp)
  have hmany := gotB_many s.data.toList
  have hfit := gotB_fits s.data.toList
  have g1 := fun w => bget_any s (by omega) w
  have g2 := fun w => rbget_any s (by omega) w
  unfold BgetPost at g1 g2
  generalize gotB s.data.toList = G at *
  obtain ⟨⟨first, l, p⟩, m, er⟩ := G
  simp only at g1 g2 hmany
  have hpl : p.length = 32 := hfit.prev
  have hl2 : ∀ A n cap, (btc first (.slice A n cap) p).length = 34 := fun A n cap => btc_length _ _ hpl
  have G1 := Lib.hid g1
  have G2 := Lib.hid g2
  clear g1 g2 hfit
  go_enter Try.func3, Try.ntmps3
  go_wp2_with fail
  refine (G1.out _).mono ?_; rintro e w1 ⟨v, rfl, hO, b1⟩
  obtain ⟨A, n, cap, rfl, hn, hcap, hsl⟩ := hO.opened
  have RO := Lib.hid hO
  have B1 := Lib.hid b1
  have HN := Lib.hid hn
  clear hO b1 hsl hn
  go_wp2_with (refine wpList_store_whole rfl 27 _ _ rfl w1.heap.size 27 zbt (btc first (.slice A n cap) p) (by rfl) (by rfl) (Has.make w1 _ zbt) (by rw [hl2, hz]) (by rw [hi, hl2]) (btc_one _ _ _ _ _) ?_; intro w2 hF2 hO2)
  have HX := Lib.hid hF2
  replace RO := Lib.hid ((RO.out.alloc (.cells zbt.toArray 27)).over (Has.make w1 _ zbt) (by decide) hO2)
  replace B1 := Lib.hid (hO2.below B1.out.size (B1.out.alloc B1.out.size _))
  clear hF2 hO2
  refine (G2.out _).mono ?_; rintro e w3 ⟨v, rfl, hO, b3⟩
  obtain ⟨A', n', cap', rfl, hn', hcap', hsl⟩ := hO.opened
  have RO' := Lib.hid hO
  replace HX := Lib.hid (HX.out.up b3)
  replace RO := Lib.hid (RO.out.up b3)
  replace B1 := Lib.hid (up_trans B1.out b3)
  have HN' := Lib.hid hn'
  have hlt := HX.out.lt
  clear hO b3 hsl hn'
  go_wp2_with (refine wpList_store_whole rfl 27 _ _ rfl w3.heap.size 27 zbt (btc first (.slice A' n' cap') p) (by rfl) (by rfl) (Has.make w3 _ zbt) (by rw [hl2, hz]) (by rw [hi, hl2]) (btc_one _ _ _ _ _) ?_; intro w4 hF4 hO4)
  have HY := Lib.hid hF4
  replace HX := Lib.hid (hO4.keep (by omega) (HX.out.alloc _))
  replace RO := Lib.hid ((RO.out.alloc (.cells zbt.toArray 27)).over (Has.make w3 _ zbt) (by decide) hO4)
  replace RO' := Lib.hid ((RO'.out.alloc (.cells zbt.toArray 27)).over (Has.make w3 _ zbt) (by decide) hO4)
  replace B1 := Lib.hid (hO4.below B1.out.size (B1.out.alloc B1.out.size _))
  clear hF4 hO4
  refine (batched_any _).mono ?_; rintro e w5 ⟨rfl, b5⟩
  replace HX := Lib.hid (HX.out.up b5)
  replace HY := Lib.hid (HY.out.up b5)
  replace RO := Lib.hid (RO.out.up b5)
  replace RO' := Lib.hid (RO'.out.up b5)
  replace B1 := Lib.hid (up_trans B1.out b5)
  clear b5
  go_wp2_with (first
    | (refine wpList_load_wanted (by rfl) 27 _ rfl w1.heap.size (by rfl) _ _ _ _ HX.out hu rfl (by rw [hi, List.size_toArray, hl2]) ?_)
    | (refine wpList_load_wanted (by rfl) 27 _ rfl w3.heap.size (by rfl) _ _ _ _ HY.out hu rfl (by rw [hi, List.size_toArray, hl2]) ?_))
  obtain rfl : n' = n := by rw [HN'.out, HN.out]
  refine (same_any first p hpl A A' l n' cap cap' HN.out (by rw [HN.out]; exact hcap) (by rw [HN.out]; exact hcap') (by omega) _ RO.out.slice.2.2 RO'.out.slice.2.2).mono ?_; rintro e w6 ⟨rfl, b6⟩
  go_wp2_with fail
  go_ret
  exact ⟨rfl, up_trans B1.out b6⟩

theorem BatchGets_walk (a0 : ByteArray) (z0 : a0.size ≤ 140737488351232) (w : World) :
    Calls Try.prog 3 #[.string a0] w fun e w' => e = .returned (.bool true) ∧ Below w.heap.size w w' :=
  BatchGets_core a0 (by unfold maxLen; omega) w

end Go.Proofs.Ytalfmkgcelipdaa
