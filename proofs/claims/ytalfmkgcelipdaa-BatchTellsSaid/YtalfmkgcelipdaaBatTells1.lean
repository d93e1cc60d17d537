/- The law BatchTells, where nothing is asked of a batch with bytes changed. -/
import Derived.Test.YtalfmkgcelipdaaBatchBackWalk
import Derived.Test.YtalfmkgcelipdaaPureBatC
namespace Go.Proofs.Ytalfmkgcelipdaa
open Go.RowKit Wire Evt Bat

/-- What is asked of the place and the bytes. -/
theorem tells_ways (m : Nat) (z : Int) (c : Nat) (hm : 41 ≤ m) : (z < 5) ∨ (¬ z < 5 ∧ (m : Int) - 8 < z ∧ z ≠ (m : Int) - 4) ∨ (¬ z < 5 ∧ z ≤ (m : Int) - 8 ∧ c = 0) ∨ (z = (m : Int) - 4 ∧ c = 0)
    ∨ (∃ a : Nat, z = a ∧ 5 ≤ a ∧ a + 8 ≤ m ∧ c ≠ 0) ∨ (∃ a : Nat, z = a ∧ 5 ≤ a ∧ a + 4 = m ∧ c ≠ 0) := by
  by_cases h1 : z < 5
  · exact Or.inl h1
  · by_cases h2 : z ≤ (m : Int) - 8
    · by_cases h3 : c = 0
      · exact Or.inr (Or.inr (Or.inl ⟨h1, h2, h3⟩))
      · exact Or.inr (Or.inr (Or.inr (Or.inr (Or.inl ⟨z.toNat, by omega, by omega, by omega, h3⟩))))
    · by_cases h4 : z = (m : Int) - 4
      · by_cases h3 : c = 0
        · exact Or.inr (Or.inr (Or.inr (Or.inl ⟨h4, h3⟩)))
        · exact Or.inr (Or.inr (Or.inr (Or.inr (Or.inr ⟨z.toNat, by omega, by omega, by omega, h3⟩))))
      · exact Or.inr (Or.inl ⟨h1, by omega, h4⟩)

set_option maxHeartbeats 4000000 in
set_option maxRecDepth 100000 in
/-- .. where it is not asked. -/
theorem BatchTells_rest (b : Bt) (hf : b.Fits) (hB : isB b.first b.evs = true) (A : Option Addr) (n cap : Nat) (hn : n = b.evs.length) (hcap : b.evs.length ≤ cap) (z : Int) (c m : Nat) (hc : c < 4294967296) (hm : (whole b).length = m) (h41 : 41 ≤ m) (hmm : m ≤ 16384) (hz1 : -9223372036854775808 ≤ z) (hz2 : z ≤ 9223372036854775807)
    (hz : (z < 5) ∨ (¬ z < 5 ∧ (m : Int) - 8 < z ∧ z ≠ (m : Int) - 4) ∨ (¬ z < 5 ∧ z ≤ (m : Int) - 8 ∧ c = 0) ∨ (z = (m : Int) - 4 ∧ c = 0)) (w : World) (hA : EvSl w A b.evs)
    (hbig : ∀ w, Calls Try.prog 10 #[.agg (btc b.first (.slice A n cap) b.prev).toArray] w fun e w' => e = .returned (.bool false) ∧ Below w.heap.size w w') :
    Calls Try.prog 5 #[.agg (btc b.first (.slice A n cap) b.prev).toArray, .int .i64 z, .int .u32 (c : Nat)] w fun e w' => e = .returned (.bool true) ∧ Below w.heap.size w w' := by
  have hlen := btc_length b.first (.slice A n cap) hf.prev
  have hi := info_batch
  have hu := Try.underlying27
  have HX := Lib.hid (Has.make w 27 (btc b.first (.slice A n cap) b.prev))
  have HBG := Lib.hid hbig
  have HS := Lib.hid (fun W (h : Below w.heap.size w W) => hA.up h)
  have P := Lib.hid (fun w hA => bput_yes b hf hB A n cap hn hcap w hA)
  obtain ⟨W, hW⟩ : ∃ W : ByteArray, W = ⟨(whole b).toArray⟩ := ⟨_, rfl⟩
  rw [← hW] at P
  have zW : W.size = m := by rw [hW, text_list, hm]
  have w0 : ¬ (W.size : Int) < 13 := by omega
  have w1' : (W.size : Int) ≤ 16384 := by omega
  rw [← zW] at hz
  clear hbig hA hn hcap hW hm zW h41 hmm
  generalize btc b.first (.slice A n cap) b.prev = L at *
  have B1 := Lib.hid (up_alloc (Below.refl w.heap.size w) (.cells L.toArray 27))
  have hways : (decide (z < 5) = true) ∨ (decide (z < 5) = false ∧ decide ((W.size : Int) - 8 < z) = true ∧ (z != (W.size : Int) - 4) = true) ∨ (decide (z < 5) = false ∧ decide ((W.size : Int) - 8 < z) = false ∧ ((c : Int) == 0) = true) ∨ (decide (z < 5) = false ∧ decide ((W.size : Int) - 8 < z) = true ∧ (z != (W.size : Int) - 4) = false ∧ ((c : Int) == 0) = true) := by
    simp only [decide_eq_true_eq, decide_eq_false_iff_not, bne_iff_ne, bne_eq_false_iff_eq, beq_iff_eq]
    omega
  clear hz
  rcases hways with e1 | ⟨e1, e2, e3⟩ | ⟨e1, e2, e4⟩ | ⟨e1, e2, e3, e4⟩
  all_goals
    go_enter Try.func5, Try.ntmps5
    go_wp2_with (refine wpList_load_row rfl 27 _ rfl w.heap.size (by rfl) _ _ _ _ HX.out hu rfl (by rw [hi, List.size_toArray, hlen]) ?_)
    generalize hw1 : w.alloc (Obj.cells L.toArray 27) = w1
    rw [hw1] at HX B1
    clear hw1
    refine (HBG.out _).mono ?_; rintro e w2 ⟨rfl, b2⟩
    replace HX := Lib.hid (HX.out.up b2)
    replace B1 := Lib.hid (up_trans B1.out b2)
    clear b2
    go_wp2_with (refine wpList_load_row rfl 27 _ rfl w.heap.size (by rfl) _ _ _ _ HX.out hu rfl (by rw [hi, List.size_toArray, hlen]) ?_)
    refine (P.out _ (HS.out _ B1.out)).mono ?_; rintro e w3 ⟨rfl, b3⟩
    replace B1 := Lib.hid (up_trans B1.out b3)
    clear b3
    go_wp2_with fail
    refine (batched_any _).mono ?_; rintro e w4 ⟨rfl, b4⟩
    go_wp2_with fail
    go_ret
    exact ⟨rfl, up_trans B1.out b4⟩

end Go.Proofs.Ytalfmkgcelipdaa
