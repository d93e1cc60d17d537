/- The walk of the law BatchTells: with some of four bytes changed, that stand in the body, or are the last four, a batch tells ErrSum. -/
import Derived.Test.YtalfmkgcelipdaaBatTells1
import Derived.Laws.IdiomStrings
import Derived.StillTailTactics
namespace Go.Proofs.Ytalfmkgcelipdaa
open Go.RowKit Wire Evt Bat

/-- Bytes in a block of their own, that may be written. -/
structure RowB (w : World) (g : Nat) (l : List UInt8) : Prop where
  cell : ∀ j x, l[j]? = some x → w.cell? ⟨g, j, none⟩ = some (.int .u8 (x.toNat : Int))
  free : ∀ j, j < l.length → w.frozen? ⟨g, j, none⟩ = false

theorem RowB.set {w : World} {g : Nat} {l : List UInt8} (h : RowB w g l) {i : Nat} (hi : i < l.length) (x : UInt8) : RowB (w.setCell ⟨g, i, none⟩ (.int .u8 (x.toNat : Int))) g (l.set i x) := by
  refine ⟨fun j y hy => ?_, fun j hj => ?_⟩
  · by_cases hij : i = j
    · subst hij
      rw [List.getElem?_set_self hi] at hy
      cases hy
      exact World.cell?_setCell_same _ _ _ (h.cell i l[i] (List.getElem?_eq_getElem hi))
    · rw [List.getElem?_set_ne hij] at hy
      rw [World.cell?_setCell_other _ _ _ _ (by simp [Ne.symm hij])]
      exact h.cell j y hy
  · rw [World.frozen?_setCell]
    exact h.free j (by simpa using hj)
theorem bytesRow_at (s : ByteArray) (cap j : Nat) (x : UInt8) (h : s.data.toList[j]? = some x) : (bytesRow s cap)[j]? = some (.int .u8 (x.toNat : Int)) := by
  have hj : j < s.data.size := by
    have := (List.getElem?_eq_some_iff.1 h).1
    simpa using this
  have hx : s.data[j]? = some x := by rw [← Array.getElem?_toList]; exact h
  unfold bytesRow
  rw [Array.getElem?_append_left (by simpa using hj)]
  simp [hx]
theorem RowB.made (w : World) (s : ByteArray) (cap : Nat) (e : TypeId) : RowB (w.drew.alloc (.cells (bytesRow s cap) e ((bytesRow s cap).size, (bytesRow s cap).size + 1))) w.heap.size s.data.toList := by
  have hh : (w.drew.alloc (.cells (bytesRow s cap) e ((bytesRow s cap).size, (bytesRow s cap).size + 1))).heap[w.heap.size]? = some (.cells (bytesRow s cap) e ((bytesRow s cap).size, (bytesRow s cap).size + 1)) := heap_alloc_new w.drew _
  refine ⟨fun j x hx => ?_, fun j hj => ?_⟩
  · unfold World.cell?
    simp only [hh]
    exact bytesRow_at s cap j x hx
  · have hl : (bytesRow s cap).size = s.size + (cap - s.size) := by simp [bytesRow]
    rw [list_size] at hj
    unfold World.frozen?
    simp only [hh]
    rw [hl]
    simp
    omega
theorem RowB.drew {w : World} {g : Nat} {l : List UInt8} (h : RowB w g l) : RowB w.drew g l := ⟨h.cell, h.free⟩
theorem RowB.text {w : World} {g cap : Nat} {l : List UInt8} (h : RowB w g l) : (convert 39 9 (.slice (some ⟨g, 0, none⟩) l.length cap)).run Try.prog w = .ok (.string ⟨l.toArray⟩) w := by
  refine run_convert_bytes_back (P := Try.prog) w 39 9 5 ⟨g, 0, none⟩ cap l Try.underlying39 Try.underlying5 Try.underlying9 ?_
  intro j hj
  have hadd : (⟨g, 0, none⟩ : Addr).add j = ⟨g, j, none⟩ := by unfold Addr.add; split <;> simp_all
  rw [hadd]
  exact h.cell j _ (List.getElem?_eq_getElem hj)

theorem bent_at (c : Nat) (c0 c1 c2 c3 : UInt8) {j : Nat} (h : j < 4) : at4b (c0 ^^^ byb c 0) (c1 ^^^ byb c 1) (c2 ^^^ byb c 2) (c3 ^^^ byb c 3) j = at4b c0 c1 c2 c3 j ^^^ byt c j := by
  match j, h with
  | 0, _ => rfl
  | 1, _ => rfl
  | 2, _ => rfl
  | 3, _ => rfl
theorem xor_u8 (x y : UInt8) : bits .xor .u8 (x.toNat : Int) (y.toNat : Int) = (((x ^^^ y).toNat : Nat) : Int) := by
  rw [u8_xor_nat x.toNat y.toNat x.toNat_lt y.toNat_lt, UInt8.toNat_xor]

set_option maxHeartbeats 4000000 in
set_option maxRecDepth 100000 in
theorem BatchTells_main (b : Bt) (hf : b.Fits) (hB : isB b.first b.evs = true) (A : Option Addr) (n cap : Nat) (hn : n = b.evs.length) (hcap : b.evs.length ≤ cap) (a c m : Nat) (hc : c < 4294967296) (hc0 : c ≠ 0) (hm : (whole b).length = m) (h41 : 41 ≤ m) (hmm : m ≤ 16384)
    (h5 : 5 ≤ a) (ha : a + 8 ≤ m ∨ a + 4 = m) (w : World) (hA : EvSl w A b.evs)
    (hbig : ∀ w, Calls Try.prog 10 #[.agg (btc b.first (.slice A n cap) b.prev).toArray] w fun e w' => e = .returned (.bool false) ∧ Below w.heap.size w w') :
    Calls Try.prog 5 #[.agg (btc b.first (.slice A n cap) b.prev).toArray, .int .i64 (a : Nat), .int .u32 (c : Nat)] w fun e w' => e = .returned (.bool true) ∧ Below w.heap.size w w' := by
  have hlen := btc_length b.first (.slice A n cap) hf.prev
  have hz34 : zbt.length = 34 := btc_length _ _ (by simp)
  have hi := info_batch
  have hu := Try.underlying27
  have HX := Lib.hid (Has.make w 27 (btc b.first (.slice A n cap) b.prev))
  have HBG := Lib.hid hbig
  have HS := Lib.hid (fun W (h : Below w.heap.size w W) => hA.up h)
  have P := Lib.hid (fun w hA => bput_yes b hf hB A n cap hn hcap w hA)
  obtain ⟨p, c0, c1, c2, c3, q, hw, hp⟩ := list_four (l := whole b) (n := a) (by omega)
  have hql : q.length = m - a - 4 := by
    have := congrArg List.length hw
    simp at this
    omega
  have hbent := gotB_bent (d0 := c0 ^^^ byb c 0) (d1 := c1 ^^^ byb c 1) (d2 := c2 ^^^ byb c 2) (d3 := c3 ^^^ byb c 3) hf hB hw (by omega) (by
    rcases ha with h | h
    · exact Or.inl (by omega)
    · exact Or.inr (List.length_eq_zero_iff.1 (by omega))) (byb_some hc hc0 c0 c1 c2 c3)
  obtain ⟨W, hW⟩ : ∃ W : ByteArray, W = ⟨(whole b).toArray⟩ := ⟨_, rfl⟩
  rw [← hW] at P
  have zW : W.size = m := by rw [hW, text_list, hm]
  have hWl : W.data.toList = p ++ ([c0, c1, c2, c3] ++ q) := by rw [hW]; exact hw
  have w0 : ¬ (W.size : Int) < 13 := by omega
  have w1' : (W.size : Int) ≤ 16384 := by omega
  have e1 : decide ((a : Int) < 5) = false := by simp; omega
  have ham : a + 4 ≤ m := by omega
  have e4 : ((c : Int) == 0) = false := by rw [beq_eq_false_iff_ne]; omega
  have hways : (decide ((W.size : Int) - 8 < (a : Int)) = false) ∨ (decide ((W.size : Int) - 8 < (a : Int)) = true ∧ (((a : Int)) != (W.size : Int) - 4) = false) := by
    simp only [decide_eq_true_eq, decide_eq_false_iff_not, bne_eq_false_iff_eq]
    omega
  have HM := Lib.hid zW
  clear hbig hA hn hcap hW hm zW h41 hw ha
  generalize btc b.first (.slice A n cap) b.prev = L at *
  have B1 := Lib.hid (up_alloc (Below.refl w.heap.size w) (.cells L.toArray 27))
  rcases hways with e2 | ⟨e2, e3⟩
  all_goals
    go_enter Try.func5, Try.ntmps5
    go_wp2_with (refine wpList_load_row rfl 27 _ rfl w.heap.size (by rfl) _ _ _ _ HX.out hu rfl (by rw [hi, List.size_toArray, hlen]) ?_)
    generalize hw1 : w.alloc (Obj.cells L.toArray 27) = w1
    rw [hw1] at HX B1
    clear hw1
    refine (HBG.out _).mono ?_; rintro e w2 ⟨rfl, b2⟩
    replace HX := Lib.hid (HX.out.up b2)
    replace B1 := Lib.hid (up_trans B1.out b2)
    clear b2
    go_wp2_with (refine wpList_load_row rfl 27 _ rfl w.heap.size (by rfl) _ _ _ _ HX.out hu rfl (by rw [hi, List.size_toArray, hlen]) ?_)
    refine (P.out _ (HS.out _ B1.out)).mono ?_; rintro e w3 ⟨rfl, b3⟩
    replace B1 := Lib.hid (up_trans B1.out b3)
    clear b3
    go_wp2_with fail
    rw [run_bytes_of_string w3 9 39 5 W Try.underlying9 Try.underlying39 Try.underlying5]
    have hR := RowB.made w3 W (grownCap w3 W.size 0 5) 5
    have hlt := B1.out.size
    have hb4 : Below w.heap.size w (w3.drew.alloc (.cells (bytesRow W (grownCap w3 W.size 0 5)) 5 ((bytesRow W (grownCap w3 W.size 0 5)).size, (bytesRow W (grownCap w3 W.size 0 5)).size + 1))) := up_alloc B1.out.drew _
    rw [hWl] at hR
    simp only [Result.andThen]
    rw [Oper.upon_value]
    generalize grownCap w3 W.size 0 5 = cap at *
    generalize w3.drew.alloc _ = w4 at *
    have HR := Lib.hid hR
    replace B1 := Lib.hid hb4
    clear hR hb4
    go_wp2_with fail
    go_loopw [10] (fun i wr => ∃ j : Nat, j ≤ 4 ∧ i = .int .i64 (j : Nat) ∧ RowB wr w3.heap.size (p ++ (mid c0 c1 c2 c3 (c0 ^^^ byb c 0) (c1 ^^^ byb c 1) (c2 ^^^ byb c 2) (c3 ^^^ byb c 3) j ++ q)) ∧ Below w.heap.size w wr) (fun i _ => 4 - (intOf i).toNat)
    case atStart => exact ⟨0, by omega, rfl, HR.out, B1.out⟩
    case round =>
      clear HR B1
      obtain ⟨j, hj, rfl, hR, hb⟩ := hrel
      have HR := Lib.hid hR
      have HB := Lib.hid hb
      clear hR hb
      by_cases hlt4 : j < 4
      · have x2 := HR.out.cell (p.length + j) _ (mid_at _ _ _ _ _ _ _ _ hlt4 p q)
        have x1 := HR.out.free (p.length + j) (by simp [mid_length]; omega)
        rw [hp] at x1 x2
        have k1 : (a : Int) + (j : Int) < (W.size : Int) := by rw [HM.out]; omega
        have k0 : (0 : Int) ≤ (a : Int) + (j : Int) := by omega
        have j0 : (0 : Int) ≤ (j : Int) := by omega
        have j3 : (j : Int) < 4 := by omega
        have a1 : (a : Int) ≤ 16384 := by omega
        have sb := shr_byte c j
        have v1 : IntKind.i64.wrap ((a : Int) + (j : Int)) = (a : Int) + (j : Int) := IntWalk.i64_in _ (by omega)
        have v2 : IntKind.i64.wrap (8 * (j : Int)) = 8 * (j : Int) := IntWalk.i64_in _ (by omega)
        have v3 : ((a : Int) + (j : Int)).toNat = a + j := by omega
        have v4 : (8 * (j : Int)).toNat = 8 * j := by omega
        have v5 : (0 : Int) ≤ 8 * (j : Int) := by omega
        have sx := xor_u8 (at4b c0 c1 c2 c3 j) (byt c j)
        rw [← bent_at c c0 c1 c2 c3 hlt4] at sx
        have HR2 := HR.out.drew.set (i := p.length + j) (by simp [mid_length]; omega) (at4b (c0 ^^^ byb c 0) (c1 ^^^ byb c 1) (c2 ^^^ byb c 2) (c3 ^^^ byb c 3) j)
        rw [mid_set _ _ _ _ _ _ _ _ hlt4, hp] at HR2
        replace HR2 := Lib.hid HR2
        go_wp2_with fail
        go_still_tail 16, (by kernel_rfl)
        change wpList _ _ _ _ _ wr.drew
        go_wp2_with fail
        go_roundw
        case rel => exact ⟨j + 1, by omega, by go_num, HR2.out, HB.out.drew.setCell (p := ⟨w3.heap.size, a + j, none⟩) hlt _⟩
        case measure => simp [intOf]; omega
      · obtain rfl : j = 4 := by omega
        have ht := HR.out.text (cap := cap)
        have hll : (p ++ (mid c0 c1 c2 c3 (c0 ^^^ byb c 0) (c1 ^^^ byb c 1) (c2 ^^^ byb c 2) (c3 ^^^ byb c 3) 4 ++ q)).length = W.size := by rw [HM.out]; simp [mid_length]; omega
        have hbent' := hbent
        rw [hll] at ht
        have HG := Lib.hid (fun w => bget_err ⟨(p ++ (mid c0 c1 c2 c3 (c0 ^^^ byb c 0) (c1 ^^^ byb c 1) (c2 ^^^ byb c 2) (c3 ^^^ byb c 3) 4 ++ q)).toArray⟩ (by rw [text_list, hll]; omega) 10 hbent w)
        generalize (⟨(p ++ (mid c0 c1 c2 c3 (c0 ^^^ byb c 0) (c1 ^^^ byb c 1) (c2 ^^^ byb c 2) (c3 ^^^ byb c 3) 4 ++ q)).toArray⟩ : ByteArray) = V at *
        clear hll hbent'
        go_wp2_with fail
        refine (HG.out _).mono ?_; rintro e w5 ⟨f6, A6, n6, cap6, p6, u6, hp6, rfl, b6⟩
        have hl6 := btc_length f6 (.slice A6 n6 cap6) hp6
        replace HB := Lib.hid (up_trans HB.out b6)
        clear b6
        go_wp2_with (refine wpList_store_whole rfl 27 _ _ rfl w5.heap.size 27 zbt (btc f6 (.slice A6 n6 cap6) p6) (by rfl) (by rfl) (Has.make w5 _ zbt) (by rw [hl6, hz34]) (by rw [hi, hl6]) (btc_one _ _ _ _ _) ?_; intro w7 hF7 hO7)
        replace HB := Lib.hid (hO7.below (by have := HB.out.size; omega) (HB.out.alloc HB.out.size _))
        clear hF7 hO7
        refine (batched_any _).mono ?_; rintro e w8 ⟨rfl, b8⟩
        go_wp2_with fail
        go_ret
        exact ⟨rfl, up_trans HB.out b8⟩

set_option maxHeartbeats 1000000 in
set_option maxRecDepth 100000 in
theorem BatchTells_core (b : Bt) (hf : b.Fits) (A : Option Addr) (n cap : Nat) (hn : n = b.evs.length) (hcap : b.evs.length ≤ cap) (z : Int) (hz1 : -9223372036854775808 ≤ z) (hz2 : z ≤ 9223372036854775807) (c : Nat) (hc : c < 4294967296) (w : World) (hA : EvSl w A b.evs) :
    Calls Try.prog 5 #[.agg (btc b.first (.slice A n cap) b.prev).toArray, .int .i64 z, .int .u32 (c : Nat)] w fun e w' => e = .returned (.bool true) ∧ Below w.heap.size w w' := by
  have hlen := btc_length b.first (.slice A n cap) hf.prev
  have hi := info_batch
  have hu := Try.underlying27
  have HX := Lib.hid (Has.make w 27 (btc b.first (.slice A n cap) b.prev))
  have hbig := fun w => big_any b.first n A cap b.prev w
  by_cases h1 : 300 < n
  · rw [decide_eq_true (show (300 : Int) < (n : Int) by omega)] at hbig
    have HBG := Lib.hid hbig
    generalize btc b.first (.slice A n cap) b.prev = L at *
    have B1 := Lib.hid (up_alloc (Below.refl w.heap.size w) (.cells L.toArray 27))
    clear hbig hn hcap h1
    go_enter Try.func5, Try.ntmps5
    go_wp2_with (refine wpList_load_row rfl 27 _ rfl w.heap.size (by rfl) _ _ _ _ HX.out hu rfl (by rw [hi, List.size_toArray, hlen]) ?_)
    refine (HBG.out _).mono ?_; rintro e w2 ⟨rfl, b2⟩
    go_wp2_with fail
    go_ret
    exact ⟨rfl, up_trans B1.out b2⟩
  rw [decide_eq_false (show ¬ (300 : Int) < (n : Int) by omega)] at hbig
  cases hB : isB b.first b.evs with
  | false =>
    have HBG := Lib.hid hbig
    have HS := Lib.hid (fun W (h : Below w.heap.size w W) => hA.up h)
    have P := Lib.hid (fun w hA => bput_no b hf hB (by omega) A n cap hn hcap w hA)
    generalize btc b.first (.slice A n cap) b.prev = L at *
    have B1 := Lib.hid (up_alloc (Below.refl w.heap.size w) (.cells L.toArray 27))
    clear hbig hn hcap h1
    go_enter Try.func5, Try.ntmps5
    go_wp2_with (refine wpList_load_row rfl 27 _ rfl w.heap.size (by rfl) _ _ _ _ HX.out hu rfl (by rw [hi, List.size_toArray, hlen]) ?_)
    generalize hw1 : w.alloc (Obj.cells L.toArray 27) = w1
    rw [hw1] at HX B1
    clear hw1
    refine (HBG.out _).mono ?_; rintro e w2 ⟨rfl, b2⟩
    replace HX := Lib.hid (HX.out.up b2)
    replace B1 := Lib.hid (up_trans B1.out b2)
    clear b2
    go_wp2_with (refine wpList_load_row rfl 27 _ rfl w.heap.size (by rfl) _ _ _ _ HX.out hu rfl (by rw [hi, List.size_toArray, hlen]) ?_)
    refine (P.out _ (HS.out _ B1.out)).mono ?_; rintro e w3 ⟨rfl, b3⟩
    replace B1 := Lib.hid (up_trans B1.out b3)
    clear b3
    go_wp2_with fail
    refine (batched_any _).mono ?_; rintro e w4 ⟨rfl, b4⟩
    go_wp2_with fail
    go_ret
    exact ⟨rfl, up_trans B1.out b4⟩
  | true =>
    have hbl := body_len hf hB
    have hwl := whole_len b
    clear HX
    rcases tells_ways (whole b).length z c (by omega) with h | h | h | h | ⟨a, rfl, h5, h8, h0⟩ | ⟨a, rfl, h5, h8, h0⟩
    · exact BatchTells_rest b hf hB A n cap hn hcap z c _ hc rfl (by omega) (by omega) hz1 hz2 (Or.inl h) w hA hbig
    · exact BatchTells_rest b hf hB A n cap hn hcap z c _ hc rfl (by omega) (by omega) hz1 hz2 (Or.inr (Or.inl h)) w hA hbig
    · exact BatchTells_rest b hf hB A n cap hn hcap z c _ hc rfl (by omega) (by omega) hz1 hz2 (Or.inr (Or.inr (Or.inl h))) w hA hbig
    · exact BatchTells_rest b hf hB A n cap hn hcap z c _ hc rfl (by omega) (by omega) hz1 hz2 (Or.inr (Or.inr (Or.inr h))) w hA hbig
    · exact BatchTells_main b hf hB A n cap hn hcap a c _ hc h0 rfl (by omega) (by omega) h5 (Or.inl h8) w hA hbig
    · exact BatchTells_main b hf hB A n cap hn hcap a c _ hc h0 rfl (by omega) (by omega) h5 (Or.inr h8) w hA hbig

end Go.Proofs.Ytalfmkgcelipdaa
