/- The walk of the law HeaderTells: a head with some of four bytes changed, that stand behind the first one, ahead of the sum, or are the sum, is told. -/
import Derived.Test.YtfnjegjieglbbaaHeadH
import Derived.Test.YtfnjegjieglbbaaRowB
namespace Go.Proofs.Ytfnjegjieglbbaa
open Go.RowKit Wire Crc Head Bat

/-- What is asked of the place and the bytes. -/
theorem htells_ways (z : Int) (c : Nat) : (decide (z < 1) = true) ∨ (decide (z < 1) = false ∧ decide (56 < z) = true ∧ (z != 60) = true) ∨ (decide (z < 1) = false ∧ decide (56 < z) = false ∧ ((c : Int) == 0) = true) ∨ (decide (z < 1) = false ∧ decide (56 < z) = true ∧ (z != 60) = false ∧ ((c : Int) == 0) = true)
    ∨ (∃ a : Nat, z = a ∧ 1 ≤ a ∧ (a ≤ 56 ∨ a = 60) ∧ c ≠ 0) := by
  simp only [decide_eq_true_eq, decide_eq_false_iff_not, bne_iff_ne, bne_eq_false_iff_eq, beq_iff_eq]
  by_cases h1 : z < 1
  · exact Or.inl h1
  · by_cases h2 : 56 < z
    · by_cases h3 : z = 60
      · by_cases h4 : c = 0
        · exact Or.inr (Or.inr (Or.inr (Or.inl ⟨h1, h2, h3, by omega⟩)))
        · exact Or.inr (Or.inr (Or.inr (Or.inr ⟨z.toNat, by omega, by omega, by omega, h4⟩)))
      · exact Or.inr (Or.inl ⟨h1, h2, h3⟩)
    · by_cases h4 : c = 0
      · exact Or.inr (Or.inr (Or.inl ⟨h1, h2, by omega⟩))
      · exact Or.inr (Or.inr (Or.inr (Or.inr ⟨z.toNat, by omega, by omega, by omega, h4⟩)))

set_option maxHeartbeats 1000000 in
set_option maxRecDepth 100000 in
/-- .. where it is not asked. -/
theorem HeaderTells_rest (L : List Value) (z : Int) (c : Nat) (w : World) (hways : (decide (z < 1) = true) ∨ (decide (z < 1) = false ∧ decide (56 < z) = true ∧ (z != 60) = true) ∨ (decide (z < 1) = false ∧ decide (56 < z) = false ∧ ((c : Int) == 0) = true) ∨ (decide (z < 1) = false ∧ decide (56 < z) = true ∧ (z != 60) = false ∧ ((c : Int) == 0) = true)) :
    Calls Try.prog 7 #[.agg L.toArray, .int .i64 z, .int .u32 (c : Nat)] w fun e w' => e = .returned (.bool true) ∧ Below w.heap.size w w' := by
  have B1 := Lib.hid (up_alloc (Below.refl w.heap.size w) (.cells L.toArray 26))
  rcases hways with e1 | ⟨e1, e2, e3⟩ | ⟨e1, e2, e4⟩ | ⟨e1, e2, e3, e4⟩
  all_goals
    go_enter Try.func7, Try.ntmps7
    go_wp2_with fail
    refine (headed_any _).mono ?_; rintro e w4 ⟨rfl, b4⟩
    go_wp2_with fail
    go_ret
    exact ⟨rfl, up_trans B1.out b4⟩

set_option maxHeartbeats 4000000 in
set_option maxRecDepth 100000 in
theorem HeaderTells_main (h : Hd) (hf : h.Fits) (a c : Nat) (hc : c < 4294967296) (hc0 : c ≠ 0) (h1 : 1 ≤ a) (ha : a ≤ 56 ∨ a = 60) (z : Int) (hza : z = (a : Int)) (w : World) :
    Calls Try.prog 7 #[.agg (hdc h).toArray, .int .i64 z, .int .u32 (c : Nat)] w fun e w' => e = .returned (.bool true) ∧ Below w.heap.size w w' := by
  have hlen := hdc_length hf
  have hz : (hdc noH).length = 34 := hdc_length noH_fits
  have hi := info_head
  have hu := Try.underlying26
  have HX := Lib.hid (Has.make w 26 (hdc h))
  have p1 := fun w => phead_any h hf w
  obtain ⟨p, c0, c1, c2, c3, q, hw, hp⟩ := list_four (l := putH h) (n := a) (by rw [putH_len hf]; omega)
  have hql : p.length + 4 + q.length = 64 := by
    have := congrArg List.length hw
    rw [putH_len hf] at this
    simp at this
    omega
  have hbent := gotH_bent (d0 := c0 ^^^ byb c 0) (d1 := c1 ^^^ byb c 1) (d2 := c2 ^^^ byb c 2) (d3 := c3 ^^^ byb c 3) hf hw (by omega) (by
    rcases ha with h | h
    · exact Or.inl (by omega)
    · exact Or.inr (List.length_eq_zero_iff.1 (by omega))) (byb_some hc hc0 c0 c1 c2 c3)
  obtain ⟨W, hW⟩ : ∃ W : ByteArray, W = ⟨(putH h).toArray⟩ := ⟨_, rfl⟩
  rw [← hW] at p1
  have P := Lib.hid p1
  have zW : W.size = 64 := by rw [hW, text_list, putH_len hf]
  have hWl : W.data.toList = p ++ ([c0, c1, c2, c3] ++ q) := by rw [hW]; exact hw
  have e1 : decide (z < 1) = false := by simp; omega
  have e4 : ((c : Int) == 0) = false := by rw [beq_eq_false_iff_ne]; omega
  have hways : (decide (56 < z) = false) ∨ (decide (56 < z) = true ∧ (z != 60) = false) := by
    simp only [decide_eq_true_eq, decide_eq_false_iff_not, bne_eq_false_iff_eq]
    omega
  obtain ⟨NH, hNH⟩ : ∃ M, M = hdc noH := ⟨_, rfl⟩
  have lNH : NH.length = 34 := by rw [hNH, hz]
  have oNH : ∀ v ∈ NH, v.oneCell' = true := by rw [hNH]; exact hdc_one noH
  have hll : ∀ j, (p ++ (mid c0 c1 c2 c3 (c0 ^^^ byb c 0) (c1 ^^^ byb c 1) (c2 ^^^ byb c 2) (c3 ^^^ byb c 3) j ++ q)).length = 64 := fun j => by simp [mid_length]; omega
  have hgl := fun w => ghead_any ⟨(p ++ (mid c0 c1 c2 c3 (c0 ^^^ byb c 0) (c1 ^^^ byb c 1) (c2 ^^^ byb c 2) (c3 ^^^ byb c 3) 4 ++ q)).toArray⟩ (by rw [text_list, hll]; unfold maxLen; omega) w
  rw [show gotH (⟨(p ++ (mid c0 c1 c2 c3 (c0 ^^^ byb c 0) (c1 ^^^ byb c 1) (c2 ^^^ byb c 2) (c3 ^^^ byb c 3) 4 ++ q)).toArray⟩ : ByteArray).data.toList = (noH, 10) from hbent, ← hNH] at hgl
  have HG := Lib.hid hgl
  have HLL := Lib.hid hll
  have HP := Lib.hid hp
  have HZA := Lib.hid hza
  have ham : a + 4 ≤ 64 := by omega
  clear p1 hgl hbent hW hw hql ha hNH hf
  generalize hdc h = L at *
  have B1 := Lib.hid (up_alloc (Below.refl w.heap.size w) (.cells L.toArray 26))
  rcases hways with e2 | ⟨e2, e3⟩
  all_goals
    clear hza
    go_enter Try.func7, Try.ntmps7
    go_wp2_with (refine wpList_load_row rfl 26 _ rfl w.heap.size (by rfl) _ _ _ _ HX.out hu rfl (by rw [hi, List.size_toArray, hlen]) ?_)
    generalize hw1 : w.alloc (Obj.cells L.toArray 26) = w1
    rw [hw1] at B1
    clear hw1 HX
    refine (P.out _).mono ?_; rintro e w3 ⟨rfl, b3⟩
    replace B1 := Lib.hid (up_trans B1.out b3)
    clear b3
    go_wp2_with fail
    rw [run_bytes_of_string w3 9 43 5 W Try.underlying9 Try.underlying43 Try.underlying5]
    have hR := RowB.made w3 W (grownCap w3 W.size 0 5) 5
    have hlt := B1.out.size
    have hb4 : Below w.heap.size w (w3.drew.alloc (.cells (bytesRow W (grownCap w3 W.size 0 5)) 5 ((bytesRow W (grownCap w3 W.size 0 5)).size, (bytesRow W (grownCap w3 W.size 0 5)).size + 1))) := up_alloc B1.out.drew _
    rw [hWl] at hR
    simp only [Result.andThen]
    rw [Oper.upon_value]
    generalize grownCap w3 W.size 0 5 = cap at *
    generalize w3.drew.alloc _ = w4 at *
    have HR := Lib.hid hR
    replace B1 := Lib.hid hb4
    clear hR hb4
    go_wp2_with fail
    go_loopw [8] (fun i wr => ∃ j : Nat, j ≤ 4 ∧ i = .int .i64 (j : Nat) ∧ RowB wr w3.heap.size (p ++ (mid c0 c1 c2 c3 (c0 ^^^ byb c 0) (c1 ^^^ byb c 1) (c2 ^^^ byb c 2) (c3 ^^^ byb c 3) j ++ q)) ∧ Below w.heap.size w wr) (fun i _ => 4 - (intOf i).toNat)
    case atStart => exact ⟨0, by omega, rfl, HR.out, B1.out⟩
    case round =>
      clear HR B1
      obtain ⟨j, hj, rfl, hR, hb⟩ := hrel
      have HR := Lib.hid hR
      have HB := Lib.hid hb
      clear hR hb
      by_cases hlt4 : j < 4
      · have x2 := HR.out.cell (p.length + j) _ (mid_at _ _ _ _ _ _ _ _ hlt4 p q)
        have x1 := HR.out.free (p.length + j) (by rw [HLL.out, HP.out]; omega)
        rw [HP.out] at x1 x2
        have k1 : z + (j : Int) < 64 := by rw [HZA.out]; omega
        have k0 : (0 : Int) ≤ z + (j : Int) := by rw [HZA.out]; omega
        have j0 : (0 : Int) ≤ (j : Int) := by omega
        have j3 : (j : Int) < 4 := by omega
        have sb := shr_byte c j
        have v1 : IntKind.i64.wrap (z + (j : Int)) = z + (j : Int) := IntWalk.i64_in _ (by omega)
        have v2 : IntKind.i64.wrap (8 * (j : Int)) = 8 * (j : Int) := IntWalk.i64_in _ (by omega)
        have v3 : (z + (j : Int)).toNat = a + j := by rw [HZA.out]; omega
        have v4 : (8 * (j : Int)).toNat = 8 * j := by omega
        have v5 : (0 : Int) ≤ 8 * (j : Int) := by omega
        have sx := xor_u8 (at4b c0 c1 c2 c3 j) (byt c j)
        rw [← bent_at c c0 c1 c2 c3 hlt4] at sx
        have HR2 := HR.out.drew.set (i := p.length + j) (by rw [HLL.out, HP.out]; omega) (at4b (c0 ^^^ byb c 0) (c1 ^^^ byb c 1) (c2 ^^^ byb c 2) (c3 ^^^ byb c 3) j)
        rw [mid_set _ _ _ _ _ _ _ _ hlt4, HP.out] at HR2
        replace HR2 := Lib.hid HR2
        go_wp2_with fail
        go_still_tail 16, (by kernel_rfl)
        change wpList _ _ _ _ _ wr.drew
        go_wp2_with fail
        go_roundw
        case rel => exact ⟨j + 1, by omega, by go_num, HR2.out, HB.out.drew.setCell (p := ⟨w3.heap.size, a + j, none⟩) hlt _⟩
        case measure => simp [intOf]; omega
      · obtain rfl : j = 4 := by omega
        have ht := HR.out.text (cap := cap)
        rw [HLL.out] at ht
        generalize (⟨(p ++ (mid c0 c1 c2 c3 (c0 ^^^ byb c 0) (c1 ^^^ byb c 1) (c2 ^^^ byb c 2) (c3 ^^^ byb c 3) 4 ++ q)).toArray⟩ : ByteArray) = V at *
        go_wp2_with fail
        refine (HG.out _).mono ?_; rintro e w5 ⟨rfl, b6⟩
        replace HB := Lib.hid (up_trans HB.out b6)
        clear b6
        go_wp2_with (refine wpList_store_whole rfl 26 _ _ rfl w5.heap.size 26 (hdc noH) NH (by rfl) (by rfl) (Has.make w5 _ (hdc noH)) (by rw [lNH, hz]) (by rw [hi, lNH]) oNH ?_; intro w7 hF7 hO7)
        replace HB := Lib.hid (hO7.below (by have := HB.out.size; omega) (HB.out.alloc HB.out.size _))
        clear hF7 hO7
        refine (headed_any _).mono ?_; rintro e w8 ⟨rfl, b8⟩
        go_wp2_with fail
        go_ret
        exact ⟨rfl, up_trans HB.out b8⟩

theorem HeaderTells_core (h : Hd) (hf : h.Fits) (z : Int) (c : Nat) (hc : c < 4294967296) (w : World) :
    Calls Try.prog 7 #[.agg (hdc h).toArray, .int .i64 z, .int .u32 (c : Nat)] w fun e w' => e = .returned (.bool true) ∧ Below w.heap.size w w' := by
  rcases htells_ways z c with g | g | g | g | ⟨a, rfl, h1, h2, h3⟩
  · exact HeaderTells_rest _ z c w (Or.inl g)
  · exact HeaderTells_rest _ z c w (Or.inr (Or.inl g))
  · exact HeaderTells_rest _ z c w (Or.inr (Or.inr (Or.inl g)))
  · exact HeaderTells_rest _ z c w (Or.inr (Or.inr (Or.inr g)))
  · exact HeaderTells_main h hf a c hc h3 h1 h2 _ rfl w

end Go.Proofs.Ytfnjegjieglbbaa
