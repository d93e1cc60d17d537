/- The walk of the law BatchOnly: what is got is right, and its bytes are just what would be put. -/
import Derived.Test.YtalfmkgcelipdaaDoorBatS
import Derived.Test.YtalfmkgcelipdaaDoorBatN
namespace Go.Proofs.YtalfmkgcelipdaaDoor
open Go.RowKit Wire Evt Bat

set_option maxHeartbeats 2000000 in
set_option maxRecDepth 100000 in
theorem BatchOnly_no (s : ByteArray) (hs : s.size ≤ 20000) (k : Nat) (hk : k ≠ 0) (hG : gotB s.data.toList = noB k) (w : World) :
    Calls Tryd.prog 4 #[.string s] w fun e w' => e = .returned (.bool true) ∧ Below w.heap.size w w' := by
  have d : ¬ (20000 : Int) < (s.size : Int) := by omega
  have hi := info_batch
  have hz : zbt.length = 34 := btc_length _ _ (by simp)
  have ht : ((k : Int) != 0) = true := by simp; omega
  have g1 := fun w => bget_any s (by omega) w
  unfold BgetPost at g1
  simp only [hG, noB, zeroBt] at g1
  have hl2 : ∀ A n cap, (btc 0 (.slice A n cap) (List.replicate 32 0)).length = 34 := fun A n cap => btc_length _ _ (by simp)
  have x1 : ∀ A n cap, (btc 0 (.slice A n cap) (List.replicate 32 0))[1]? = some (.slice A n cap) := fun _ _ _ => rfl
  have G1 := Lib.hid g1
  clear g1 hG
  go_enter Tryd.func4, Tryd.ntmps4
  go_wp2_with fail
  refine (G1.out _).mono ?_; rintro e w1 ⟨v, rfl, hO, b1⟩
  obtain ⟨A, n, cap, rfl, hn, hcap, hsl⟩ := hO.opened
  have B1 := Lib.hid b1
  obtain rfl : n = 0 := hn
  clear hO b1 hsl hcap
  go_wp2_with (refine wpList_store_whole rfl 27 _ _ rfl w1.heap.size 27 zbt (btc 0 (.slice A 0 cap) (List.replicate 32 0)) (by rfl) (by rfl) (Has.make w1 _ zbt) (by rw [hl2, hz]) (by rw [hi, hl2]) (btc_one _ _ _ _ _) ?_; intro w2 hF2 hO2)
  have HX := Lib.hid hF2
  replace B1 := Lib.hid (hO2.below B1.out.size (B1.out.alloc B1.out.size _))
  clear hF2 hO2
  refine (batched_any _).mono ?_; rintro e w3 ⟨rfl, b3⟩
  replace HX := Lib.hid (HX.out.up b3)
  replace B1 := Lib.hid (up_trans B1.out b3)
  have q1 := HX.out.at (x1 A 0 cap)
  clear b3
  go_wp2_with fail
  go_ret
  exact ⟨rfl, B1.out⟩

/-- What the law's last test reads: the batch and the sum. -/
structure On (a b : Nat) (L S : List Value) (W : World) : Prop where
  X : Has W a 27 L
  F : Has W b 25 S
theorem On.up {W W' : World} {a b : Nat} {L S : List Value} (h : On a b L S W) (hb : Below W.heap.size W W') : On a b L S W' := ⟨h.X.up hb, h.F.up hb⟩

set_option maxHeartbeats 4000000 in
set_option maxRecDepth 100000 in
theorem BatchOnly_yes (s : ByteArray) (hs : s.size ≤ 20000) (b : Bt) (m : Nat) (hG : gotB s.data.toList = ⟨b, m, 0⟩) (w : World) (hTab : Tab w) :
    Calls Tryd.prog 4 #[.string s] w fun e w' => e = .returned (.bool true) ∧ Below w.heap.size w w' := by
  have d : ¬ (20000 : Int) < (s.size : Int) := by omega
  obtain ⟨hB, hf, hw, hm⟩ := gotB_back hG
  obtain ⟨y1, y2, _, y4⟩ := isB_yes.1 hB
  rw [list_size] at hm
  have hi := info_batch
  have hu := Tryd.underlying27
  have hdi : (Tryd.prog.info? 25).map (·.size) = some 32 := by kernel_rfl
  have hdu := Tryd.underlying25
  have hz : zbt.length = 34 := btc_length _ _ (by simp)
  have hzl : (nums .u8 (zeros 32)).length = 32 := by rw [nums_length, zeros_len]
  have g1 := fun w => bget_any s (by omega) w
  unfold BgetPost at g1
  simp only [hG] at g1
  have G1 := Lib.hid g1
  have HTab := Lib.hid hTab
  have hT : (⟨(whole b).toArray⟩ : ByteArray) = s.extract 0 m := by rw [head_of, hw]
  have zT : (s.extract 0 m).size ≤ 100000 := by rw [ByteArray.size_extract]; omega
  have c1 := fun A n cap (hn : n = b.evs.length) hcap w hA => bput_yes b hf hB A n cap hn hcap w hA
  have c2 := fun A n cap (hn : n = b.evs.length) hcap w hA hT => bsum_yes b hf hB A n cap hn hcap w hA hT
  have c3 := fun A n cap (hn : n = b.evs.length) hcap w hA => bis_any b.first b.evs b.prev hf.seqs A n cap hn hcap (by omega) w hA
  have c4 := fun A n cap (hn : n = b.evs.length) hcap w hA => run_len A b.evs n cap hn (by omega) hcap hf.seqs w hA
  have c5 := fun w (h : Tab w) => dof_any (s.extract 0 m) w h zT
  rw [hT] at c1
  rw [sumB_yes hB, hT] at c2
  rw [hB] at c3
  rw [y4] at c4
  have C1 := Lib.hid c1
  have C2 := Lib.hid c2
  have C3 := Lib.hid c3
  have C4 := Lib.hid c4
  have C5 := Lib.hid c5
  have hol : (St.start.add (s.extract 0 m)).sum.length = 32 := by simp [St.sum, outs_length]
  have heq := eql_sums (St.start.add (s.extract 0 m)).sum hol
  have hsl : (nums .u8 (St.start.add (s.extract 0 m)).sum).length = 32 := by rw [nums_length, hol]
  have hso := nums_one .u8 (St.start.add (s.extract 0 m)).sum
  generalize nums .u8 (St.start.add (s.extract 0 m)).sum = S at *
  have hl2 : ∀ A n cap, (btc b.first (.slice A n cap) b.prev).length = 34 := fun A n cap => btc_length _ _ hf.prev
  have x1 : Hid (∀ A n cap, (btc b.first (.slice A n cap) b.prev)[1]? = some (.slice A n cap)) := Lib.hid (fun _ _ _ => rfl)
  have k0 : (0 : Int) ≤ (m : Int) := by omega
  have k1 : (m : Int) ≤ (s.size : Int) := by omega
  have k2 : ¬ (s.size : Int) < (m : Int) := by omega
  have k3 : ¬ (m : Int) < 0 := by omega
  clear g1 hG c1 c2 c3 c4 c5 hT zT hol hw hm hB hf y1 y2 y4 hTab
  go_enter Tryd.func4, Tryd.ntmps4
  go_wp2_with fail
  refine (G1.out _).mono ?_; rintro e w1 ⟨v, rfl, hO, b1⟩
  obtain ⟨A, n, cap, rfl, hn, hcap, hsl0⟩ := hO.opened
  have RO := Lib.hid hO
  have B1 := Lib.hid b1
  have HN := Lib.hid hn
  have HC := Lib.hid hcap
  clear hO b1 hsl0 hn hcap G1
  replace C1 := Lib.hid (C1.out A n cap HN.out HC.out)
  replace C2 := Lib.hid (C2.out A n cap HN.out HC.out)
  replace C3 := Lib.hid (C3.out A n cap HN.out HC.out)
  replace C4 := Lib.hid (C4.out A n cap HN.out HC.out)
  have hlL := hl2 A n cap
  have hoL := btc_one b.first A n cap b.prev
  replace x1 := Lib.hid (x1.out A n cap)
  generalize btc b.first (.slice A n cap) b.prev = L at *
  clear hl2
  go_wp2_with (first
    | (refine wpList_store_whole rfl 27 _ _ rfl w1.heap.size 27 zbt L (by rfl) (by rfl) (Has.make w1 _ zbt) (by rw [hlL, hz]) (by rw [hi, hlL]) hoL ?_; intro w2 hF2 hO2; have HX := Lib.hid hF2; replace RO := Lib.hid ((RO.out.alloc (.cells zbt.toArray 27)).over (Has.make w1 _ zbt) (by decide) hO2); replace B1 := Lib.hid (hO2.below B1.out.size (B1.out.alloc B1.out.size _)); clear hF2 hO2)
    | (refine wpList_load_row rfl 27 _ rfl w1.heap.size (by rfl) _ _ _ _ HX.out hu rfl (by rw [hi, List.size_toArray, hlL]) ?_))
  refine (C1.out _ RO.out.slice.2.2).mono ?_; rintro e w3 ⟨rfl, b3⟩
  replace HX := Lib.hid (HX.out.up b3)
  replace RO := Lib.hid (RO.out.up b3)
  replace B1 := Lib.hid (up_trans B1.out b3)
  clear b3 C1
  go_wp2_with (refine wpList_load_row rfl 27 _ rfl w1.heap.size (by rfl) _ _ _ _ HX.out hu rfl (by rw [hi, List.size_toArray, hlL]) ?_)
  refine (C2.out _ RO.out.slice.2.2 (tab_up HTab.out B1.out)).mono ?_; rintro e w4 ⟨rfl, b4⟩
  replace HX := Lib.hid (HX.out.up b4)
  replace RO := Lib.hid (RO.out.up b4)
  replace B1 := Lib.hid (up_trans B1.out b4)
  have hlt4 := HX.out.lt
  clear b4 C2
  go_wp2_with (refine wpList_store_whole rfl 25 _ _ rfl w4.heap.size 25 (nums .u8 (zeros 32)) S (by rfl) (by rfl) (Has.make w4 _ (nums .u8 (zeros 32))) (by rw [hsl, hzl]) (by rw [hdi, hsl]) hso ?_; intro w5 hF5 hO5)
  replace HX := Lib.hid (hO5.keep (by omega) (HX.out.alloc _))
  replace RO := Lib.hid ((RO.out.alloc (.cells (nums .u8 (zeros 32)).toArray 25)).over (Has.make w4 _ (nums .u8 (zeros 32))) (by decide) hO5)
  replace B1 := Lib.hid (hO5.below B1.out.size (B1.out.alloc B1.out.size _))
  have ON := Lib.hid (On.mk HX.out hF5)
  clear HX hF5 hO5 hlt4
  refine wp_region_held_drew (S := On w1.heap.size w4.heap.size L S) (by kernel_rfl) (ON.out.up (Below.refl _ _).drew) (fun hHeld => ?_)
  refine wpAnyH_ready (rs := [0]) (by kernel_rfl) (by simp) (AllReadyH.cons rfl (fun K hK => ?_) AllReadyH.nil)
  go_simp
  refine (batched_any _).mono ?_; rintro e wn ⟨rfl, hbn'⟩
  have hbn : Below w5.heap.size w5 wn := up_trans (Below.refl _ _).drew hbn'
  clear hbn'
  go_wp2_with fail
  refine hK.out _ _ (ON.out.up hbn) (fun hHeld => ?_)
  clear hK K
  try simp only [Act.put, List.getElem_toArray, List.getElem_cons_zero, List.getElem_cons_succ, List.setIfInBounds_toArray, List.set_cons_zero, List.set_cons_succ]
  refine wpAnyH_take (i := 1) (v := .bool true) rfl (by kernel_rfl) (by kernel_rfl) (by kernel_rfl) (fun _ _ _ h => h) (Or.inl ⟨by rfl, by intro w hSw; (try dsimp only at hSw); go_simp⟩) (by assumption) ?_
  try simp only [Act.put, List.getElem_toArray, List.getElem_cons_zero, List.getElem_cons_succ, List.setIfInBounds_toArray, List.set_cons_zero, List.set_cons_succ]
  refine wpAnyH_take (i := 2) (v := ?_) rfl (by kernel_rfl) (by kernel_rfl) (by kernel_rfl) (fun _ _ _ h => h) (Or.inl ⟨by rfl, ?_⟩) (by assumption) ?_
  rotate_left
  · intro w hSw; (try dsimp only at hSw); go_simp; try with_reducible rfl
  try simp only [Act.put, List.getElem_toArray, List.getElem_cons_zero, List.getElem_cons_succ, List.setIfInBounds_toArray, List.set_cons_zero, List.set_cons_succ]
  refine wpAnyH_take (i := 3) (v := .bool true) rfl (by kernel_rfl) (by kernel_rfl) (by kernel_rfl) (fun _ _ _ h => h) (Or.inl ⟨by rfl, by intro w hSw; (try dsimp only at hSw); go_simp⟩) (by assumption) ?_
  try simp only [Act.put, List.getElem_toArray, List.getElem_cons_zero, List.getElem_cons_succ, List.setIfInBounds_toArray, List.set_cons_zero, List.set_cons_succ]
  refine wpAnyH_take (i := 4) (v := .bool true) rfl (by kernel_rfl) (by kernel_rfl) (by kernel_rfl) (fun _ _ _ h => h) (Or.inl ⟨by rfl, by intro w hSw; (try dsimp only at hSw); go_simp⟩) (by assumption) ?_
  try simp only [Act.put, List.getElem_toArray, List.getElem_cons_zero, List.getElem_cons_succ, List.setIfInBounds_toArray, List.set_cons_zero, List.set_cons_succ]
  refine wpAnyH_take (i := 5) (v := .bool true) rfl (by kernel_rfl) (by kernel_rfl) (by kernel_rfl) (fun _ _ _ h => h) (Or.inl ⟨by rfl, by intro w hSw; (try dsimp only at hSw); go_simp⟩) (by assumption) ?_
  try simp only [Act.put, List.getElem_toArray, List.getElem_cons_zero, List.getElem_cons_succ, List.setIfInBounds_toArray, List.set_cons_zero, List.set_cons_succ]
  refine wpAnyH_take (i := 6) (v := .string (s.extract 0 m)) rfl (by kernel_rfl) (by kernel_rfl) (by kernel_rfl) (fun _ _ _ h => h) (Or.inl ⟨by rfl, by intro w hSw; (try dsimp only at hSw); go_simp⟩) (by assumption) ?_
  try simp only [Act.put, List.getElem_toArray, List.getElem_cons_zero, List.getElem_cons_succ, List.setIfInBounds_toArray, List.set_cons_zero, List.set_cons_succ]
  refine wpAnyH_take (i := 7) (v := .string s) rfl (by kernel_rfl) (by kernel_rfl) (by kernel_rfl) (fun _ _ _ h => h) (Or.inl ⟨by rfl, by intro w hSw; (try dsimp only at hSw); go_simp⟩) (by assumption) ?_
  try simp only [Act.put, List.getElem_toArray, List.getElem_cons_zero, List.getElem_cons_succ, List.setIfInBounds_toArray, List.set_cons_zero, List.set_cons_succ]
  refine wpAnyH_take (i := 8) (v := ?_) rfl (by kernel_rfl) (by kernel_rfl) (by kernel_rfl) (fun _ _ _ h => h) (Or.inl ⟨by rfl, ?_⟩) (by assumption) ?_
  rotate_left
  · intro w hSw; (try dsimp only at hSw); go_simp; try with_reducible rfl
  try simp only [Act.put, List.getElem_toArray, List.getElem_cons_zero, List.getElem_cons_succ, List.setIfInBounds_toArray, List.set_cons_zero, List.set_cons_succ]
  refine wpAnyH_take (i := 9) (v := .string (s.extract 0 m)) rfl (by kernel_rfl) (by kernel_rfl) (by kernel_rfl) (fun _ _ _ h => h) (Or.inl ⟨by rfl, by intro w hSw; (try dsimp only at hSw); go_simp⟩) (by assumption) ?_
  try simp only [Act.put, List.getElem_toArray, List.getElem_cons_zero, List.getElem_cons_succ, List.setIfInBounds_toArray, List.set_cons_zero, List.set_cons_succ]
  refine wpAnyH_take (i := 10) (v := .bool true) rfl (by kernel_rfl) (by kernel_rfl) (by kernel_rfl) (fun _ _ _ h => h) (Or.inl ⟨by rfl, by intro w hSw; (try dsimp only at hSw); go_simp⟩) (by assumption) ?_
  try simp only [Act.put, List.getElem_toArray, List.getElem_cons_zero, List.getElem_cons_succ, List.setIfInBounds_toArray, List.set_cons_zero, List.set_cons_succ]
  refine wpAnyH_take (i := 11) (v := .bool true) rfl (by kernel_rfl) (by kernel_rfl) (by kernel_rfl) (fun _ _ _ h => h) (Or.inl ⟨by rfl, by intro w hSw; (try dsimp only at hSw); go_simp⟩) (by assumption) ?_
  try simp only [Act.put, List.getElem_toArray, List.getElem_cons_zero, List.getElem_cons_succ, List.setIfInBounds_toArray, List.set_cons_zero, List.set_cons_succ]
  refine wpAnyH_take (i := 12) (v := .bool true) rfl (by kernel_rfl) (by kernel_rfl) (by kernel_rfl) (fun _ _ _ h => h) (Or.inl ⟨by rfl, by intro w hSw; (try dsimp only at hSw); go_simp⟩) (by assumption) ?_
  try simp only [Act.put, List.getElem_toArray, List.getElem_cons_zero, List.getElem_cons_succ, List.setIfInBounds_toArray, List.set_cons_zero, List.set_cons_succ]
  refine wpAnyH_take (i := 13) (v := ?_) rfl (by kernel_rfl) (by kernel_rfl) (by kernel_rfl) (fun _ _ _ h => h) (Or.inl ⟨by rfl, ?_⟩) (by assumption) ?_
  rotate_left
  · intro w hSw; (try dsimp only at hSw); go_simp; try with_reducible rfl
  try simp only [Act.put, List.getElem_toArray, List.getElem_cons_zero, List.getElem_cons_succ, List.setIfInBounds_toArray, List.set_cons_zero, List.set_cons_succ]
  refine wpAnyH_take (i := 14) (v := .bool true) rfl (by kernel_rfl) (by kernel_rfl) (by kernel_rfl) (fun _ _ _ h => h) (Or.inl ⟨by rfl, by intro w hSw; (try dsimp only at hSw); go_simp⟩) (by assumption) ?_
  try simp only [Act.put, List.getElem_toArray, List.getElem_cons_zero, List.getElem_cons_succ, List.setIfInBounds_toArray, List.set_cons_zero, List.set_cons_succ]
  refine wpAnyH_take (i := 15) (v := .bool true) rfl (by kernel_rfl) (by kernel_rfl) (by kernel_rfl) (fun _ _ _ h => h) (Or.inl ⟨by rfl, by intro w hSw; (try dsimp only at hSw); go_simp⟩) (by assumption) ?_
  try simp only [Act.put, List.getElem_toArray, List.getElem_cons_zero, List.getElem_cons_succ, List.setIfInBounds_toArray, List.set_cons_zero, List.set_cons_succ]
  refine wpAnyH_take (i := 16) (v := .bool true) rfl (by kernel_rfl) (by kernel_rfl) (by kernel_rfl) (fun _ _ _ h => h) (Or.inl ⟨by rfl, by intro w hSw; (try dsimp only at hSw); go_simp⟩) (by assumption) ?_
  try simp only [Act.put, List.getElem_toArray, List.getElem_cons_zero, List.getElem_cons_succ, List.setIfInBounds_toArray, List.set_cons_zero, List.set_cons_succ]
  refine wpAnyH_take (i := 17) rfl (by kernel_rfl) (by kernel_rfl) (by kernel_rfl) (fun _ _ _ h => h) (yieldsIf_load_mid (by rfl) _ _ rfl w4.heap.size 0 rfl S _ (fun W h => h.F.whole) hdu rfl (by rw [hdi, hsl])) (by assumption) ?_
  try simp only [Act.put, List.getElem_toArray, List.getElem_cons_zero, List.getElem_cons_succ, List.setIfInBounds_toArray, List.set_cons_zero, List.set_cons_succ]
  refine wpAnyH_take (i := 18) (v := .string s) rfl (by kernel_rfl) (by kernel_rfl) (by kernel_rfl) (fun _ _ _ h => h) (Or.inl ⟨by rfl, by intro w hSw; (try dsimp only at hSw); go_simp⟩) (by assumption) ?_
  try simp only [Act.put, List.getElem_toArray, List.getElem_cons_zero, List.getElem_cons_succ, List.setIfInBounds_toArray, List.set_cons_zero, List.set_cons_succ]
  refine wpAnyH_take (i := 19) (v := ?_) rfl (by kernel_rfl) (by kernel_rfl) (by kernel_rfl) (fun _ _ _ h => h) (Or.inl ⟨by rfl, ?_⟩) (by assumption) ?_
  rotate_left
  · intro w hSw; (try dsimp only at hSw); go_simp; try with_reducible rfl
  try simp only [Act.put, List.getElem_toArray, List.getElem_cons_zero, List.getElem_cons_succ, List.setIfInBounds_toArray, List.set_cons_zero, List.set_cons_succ]
  refine wpAnyH_take (i := 20) (v := .string (s.extract 0 m)) rfl (by kernel_rfl) (by kernel_rfl) (by kernel_rfl) (fun _ _ _ h => h) (Or.inl ⟨by rfl, by intro w hSw; (try dsimp only at hSw); go_simp⟩) (by assumption) ?_
  try simp only [Act.put, List.getElem_toArray, List.getElem_cons_zero, List.getElem_cons_succ, List.setIfInBounds_toArray, List.set_cons_zero, List.set_cons_succ]
  refine wpAnyH_ready (rs := [21]) (by kernel_rfl) (by simp) (AllReadyH.cons rfl (fun K hK => ?_) AllReadyH.nil)
  go_simp
  refine (C5.out _ (tab_up HTab.out (up_trans B1.out hbn))).mono ?_; rintro e wn ⟨rfl, hbn'⟩
  replace hbn : Below w5.heap.size w5 wn := up_trans hbn hbn'
  clear hbn'
  go_wp2_with fail
  refine hK.out _ _ (ON.out.up hbn) (fun hHeld => ?_)
  clear hK K
  try simp only [Act.put, List.getElem_toArray, List.getElem_cons_zero, List.getElem_cons_succ, List.setIfInBounds_toArray, List.set_cons_zero, List.set_cons_succ]
  refine wpAnyH_take (i := 22) (v := .bool true) rfl (by kernel_rfl) (by kernel_rfl) (by kernel_rfl) (fun _ _ _ h => h) (Or.inl ⟨by rfl, by intro w hSw; (try dsimp only at hSw); go_simp⟩) (by assumption) ?_
  try simp only [Act.put, List.getElem_toArray, List.getElem_cons_zero, List.getElem_cons_succ, List.setIfInBounds_toArray, List.set_cons_zero, List.set_cons_succ]
  refine wpAnyH_take (i := 23) (v := .bool true) rfl (by kernel_rfl) (by kernel_rfl) (by kernel_rfl) (fun _ _ _ h => h) (Or.inl ⟨by rfl, by intro w hSw; (try dsimp only at hSw); go_simp⟩) (by assumption) ?_
  try simp only [Act.put, List.getElem_toArray, List.getElem_cons_zero, List.getElem_cons_succ, List.setIfInBounds_toArray, List.set_cons_zero, List.set_cons_succ]
  refine wpAnyH_take (i := 24) (v := .bool true) rfl (by kernel_rfl) (by kernel_rfl) (by kernel_rfl) (fun _ _ _ h => h) (Or.inl ⟨by rfl, by intro w hSw; (try dsimp only at hSw); go_simp⟩) (by assumption) ?_
  try simp only [Act.put, List.getElem_toArray, List.getElem_cons_zero, List.getElem_cons_succ, List.setIfInBounds_toArray, List.set_cons_zero, List.set_cons_succ]
  refine wpAnyH_take (i := 25) rfl (by kernel_rfl) (by kernel_rfl) (by kernel_rfl) (fun _ _ _ h => h) (yieldsIf_load_mid (by rfl) _ _ rfl w1.heap.size 0 rfl L _ (fun W h => h.X.whole) hu rfl (by rw [hi, hlL])) (by assumption) ?_
  try simp only [Act.put, List.getElem_toArray, List.getElem_cons_zero, List.getElem_cons_succ, List.setIfInBounds_toArray, List.set_cons_zero, List.set_cons_succ]
  refine wpAnyH_ready (rs := [26]) (by kernel_rfl) (by simp) (AllReadyH.cons rfl (fun K hK => ?_) AllReadyH.nil)
  go_simp
  refine (C3.out _ (RO.out.up hbn).slice.2.2).mono ?_; rintro e wn ⟨rfl, hbn'⟩
  replace hbn : Below w5.heap.size w5 wn := up_trans hbn hbn'
  clear hbn'
  go_wp2_with fail
  refine hK.out _ _ (ON.out.up hbn) (fun hHeld => ?_)
  clear hK K
  try simp only [Act.put, List.getElem_toArray, List.getElem_cons_zero, List.getElem_cons_succ, List.setIfInBounds_toArray, List.set_cons_zero, List.set_cons_succ]
  refine wpAnyH_take (i := 27) (v := .bool true) rfl (by kernel_rfl) (by kernel_rfl) (by kernel_rfl) (fun _ _ _ h => h) (Or.inl ⟨by rfl, by intro w hSw; (try dsimp only at hSw); go_simp⟩) (by assumption) ?_
  try simp only [Act.put, List.getElem_toArray, List.getElem_cons_zero, List.getElem_cons_succ, List.setIfInBounds_toArray, List.set_cons_zero, List.set_cons_succ]
  refine wpAnyH_take (i := 28) (v := .bool true) rfl (by kernel_rfl) (by kernel_rfl) (by kernel_rfl) (fun _ _ _ h => h) (Or.inl ⟨by rfl, by intro w hSw; (try dsimp only at hSw); go_simp⟩) (by assumption) ?_
  try simp only [Act.put, List.getElem_toArray, List.getElem_cons_zero, List.getElem_cons_succ, List.setIfInBounds_toArray, List.set_cons_zero, List.set_cons_succ]
  refine wpAnyH_take (i := 29) (v := ?_) rfl (by kernel_rfl) (by kernel_rfl) (by kernel_rfl) (fun _ _ _ h => h) (Or.inl ⟨by rfl, ?_⟩) (by assumption) ?_
  rotate_left
  · intro w hSw; (try dsimp only at hSw); go_simp; try with_reducible rfl
  try simp only [Act.put, List.getElem_toArray, List.getElem_cons_zero, List.getElem_cons_succ, List.setIfInBounds_toArray, List.set_cons_zero, List.set_cons_succ]
  refine wpAnyH_take (i := 30) (v := .slice A n cap) rfl (by kernel_rfl) (by kernel_rfl) (by kernel_rfl) (fun _ _ _ h => h) (Or.inl ⟨by rfl, by intro w hSw; have c := hSw.X.at x1.out; go_simp⟩) (by assumption) ?_
  try simp only [Act.put, List.getElem_toArray, List.getElem_cons_zero, List.getElem_cons_succ, List.setIfInBounds_toArray, List.set_cons_zero, List.set_cons_succ]
  refine wpAnyH_ready (rs := [31]) (by kernel_rfl) (by simp) (AllReadyH.cons rfl (fun K hK => ?_) AllReadyH.nil)
  go_simp
  refine (C4.out _ (RO.out.up hbn).slice.2.2).mono ?_; rintro e wn ⟨rfl, hbn'⟩
  replace hbn : Below w5.heap.size w5 wn := up_trans hbn hbn'
  clear hbn'
  go_wp2_with fail
  refine hK.out _ _ (ON.out.up hbn) (fun hHeld => ?_)
  clear hK K
  try simp only [Act.put, List.getElem_toArray, List.getElem_cons_zero, List.getElem_cons_succ, List.setIfInBounds_toArray, List.set_cons_zero, List.set_cons_succ]
  refine wpAnyH_take (i := 32) (v := .bool true) rfl (by kernel_rfl) (by kernel_rfl) (by kernel_rfl) (fun _ _ _ h => h) (Or.inl ⟨by rfl, by intro w hSw; (try dsimp only at hSw); go_simp⟩) (by assumption) ?_
  try simp only [Act.put, List.getElem_toArray, List.getElem_cons_zero, List.getElem_cons_succ, List.setIfInBounds_toArray, List.set_cons_zero, List.set_cons_succ]
  refine wpAnyH_take (i := 33) (v := ?_) rfl (by kernel_rfl) (by kernel_rfl) (by kernel_rfl) (fun _ _ _ h => h) (Or.inl ⟨by rfl, ?_⟩) (by assumption) ?_
  rotate_left
  · intro w hSw; (try dsimp only at hSw); go_simp; try with_reducible rfl
  try simp only [Act.put, List.getElem_toArray, List.getElem_cons_zero, List.getElem_cons_succ, List.setIfInBounds_toArray, List.set_cons_zero, List.set_cons_succ]
  refine wpAnyH_done (by kernel_rfl) ?_ _
  go_wp2_with fail
  go_ret
  exact ⟨rfl, up_trans B1.out hbn⟩

set_option maxHeartbeats 2000000 in
set_option maxRecDepth 100000 in
theorem BatchOnly_core (s : ByteArray) (hs : s.size ≤ maxLen) (w : World) (hTab : Tab w) :
    Calls Tryd.prog 4 #[.string s] w fun e w' => e = .returned (.bool true) ∧ Below w.heap.size w w' := by
  unfold maxLen at hs
  by_cases h : 20000 < s.size
  · have d : (20000 : Int) < (s.size : Int) := by omega
    go_enter Tryd.func4, Tryd.ntmps4
    go_wp2_with fail
    go_ret
    exact ⟨rfl, Below.refl _ _⟩
  by_cases he : (gotB s.data.toList).err = 0
  · obtain ⟨b, m, e, hg⟩ : ∃ b m e, gotB s.data.toList = ⟨b, m, e⟩ := ⟨_, _, _, rfl⟩
    rw [hg] at he
    simp only at he
    subst he
    exact BatchOnly_yes s (by omega) b m hg w hTab
  · exact BatchOnly_no s (by omega) _ he (gotB_bad he) w

end Go.Proofs.YtalfmkgcelipdaaDoor
