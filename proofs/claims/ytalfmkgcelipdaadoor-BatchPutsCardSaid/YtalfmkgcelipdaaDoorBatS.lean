/- The sum of a batch's bytes: contracts of batch.Sum and the document's own. -/
import Derived.Test.YtalfmkgcelipdaaDoorBatR
import Derived.Test.YtalfmkgcelipdaaDoorSums
import Derived.Laws.ResultCell
namespace Go.Proofs.YtalfmkgcelipdaaDoor
open Go.RowKit Wire Evt Bat

/-- The results of a function that gives a sum and a number. -/
theorem results_dig {fn : Func} {p u : Tmp} (h : fn.results = #[.cell p 25, .tmp u]) (tmps : Array Value) (w : World) (g : Nat) (l : List Nat) (v : Value)
    (hp : tmps.getD p undef = .pointer (some ⟨g, 0, none⟩)) (hg : Has w g 25 (nums .u8 l)) (hl : l.length = 32) (hv : tmps.getD u undef = v) :
    (results fn tmps).run Tryd.prog w = .ok (.tuple #[.agg (nums .u8 l).toArray, v]) w := by
  have hi : (Tryd.prog.info? 25).map (·.size) = some (nums .u8 l).toArray.size := by simp only [List.size_toArray, nums_length, hl]; kernel_rfl
  rw [results_cell_tmp h, hp, hv]
  have := run_loadVar_row (P := Tryd.prog) w g 25 25 (nums .u8 l).toArray (0, 0) _ hg Tryd.underlying25 rfl hi
  simp [asAddr, this]

theorem rbput_no (b : Bt) (hf : b.Fits) (h : isB b.first b.evs = false) (hm : b.evs.length ≤ 140737488355327) (A : Option Addr) (n cap : Nat) (hn : n = b.evs.length) (w : World) (hA : EvSl w A b.evs) :
    Calls Tryd.prog 7 #[.agg (btc b.first (.slice A n cap) b.prev).toArray] w fun e w' => e = .returned (.tuple #[.string ⟨#[]⟩, .int .i64 1]) ∧ Below w.heap.size w w' := by
  have i1 := fun w hA => rbis_any b.first b.evs b.prev hf.seqs A n cap hn hm w hA
  rw [h] at i1
  have I := Lib.hid i1
  have hlen := btc_length b.first (.slice A n cap) hf.prev
  have hi := info_batch
  have hu := Tryd.underlying27
  have HA := Lib.hid hA
  have HX := Lib.hid (Has.make w 27 (btc b.first (.slice A n cap) b.prev))
  generalize btc b.first (.slice A n cap) b.prev = L at *
  have B1 := Lib.hid (up_alloc (Below.refl w.heap.size w) (.cells L.toArray 27))
  clear i1 h hA hn hm
  go_enter Tryd.func7, Tryd.ntmps7
  go_wp2_with (refine wpList_load_row rfl 27 _ rfl w.heap.size (by rfl) _ _ _ _ HX.out hu rfl (by rw [hi, List.size_toArray, hlen]) ?_)
  refine (I.out _ (HA.out.up B1.out)).mono ?_; rintro e w2 ⟨rfl, b2⟩
  go_wp2_with fail
  go_ret2
  exact ⟨rfl, up_trans B1.out b2⟩

/-- What the document's own Put gives. -/
theorem rbput_any (b : Bt) (hf : b.Fits) (hm : b.evs.length ≤ 140737488355327) (A : Option Addr) (n cap : Nat) (hn : n = b.evs.length) (w : World) (hA : EvSl w A b.evs) :
    Calls Tryd.prog 7 #[.agg (btc b.first (.slice A n cap) b.prev).toArray] w fun e w' => e = .returned (.tuple #[.string ⟨(putB b).1.toArray⟩, .int .i64 ((putB b).2 : Nat)]) ∧ Below w.heap.size w w' := by
  cases h : isB b.first b.evs with
  | true =>
    rw [putB_yes h]
    exact rbput_yes b hf h A n cap hn w hA
  | false =>
    rw [putB_no h]
    exact rbput_no b hf h hm A n cap hn w hA

theorem zeros_len : (zeros 32).length = 32 := by simp [zeros]

/-- The sum that is told of a batch. -/
def sumB (b : Bt) : List Nat := if isB b.first b.evs then (St.start.add ⟨(whole b).toArray⟩).sum else zeros 32
theorem sumB_yes {b : Bt} (h : isB b.first b.evs = true) : sumB b = (St.start.add ⟨(whole b).toArray⟩).sum := by rw [sumB, if_pos h]
theorem sumB_no {b : Bt} (h : isB b.first b.evs = false) : sumB b = zeros 32 := by rw [sumB, if_neg (by rw [h]; simp)]
theorem sumB_len (b : Bt) : (sumB b).length = 32 := by
  unfold sumB
  split
  · exact (by simp [St.sum, outs_length])
  · exact zeros_len

set_option maxHeartbeats 1000000 in
set_option maxRecDepth 100000 in
theorem bsum_yes (b : Bt) (hf : b.Fits) (h : isB b.first b.evs = true) (A : Option Addr) (n cap : Nat) (hn : n = b.evs.length) (hcap : b.evs.length ≤ cap) (w : World) (hA : EvSl w A b.evs) (hTab : Tab w) :
    Calls Tryd.prog 8 #[.agg (btc b.first (.slice A n cap) b.prev).toArray] w fun e w' => e = .returned (.tuple #[.agg (nums .u8 (sumB b)).toArray, .int .i64 0]) ∧ Below w.heap.size w w' := by
  rw [sumB_yes h]
  have hlen := btc_length b.first (.slice A n cap) hf.prev
  have hbl := body_len hf h
  have hwl := whole_len b
  have hi := info_batch
  have hu := Tryd.underlying27
  have hdi : (Tryd.prog.info? 25).map (·.size) = some 32 := by kernel_rfl
  have p1 := fun w hA => bput_yes b hf h A n cap hn hcap w hA
  obtain ⟨T, hT⟩ : ∃ T : ByteArray, T = ⟨(whole b).toArray⟩ := ⟨_, rfl⟩
  have zT : T.size ≤ 100000 := by rw [hT, text_list]; omega
  rw [← hT] at p1 ⊢
  have P := Lib.hid p1
  have D := Lib.hid (fun w (h : Tab w) => dof_any T w h zT)
  have hol : (St.start.add T).sum.length = 32 := by simp [St.sum, outs_length]
  generalize (St.start.add T).sum = O at *
  have hnl : (nums .u8 O).length = 32 := by rw [nums_length, hol]
  have HA := Lib.hid hA
  have HTab := Lib.hid hTab
  have HX0 := Lib.hid ((Has.make w 27 (btc b.first (.slice A n cap) b.prev)).alloc (.cells (nums .u8 (zeros 32)).toArray 25))
  have HR0 := Lib.hid (Has.make2 w (.cells (btc b.first (.slice A n cap) b.prev).toArray 27) 25 (nums .u8 (zeros 32)))
  generalize btc b.first (.slice A n cap) b.prev = L at *
  have B0 := Lib.hid (up_alloc (up_alloc (Below.refl w.heap.size w) (.cells L.toArray 27)) (.cells (nums .u8 (zeros 32)).toArray 25))
  clear p1 h hA hTab hn hcap hT zT hbl hwl hf
  go_enter Tryd.func8, Tryd.ntmps8
  go_wp2_with (refine wpList_load_row rfl 27 _ rfl w.heap.size (by rfl) _ _ _ _ HX0.out hu rfl (by rw [hi, List.size_toArray, hlen]) ?_)
  generalize hw1 : World.alloc (World.alloc w _) _ = w1
  have HR : Hid (Has w1 (w.heap.size + 1) 25 (nums .u8 (zeros 32))) := Lib.hid (by rw [← hw1]; exact HR0.out)
  have B1 : Hid (Below w.heap.size w w1) := Lib.hid (by rw [← hw1]; exact B0.out)
  clear hw1 HX0 HR0 B0
  refine (P.out _ (HA.out.up B1.out)).mono ?_; rintro e w2 ⟨rfl, b2⟩
  replace HR := Lib.hid (HR.out.up b2)
  replace B1 := Lib.hid (up_trans B1.out b2)
  clear b2
  go_wp2_with fail
  refine (D.out _ (tab_up HTab.out B1.out)).mono ?_; rintro e w3 ⟨rfl, b3⟩
  replace HR := Lib.hid (HR.out.up b3)
  replace B1 := Lib.hid (up_trans B1.out b3)
  clear b3
  go_wp2_with (refine wpList_store_whole rfl 25 _ _ rfl (w.heap.size + 1) 25 (nums .u8 (zeros 32)) (nums .u8 O) (by rfl) (by rfl) HR.out (by rw [hnl, nums_length, zeros_len]) (by rw [hdi, hnl]) (nums_one _ _) ?_; intro w4 hF hO)
  exact bodyPost_ret_by (results_dig Tryd.results8 _ _ (w.heap.size + 1) O (.int .i64 0) (by rfl) hF hol (by rfl)) rfl ⟨rfl, hO.below (by omega) B1.out⟩

set_option maxHeartbeats 1000000 in
set_option maxRecDepth 100000 in
theorem bsum_no (b : Bt) (hf : b.Fits) (h : isB b.first b.evs = false) (hm : b.evs.length ≤ 140737488355327) (A : Option Addr) (n cap : Nat) (hn : n = b.evs.length) (hcap : b.evs.length ≤ cap) (w : World) (hA : EvSl w A b.evs) :
    Calls Tryd.prog 8 #[.agg (btc b.first (.slice A n cap) b.prev).toArray] w fun e w' => e = .returned (.tuple #[.agg (nums .u8 (sumB b)).toArray, .int .i64 1]) ∧ Below w.heap.size w w' := by
  rw [sumB_no h]
  have hlen := btc_length b.first (.slice A n cap) hf.prev
  have hi := info_batch
  have hu := Tryd.underlying27
  have hdi : (Tryd.prog.info? 25).map (·.size) = some 32 := by kernel_rfl
  have P := Lib.hid (fun w hA => bput_no b hf h hm A n cap hn hcap w hA)
  have hol := zeros_len
  have hnl : (nums .u8 (zeros 32)).length = 32 := by rw [nums_length, hol]
  have HA := Lib.hid hA
  have HX0 := Lib.hid ((Has.make w 27 (btc b.first (.slice A n cap) b.prev)).alloc (.cells (nums .u8 (zeros 32)).toArray 25))
  have HR0 := Lib.hid (Has.make2 w (.cells (btc b.first (.slice A n cap) b.prev).toArray 27) 25 (nums .u8 (zeros 32)))
  generalize btc b.first (.slice A n cap) b.prev = L at *
  have B0 := Lib.hid (up_alloc (up_alloc (Below.refl w.heap.size w) (.cells L.toArray 27)) (.cells (nums .u8 (zeros 32)).toArray 25))
  clear h hA hn hcap hf hm
  go_enter Tryd.func8, Tryd.ntmps8
  go_wp2_with (refine wpList_load_row rfl 27 _ rfl w.heap.size (by rfl) _ _ _ _ HX0.out hu rfl (by rw [hi, List.size_toArray, hlen]) ?_)
  generalize hw1 : World.alloc (World.alloc w _) _ = w1
  have HR : Hid (Has w1 (w.heap.size + 1) 25 (nums .u8 (zeros 32))) := Lib.hid (by rw [← hw1]; exact HR0.out)
  have B1 : Hid (Below w.heap.size w w1) := Lib.hid (by rw [← hw1]; exact B0.out)
  clear hw1 HX0 HR0 B0
  refine (P.out _ (HA.out.up B1.out)).mono ?_; rintro e w2 ⟨rfl, b2⟩
  replace HR := Lib.hid (HR.out.up b2)
  replace B1 := Lib.hid (up_trans B1.out b2)
  clear b2
  go_wp2_with (refine wpList_store_whole rfl 25 _ _ rfl (w.heap.size + 1) 25 (nums .u8 (zeros 32)) (nums .u8 (zeros 32)) (by rfl) (by rfl) HR.out rfl (by rw [hdi, hnl]) (nums_one _ _) ?_; intro w4 hF hO)
  exact bodyPost_ret_by (results_dig Tryd.results8 _ _ (w.heap.size + 1) (zeros 32) (.int .i64 1) (by rfl) hF hol (by rfl)) rfl ⟨rfl, hO.below (by omega) B1.out⟩

theorem bsum_any (b : Bt) (hf : b.Fits) (hm : b.evs.length ≤ 140737488355327) (A : Option Addr) (n cap : Nat) (hn : n = b.evs.length) (hcap : b.evs.length ≤ cap) (w : World) (hA : EvSl w A b.evs) (hTab : Tab w) :
    Calls Tryd.prog 8 #[.agg (btc b.first (.slice A n cap) b.prev).toArray] w fun e w' => e = .returned (.tuple #[.agg (nums .u8 (sumB b)).toArray, .int .i64 ((putB b).2 : Nat)]) ∧ Below w.heap.size w w' := by
  cases h : isB b.first b.evs with
  | true =>
    rw [putB_yes h]
    exact bsum_yes b hf h A n cap hn hcap w hA hTab
  | false =>
    rw [putB_no h]
    exact bsum_no b hf h hm A n cap hn hcap w hA

set_option maxHeartbeats 1000000 in
set_option maxRecDepth 100000 in
theorem rbsum_yes (b : Bt) (hf : b.Fits) (h : isB b.first b.evs = true) (A : Option Addr) (n cap : Nat) (hn : n = b.evs.length) (w : World) (hA : EvSl w A b.evs) :
    Calls Tryd.prog 9 #[.agg (btc b.first (.slice A n cap) b.prev).toArray] w fun e w' => e = .returned (.tuple #[.agg (nums .u8 (sumB b)).toArray, .int .i64 0]) ∧ Below w.heap.size w w' := by
  rw [sumB_yes h]
  have hlen := btc_length b.first (.slice A n cap) hf.prev
  have hbl := body_len hf h
  have hwl := whole_len b
  have hi := info_batch
  have hu := Tryd.underlying27
  have hdi : (Tryd.prog.info? 25).map (·.size) = some 32 := by kernel_rfl
  have p1 := fun w hA => rbput_yes b hf h A n cap hn w hA
  obtain ⟨T, hT⟩ : ∃ T : ByteArray, T = ⟨(whole b).toArray⟩ := ⟨_, rfl⟩
  have zT : T.size ≤ 100000 := by rw [hT, text_list]; omega
  rw [← hT] at p1 ⊢
  have P := Lib.hid p1
  have D := Lib.hid (fun w => rof_any T w zT)
  have hol : (St.start.add T).sum.length = 32 := by simp [St.sum, outs_length]
  generalize (St.start.add T).sum = O at *
  have hnl : (nums .u8 O).length = 32 := by rw [nums_length, hol]
  have HA := Lib.hid hA
  have HX0 := Lib.hid ((Has.make w 27 (btc b.first (.slice A n cap) b.prev)).alloc (.cells (nums .u8 (zeros 32)).toArray 25))
  have HR0 := Lib.hid (Has.make2 w (.cells (btc b.first (.slice A n cap) b.prev).toArray 27) 25 (nums .u8 (zeros 32)))
  generalize btc b.first (.slice A n cap) b.prev = L at *
  have B0 := Lib.hid (up_alloc (up_alloc (Below.refl w.heap.size w) (.cells L.toArray 27)) (.cells (nums .u8 (zeros 32)).toArray 25))
  clear p1 h hA hn hT zT hbl hwl hf
  go_enter Tryd.func9, Tryd.ntmps9
  go_wp2_with (refine wpList_load_row rfl 27 _ rfl w.heap.size (by rfl) _ _ _ _ HX0.out hu rfl (by rw [hi, List.size_toArray, hlen]) ?_)
  generalize hw1 : World.alloc (World.alloc w _) _ = w1
  have HR : Hid (Has w1 (w.heap.size + 1) 25 (nums .u8 (zeros 32))) := Lib.hid (by rw [← hw1]; exact HR0.out)
  have B1 : Hid (Below w.heap.size w w1) := Lib.hid (by rw [← hw1]; exact B0.out)
  clear hw1 HX0 HR0 B0
  refine (P.out _ (HA.out.up B1.out)).mono ?_; rintro e w2 ⟨rfl, b2⟩
  replace HR := Lib.hid (HR.out.up b2)
  replace B1 := Lib.hid (up_trans B1.out b2)
  clear b2
  go_wp2_with fail
  refine (D.out _).mono ?_; rintro e w3 ⟨rfl, b3⟩
  replace HR := Lib.hid (HR.out.up b3)
  replace B1 := Lib.hid (up_trans B1.out b3)
  clear b3
  go_wp2_with (refine wpList_store_whole rfl 25 _ _ rfl (w.heap.size + 1) 25 (nums .u8 (zeros 32)) (nums .u8 O) (by rfl) (by rfl) HR.out (by rw [hnl, nums_length, zeros_len]) (by rw [hdi, hnl]) (nums_one _ _) ?_; intro w4 hF hO)
  exact bodyPost_ret_by (results_dig Tryd.results9 _ _ (w.heap.size + 1) O (.int .i64 0) (by rfl) hF hol (by rfl)) rfl ⟨rfl, hO.below (by omega) B1.out⟩

set_option maxHeartbeats 1000000 in
set_option maxRecDepth 100000 in
theorem rbsum_no (b : Bt) (hf : b.Fits) (h : isB b.first b.evs = false) (hm : b.evs.length ≤ 140737488355327) (A : Option Addr) (n cap : Nat) (hn : n = b.evs.length) (w : World) (hA : EvSl w A b.evs) :
    Calls Tryd.prog 9 #[.agg (btc b.first (.slice A n cap) b.prev).toArray] w fun e w' => e = .returned (.tuple #[.agg (nums .u8 (sumB b)).toArray, .int .i64 1]) ∧ Below w.heap.size w w' := by
  rw [sumB_no h]
  have hlen := btc_length b.first (.slice A n cap) hf.prev
  have hi := info_batch
  have hu := Tryd.underlying27
  have hdi : (Tryd.prog.info? 25).map (·.size) = some 32 := by kernel_rfl
  have P := Lib.hid (fun w hA => rbput_no b hf h hm A n cap hn w hA)
  have hol := zeros_len
  have hnl : (nums .u8 (zeros 32)).length = 32 := by rw [nums_length, hol]
  have HA := Lib.hid hA
  have HX0 := Lib.hid ((Has.make w 27 (btc b.first (.slice A n cap) b.prev)).alloc (.cells (nums .u8 (zeros 32)).toArray 25))
  have HR0 := Lib.hid (Has.make2 w (.cells (btc b.first (.slice A n cap) b.prev).toArray 27) 25 (nums .u8 (zeros 32)))
  generalize btc b.first (.slice A n cap) b.prev = L at *
  have B0 := Lib.hid (up_alloc (up_alloc (Below.refl w.heap.size w) (.cells L.toArray 27)) (.cells (nums .u8 (zeros 32)).toArray 25))
  clear h hA hn hf hm
  go_enter Tryd.func9, Tryd.ntmps9
  go_wp2_with (refine wpList_load_row rfl 27 _ rfl w.heap.size (by rfl) _ _ _ _ HX0.out hu rfl (by rw [hi, List.size_toArray, hlen]) ?_)
  generalize hw1 : World.alloc (World.alloc w _) _ = w1
  have HR : Hid (Has w1 (w.heap.size + 1) 25 (nums .u8 (zeros 32))) := Lib.hid (by rw [← hw1]; exact HR0.out)
  have B1 : Hid (Below w.heap.size w w1) := Lib.hid (by rw [← hw1]; exact B0.out)
  clear hw1 HX0 HR0 B0
  refine (P.out _ (HA.out.up B1.out)).mono ?_; rintro e w2 ⟨rfl, b2⟩
  replace HR := Lib.hid (HR.out.up b2)
  replace B1 := Lib.hid (up_trans B1.out b2)
  clear b2
  go_wp2_with (refine wpList_store_whole rfl 25 _ _ rfl (w.heap.size + 1) 25 (nums .u8 (zeros 32)) (nums .u8 (zeros 32)) (by rfl) (by rfl) HR.out rfl (by rw [hdi, hnl]) (nums_one _ _) ?_; intro w4 hF hO)
  exact bodyPost_ret_by (results_dig Tryd.results9 _ _ (w.heap.size + 1) (zeros 32) (.int .i64 1) (by rfl) hF hol (by rfl)) rfl ⟨rfl, hO.below (by omega) B1.out⟩

theorem rbsum_any (b : Bt) (hf : b.Fits) (hm : b.evs.length ≤ 140737488355327) (A : Option Addr) (n cap : Nat) (hn : n = b.evs.length) (w : World) (hA : EvSl w A b.evs) :
    Calls Tryd.prog 9 #[.agg (btc b.first (.slice A n cap) b.prev).toArray] w fun e w' => e = .returned (.tuple #[.agg (nums .u8 (sumB b)).toArray, .int .i64 ((putB b).2 : Nat)]) ∧ Below w.heap.size w w' := by
  cases h : isB b.first b.evs with
  | true =>
    rw [putB_yes h]
    exact rbsum_yes b hf h A n cap hn w hA
  | false =>
    rw [putB_no h]
    exact rbsum_no b hf h hm A n cap hn w hA

end Go.Proofs.YtalfmkgcelipdaaDoor
