/- The walk of the law DigestReads: both sides tell a sum alike, and read a text alike. -/
import Derived.Test.YtanjebmpjenmiaaDoorHashed
import Derived.Test.YtanjebmpjenmiaaDoorReadB
import Derived.Test.YtanjebmpjenmiaaDoorRowEq
import Derived.Test.YtanjebmpjenmiaaDoorMem2
namespace Go.Proofs.YtanjebmpjenmiaaDoor
open Go.RowKit Word

theorem below_next {w W W' : World} (h : Below w.heap.size w W) (h' : Below W.heap.size W W') : Below w.heap.size w W' := h.trans (h'.mono h.size)

theorem three_kept {w1 : World} {g5 g7 g2 : Nat} {t : TypeId} {L R : List Value} (h2 : Has w1 g2 t L) (h5 : Has w1 g5 t R) (h7 : Has w1 g7 t R) : ∀ W, Below w1.heap.size w1 W → W.rangeAt g2 0 L ∧ W.rangeAt g5 0 R ∧ W.rangeAt g7 0 R :=
  fun _ hb => ⟨(h2.up hb).whole, (h5.up hb).whole, (h7.up hb).whole⟩

set_option maxHeartbeats 1600000 in
set_option maxRecDepth 100000 in
theorem DigestReads_core (l : List Nat) (hl : l.length = 32) (hb : ∀ n ∈ l, n < 256) (s : ByteArray) (hs : s.size ≤ maxLen) (w : World) (hT : Tab w) :
    Calls Tryd.prog 4 #[.agg (nums .u8 l).toArray, .string s] w fun e w' => e = .returned (.bool true) ∧ Below w.heap.size w w' := by
  have HT := Lib.hid hT
  have HS := Lib.hid hs
  have HH1 := Lib.hid (fun w => dhex_any l hl hb w)
  have HH2 := Lib.hid (fun w => rhex_any l hl hb w)
  have hnl : (nums .u8 l).length = 32 := by rw [nums_length, hl]
  have hrl : (nums .u8 (rdv s.data.toList)).length = 32 := by rw [nums_length, rdv_length]
  have ho := nums_one .u8 (rdv s.data.toList)
  have hz32 : (nums .u8 (zeroes 32)).length = 32 := by simp [nums, zeroes]
  have hi : (Tryd.prog.info? 29).map (·.size) = some 32 := by kernel_rfl
  have hu := Tryd.underlying29
  have hq5 := eql_sums (rdv s.data.toList) (rdv_length _)
  have HC1 := Lib.hid (fun w => dread_any s hs w)
  have HC2 := Lib.hid (fun w => rread_any s hs w)
  generalize nums .u8 (rdv s.data.toList) = R at *
  generalize nums .u8 l = L at *
  generalize rde s.data.toList = re at *
  generalize hexOf l = hx at *
  clear hT hs hb hl
  go_enter Tryd.func4, Tryd.ntmps4
  go_wp2_with fail
  have HA := Lib.hid (Has.make w 29 L)
  have HB0 := Lib.hid (up_alloc (Below.refl w.heap.size w) (.cells L.toArray 29))
  refine (HC1.out _).mono ?_; rintro e w2 ⟨rfl, hb2⟩
  replace HA := Lib.hid (HA.out.up hb2)
  replace HB0 := Lib.hid (below_next HB0.out hb2)
  clear hb2
  go_wp2_with (refine wpList_store_whole rfl 29 _ _ rfl w2.heap.size 29 (nums .u8 (zeroes 32)) R (by rfl) (by rfl) (Has.make w2 _ _) (by rw [hrl, hz32]) (by rw [hi, hrl]) ho ?_; intro w3 hF3 hO3)
  have hlt : w.heap.size < w2.heap.size := HA.out.lt
  have HF := Lib.hid hF3
  replace HA := Lib.hid (hO3.keep (by omega) (HA.out.alloc _))
  replace HB0 := Lib.hid (hO3.below HB0.out.size (HB0.out.alloc HB0.out.size _))
  clear hF3 hO3
  refine (HC2.out _).mono ?_; rintro e w4 ⟨rfl, hb4⟩
  replace HF := Lib.hid (HF.out.up hb4)
  replace HA := Lib.hid (HA.out.up hb4)
  replace HB0 := Lib.hid (below_next HB0.out hb4)
  clear hb4
  have hlt4 : w2.heap.size < w4.heap.size := HF.out.lt
  go_wp2_with (refine wpList_store_whole rfl 29 _ _ rfl w4.heap.size 29 (nums .u8 (zeroes 32)) R (by rfl) (by rfl) (Has.make w4 _ _) (by rw [hrl, hz32]) (by rw [hi, hrl]) ho ?_; intro w5 hF5 hO5)
  have HG := hF5
  replace HF := (hO5.keep (by omega) (HF.out.alloc _))
  replace HA := (hO5.keep (by omega) (HA.out.alloc _))
  replace HB0 := (hO5.below HB0.out.size (HB0.out.alloc HB0.out.size _))
  have HK := Lib.hid (three_kept HA HF HG)
  have HT5 := Lib.hid (tab_up HT.out HB0)
  replace HB0 := Lib.hid HB0
  clear hF5 hO5 HG HF HA HT
  have hiL : (Tryd.prog.info? 29).map (·.size) = some L.length := by rw [hi, hnl]
  have hiR : (Tryd.prog.info? 29).map (·.size) = some R.length := by rw [hi, hrl]
  refine wp_region_noPanic ?_
  refine wp_region_held_drew (S := fun W => W.rangeAt w.heap.size 0 L ∧ W.rangeAt w2.heap.size 0 R ∧ W.rangeAt w4.heap.size 0 R) (by kernel_rfl) (HK.out _ (Below.refl _ _).drew) (fun hHeld => ?_)
  refine wpAnyH_ready (rs := [0]) (by kernel_rfl) (by simp) (AllReadyH.cons rfl (fun K hK => ?_) AllReadyH.nil)
  go_simp
  refine (hashed_any _ (tab_up HT5.out (Below.refl _ _).drew)).mono ?_; rintro e wn ⟨rfl, hbn'⟩; have hbn : Below w5.heap.size w5 wn := (Below.refl _ _).drew.trans hbn'; clear hbn'
  go_wp2_with fail
  refine hK.out _ _ (HK.out _ hbn) (fun hHeld => ?_)
  clear hK K
  try simp only [Act.put, List.getElem_toArray, List.getElem_cons_zero, List.getElem_cons_succ, List.setIfInBounds_toArray, List.set_cons_zero, List.set_cons_succ]
  refine wpAnyH_take (i := 1) (v := .bool true) rfl (by kernel_rfl) (by kernel_rfl) (by kernel_rfl) (fun _ _ _ h => h) (Or.inl ⟨by rfl, by intro w hSw; go_simp⟩) (by assumption) ?_
  try simp only [Act.put, List.getElem_toArray, List.getElem_cons_zero, List.getElem_cons_succ, List.setIfInBounds_toArray, List.set_cons_zero, List.set_cons_succ]
  refine wpAnyH_take (i := 2) rfl (by kernel_rfl) (by kernel_rfl) (by kernel_rfl) (fun _ _ _ h => h) (yieldsIf_load_mid (by rfl) _ _ rfl _ _ rfl _ _ (fun w h => h.1) hu rfl hiL) (by assumption) ?_
  try simp only [Act.put, List.getElem_toArray, List.getElem_cons_zero, List.getElem_cons_succ, List.setIfInBounds_toArray, List.set_cons_zero, List.set_cons_succ]
  refine wpAnyH_take (i := 4) rfl (by kernel_rfl) (by kernel_rfl) (by kernel_rfl) (fun _ _ _ h => h) (yieldsIf_load_mid (by rfl) _ _ rfl _ _ rfl _ _ (fun w h => h.1) hu rfl hiL) (by assumption) ?_
  try simp only [Act.put, List.getElem_toArray, List.getElem_cons_zero, List.getElem_cons_succ, List.setIfInBounds_toArray, List.set_cons_zero, List.set_cons_succ]
  refine wpAnyH_ready (rs := [3]) (by kernel_rfl) (by simp) (AllReadyH.cons rfl (fun K hK => ?_) AllReadyH.nil)
  go_simp
  refine (HH1.out _).mono ?_; rintro e wn ⟨rfl, hbn'⟩; replace hbn := below_next hbn hbn'; clear hbn'
  go_wp2_with fail
  refine hK.out _ _ (HK.out _ hbn) (fun hHeld => ?_)
  clear hK K
  try simp only [Act.put, List.getElem_toArray, List.getElem_cons_zero, List.getElem_cons_succ, List.setIfInBounds_toArray, List.set_cons_zero, List.set_cons_succ]
  refine wpAnyH_ready (rs := [5]) (by kernel_rfl) (by simp) (AllReadyH.cons rfl (fun K hK => ?_) AllReadyH.nil)
  go_simp
  refine (HH2.out _).mono ?_; rintro e wn ⟨rfl, hbn'⟩; replace hbn := below_next hbn hbn'; clear hbn'
  go_wp2_with fail
  refine hK.out _ _ (HK.out _ hbn) (fun hHeld => ?_)
  clear hK K
  try simp only [Act.put, List.getElem_toArray, List.getElem_cons_zero, List.getElem_cons_succ, List.setIfInBounds_toArray, List.set_cons_zero, List.set_cons_succ]
  refine wpAnyH_take (i := 6) (v := .bool true) rfl (by kernel_rfl) (by kernel_rfl) (by kernel_rfl) (fun _ _ _ h => h) (Or.inl ⟨by rfl, by intro w hSw; go_simp⟩) (by assumption) ?_
  try simp only [Act.put, List.getElem_toArray, List.getElem_cons_zero, List.getElem_cons_succ, List.setIfInBounds_toArray, List.set_cons_zero, List.set_cons_succ]
  refine wpAnyH_take (i := 7) (v := .bool true) rfl (by kernel_rfl) (by kernel_rfl) (by kernel_rfl) (fun _ _ _ h => h) (Or.inl ⟨by rfl, by intro w hSw; go_simp⟩) (by assumption) ?_
  try simp only [Act.put, List.getElem_toArray, List.getElem_cons_zero, List.getElem_cons_succ, List.setIfInBounds_toArray, List.set_cons_zero, List.set_cons_succ]
  refine wpAnyH_take (i := 8) (v := .bool true) rfl (by kernel_rfl) (by kernel_rfl) (by kernel_rfl) (fun _ _ _ h => h) (Or.inl ⟨by rfl, by intro w hSw; go_simp⟩) (by assumption) ?_
  try simp only [Act.put, List.getElem_toArray, List.getElem_cons_zero, List.getElem_cons_succ, List.setIfInBounds_toArray, List.set_cons_zero, List.set_cons_succ]
  refine wpAnyH_take (i := 9) rfl (by kernel_rfl) (by kernel_rfl) (by kernel_rfl) (fun _ _ _ h => h) (yieldsIf_load_mid (by rfl) _ _ rfl _ _ rfl _ _ (fun w h => h.2.1) hu rfl hiR) (by assumption) ?_
  try simp only [Act.put, List.getElem_toArray, List.getElem_cons_zero, List.getElem_cons_succ, List.setIfInBounds_toArray, List.set_cons_zero, List.set_cons_succ]
  refine wpAnyH_take (i := 10) rfl (by kernel_rfl) (by kernel_rfl) (by kernel_rfl) (fun _ _ _ h => h) (yieldsIf_load_mid (by rfl) _ _ rfl _ _ rfl _ _ (fun w h => h.2.2) hu rfl hiR) (by assumption) ?_
  try simp only [Act.put, List.getElem_toArray, List.getElem_cons_zero, List.getElem_cons_succ, List.setIfInBounds_toArray, List.set_cons_zero, List.set_cons_succ]
  refine wpAnyH_take (i := 11) (v := .bool true) rfl (by kernel_rfl) (by kernel_rfl) (by kernel_rfl) (fun _ _ _ h => h) (Or.inl ⟨by rfl, by intro w hSw; go_simp⟩) (by assumption) ?_
  try simp only [Act.put, List.getElem_toArray, List.getElem_cons_zero, List.getElem_cons_succ, List.setIfInBounds_toArray, List.set_cons_zero, List.set_cons_succ]
  refine wpAnyH_take (i := 12) (v := .bool true) rfl (by kernel_rfl) (by kernel_rfl) (by kernel_rfl) (fun _ _ _ h => h) (Or.inl ⟨by rfl, by intro w hSw; go_simp⟩) (by assumption) ?_
  try simp only [Act.put, List.getElem_toArray, List.getElem_cons_zero, List.getElem_cons_succ, List.setIfInBounds_toArray, List.set_cons_zero, List.set_cons_succ]
  refine wpAnyH_take (i := 13) (v := .bool true) rfl (by kernel_rfl) (by kernel_rfl) (by kernel_rfl) (fun _ _ _ h => h) (Or.inl ⟨by rfl, by intro w hSw; go_simp⟩) (by assumption) ?_
  try simp only [Act.put, List.getElem_toArray, List.getElem_cons_zero, List.getElem_cons_succ, List.setIfInBounds_toArray, List.set_cons_zero, List.set_cons_succ]
  refine wpAnyH_take (i := 14) (v := .int .i64 re) rfl (by kernel_rfl) (by kernel_rfl) (by kernel_rfl) (fun _ _ _ h => h) (Or.inl ⟨by rfl, by intro w hSw; go_simp⟩) (by assumption) ?_
  try simp only [Act.put, List.getElem_toArray, List.getElem_cons_zero, List.getElem_cons_succ, List.setIfInBounds_toArray, List.set_cons_zero, List.set_cons_succ]
  refine wpAnyH_take (i := 15) (v := .int .i64 re) rfl (by kernel_rfl) (by kernel_rfl) (by kernel_rfl) (fun _ _ _ h => h) (Or.inl ⟨by rfl, by intro w hSw; go_simp⟩) (by assumption) ?_
  try simp only [Act.put, List.getElem_toArray, List.getElem_cons_zero, List.getElem_cons_succ, List.setIfInBounds_toArray, List.set_cons_zero, List.set_cons_succ]
  refine wpAnyH_take (i := 16) (v := .bool true) rfl (by kernel_rfl) (by kernel_rfl) (by kernel_rfl) (fun _ _ _ h => h) (Or.inl ⟨by rfl, by intro w hSw; go_simp⟩) (by assumption) ?_
  try simp only [Act.put, List.getElem_toArray, List.getElem_cons_zero, List.getElem_cons_succ, List.setIfInBounds_toArray, List.set_cons_zero, List.set_cons_succ]
  refine wpAnyH_take (i := 17) (v := .bool true) rfl (by kernel_rfl) (by kernel_rfl) (by kernel_rfl) (fun _ _ _ h => h) (Or.inl ⟨by rfl, by intro w hSw; go_simp⟩) (by assumption) ?_
  try simp only [Act.put, List.getElem_toArray, List.getElem_cons_zero, List.getElem_cons_succ, List.setIfInBounds_toArray, List.set_cons_zero, List.set_cons_succ]
  refine wpAnyH_take (i := 18) (v := .bool true) rfl (by kernel_rfl) (by kernel_rfl) (by kernel_rfl) (fun _ _ _ h => h) (Or.inl ⟨by rfl, by intro w hSw; go_simp⟩) (by assumption) ?_
  try simp only [Act.put, List.getElem_toArray, List.getElem_cons_zero, List.getElem_cons_succ, List.setIfInBounds_toArray, List.set_cons_zero, List.set_cons_succ]
  refine wpAnyH_done (by kernel_rfl) ?_ _
  refine NoPanic.normal ?_
  go_wp2_with fail
  go_ret
  exact ⟨rfl, below_next HB0.out hbn⟩

end Go.Proofs.YtanjebmpjenmiaaDoor
