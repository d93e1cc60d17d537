/- Heads and supers: the contract of header.reader's method digest, and of the two functions that read several places. -/
import Derived.Test.YtfnjegjieglbbaaHeadA
namespace Go.Proofs.Ytfnjegjieglbbaa
open Go.RowKit Wire Crc Head

set_option maxHeartbeats 1600000 in
set_option maxRecDepth 100000 in
theorem hdigest_any (g : Nat) (l : List UInt8) (hl : 32 ≤ l.length) (hm : l.length ≤ 20000) (w : World) (hg : Has w g 50 [.string ⟨l.toArray⟩]) :
    Calls Try.prog 24 #[.pointer (some ⟨g, 0, none⟩)] w fun e w' => e = .returned (.agg (bys (l.take 32)).toArray) ∧ MovedH w w' g (l.drop 32) := by
  have hlt := hg.lt
  have hsz := text_list l
  have B := Lib.hid (back_of ⟨l.toArray⟩ 32)
  have L := Lib.hid (show (⟨l.toArray⟩ : ByteArray).data.toList = l from rfl)
  have HG := Lib.hid ((hg.alloc (.cells zdig.toArray 24)).alloc (.cells zdig.toArray 24))
  generalize (⟨l.toArray⟩ : ByteArray) = s at *
  have d2 : (32 : Int) ≤ (s.size : Int) := by omega
  have d3 : 32 ≤ s.size := by omega
  clear hsz
  have HR := Lib.hid ((Has.make w 24 zdig).alloc (.cells zdig.toArray 24))
  have HZ := Lib.hid (Has.make2 w (.cells zdig.toArray 24) 24 zdig)
  have O0 := Lib.hid ((Only2.refl w g g).up2 (up_alloc (up_alloc (Below.refl w.heap.size w) (.cells zdig.toArray 24)) (.cells zdig.toArray 24)))
  have HB2 : Hid (s.extract 32 s.size = ⟨(l.drop 32).toArray⟩) := Lib.hid (by rw [B.out, L.out])
  clear hg B
  go_enter Try.func24, Try.ntmps24
  go_wp2_with fail
  generalize hw2 : (w.alloc (Obj.cells _ _)).alloc _ = w2
  replace HG : Hid (Has w2 g 50 [.string s]) := by rw [← hw2]; exact HG
  replace HR : Hid (Has w2 w.heap.size 24 zdig) := by rw [← hw2]; exact HR
  replace HZ : Hid (Has w2 (w.heap.size + 1) 24 zdig) := by rw [← hw2]; exact HZ
  replace O0 : Hid (Only2 w w2 g g) := by rw [← hw2]; exact O0
  clear hw2
  refine wp_region_held_drew (S := fun _ => True) (by kernel_rfl) (trivial) (fun hHeld => ?_)
  refine wpAnyH_take (i := 0) (v := ?_) rfl (by kernel_rfl) (by kernel_rfl) (by kernel_rfl) (fun _ _ _ h => h) (Or.inl ⟨by rfl, ?_⟩) (by assumption) ?_
  rotate_left
  · intro w hSw; (try dsimp only at hSw); go_simp; try with_reducible rfl
  try simp only [Act.put, List.getElem_toArray, List.getElem_cons_zero, List.setIfInBounds_toArray, List.set_cons_zero, List.set_cons_succ]
  refine wpAnyH_take (i := 1) (v := ?_) rfl (by kernel_rfl) (by kernel_rfl) (by kernel_rfl) (fun _ _ _ h => h) (Or.inl ⟨by rfl, ?_⟩) (by assumption) ?_
  rotate_left
  · intro w hSw; (try dsimp only at hSw); go_simp; try with_reducible rfl
  try simp only [Act.put, List.getElem_toArray, List.getElem_cons_zero, List.getElem_cons_succ, List.setIfInBounds_toArray, List.set_cons_zero, List.set_cons_succ]
  refine wpAnyH_take (i := 2) (v := ?_) rfl (by kernel_rfl) (by kernel_rfl) (by kernel_rfl) (fun _ _ _ h => h) (Or.inl ⟨by rfl, ?_⟩) (by assumption) ?_
  rotate_left
  · intro w hSw; (try dsimp only at hSw); go_simp; try with_reducible rfl
  try simp only [Act.put, List.getElem_toArray, List.getElem_cons_zero, List.getElem_cons_succ, List.setIfInBounds_toArray, List.set_cons_zero, List.set_cons_succ]
  refine wpAnyH_take (i := 3) (v := ?_) rfl (by kernel_rfl) (by kernel_rfl) (by kernel_rfl) (fun _ _ _ h => h) (Or.inl ⟨by rfl, ?_⟩) (by assumption) ?_
  rotate_left
  · intro w hSw; (try dsimp only at hSw); go_simp; try with_reducible rfl
  try simp only [Act.put, List.getElem_toArray, List.getElem_cons_zero, List.getElem_cons_succ, List.setIfInBounds_toArray, List.set_cons_zero, List.set_cons_succ]
  refine wpAnyH_take (i := 5) (v := ?_) rfl (by kernel_rfl) (by kernel_rfl) (by kernel_rfl) (fun _ _ _ h => h) (Or.inl ⟨by rfl, ?_⟩) (by assumption) ?_
  rotate_left
  · intro w hSw; (try dsimp only at hSw); go_simp; try with_reducible rfl
  try simp only [Act.put, List.getElem_toArray, List.getElem_cons_zero, List.getElem_cons_succ, List.setIfInBounds_toArray, List.set_cons_zero, List.set_cons_succ]
  refine wpAnyH_take (i := 6) (v := ?_) rfl (by kernel_rfl) (by kernel_rfl) (by kernel_rfl) (fun _ _ _ h => h) (Or.inl ⟨by rfl, ?_⟩) (by assumption) ?_
  rotate_left
  · intro w hSw; (try dsimp only at hSw); go_simp; try with_reducible rfl
  try simp only [Act.put, List.getElem_toArray, List.getElem_cons_zero, List.getElem_cons_succ, List.setIfInBounds_toArray, List.set_cons_zero, List.set_cons_succ]
  refine wpAnyH_take (i := 7) (v := ?_) rfl (by kernel_rfl) (by kernel_rfl) (by kernel_rfl) (fun _ _ _ h => h) (Or.inl ⟨by rfl, ?_⟩) (by assumption) ?_
  rotate_left
  · intro w hSw; (try dsimp only at hSw); go_simp; try with_reducible rfl
  try simp only [Act.put, List.getElem_toArray, List.getElem_cons_zero, List.getElem_cons_succ, List.setIfInBounds_toArray, List.set_cons_zero, List.set_cons_succ]
  refine wpAnyH_take (i := 8) (v := ?_) rfl (by kernel_rfl) (by kernel_rfl) (by kernel_rfl) (fun _ _ _ h => h) (Or.inl ⟨by rfl, ?_⟩) (by assumption) ?_
  rotate_left
  · intro w hSw; (try dsimp only at hSw); go_simp; try with_reducible rfl
  try simp only [Act.put, List.getElem_toArray, List.getElem_cons_zero, List.getElem_cons_succ, List.setIfInBounds_toArray, List.set_cons_zero, List.set_cons_succ]
  refine wpAnyH_ready (rs := [4, 9]) (by kernel_rfl) (by simp) (AllReadyH.cons rfl (fun K hK => ?_) (AllReadyH.cons rfl (fun K hK => ?_) AllReadyH.nil))
  · skip
    have g1 := HG.out.drew.at (i := 0) rfl
    go_simp
    clear g1
    refine hK.out _ _ (trivial) (fun hHeld => ?_)
    clear hK K
    try simp only [Act.put, List.getElem_toArray, List.getElem_cons_zero, List.getElem_cons_succ, List.setIfInBounds_toArray, List.set_cons_zero, List.set_cons_succ]
    refine wpAnyH_ready (rs := [9]) (by kernel_rfl) (by simp) (AllReadyH.cons rfl (fun K hK => ?_) AllReadyH.nil)
    have g1 := HG.out.drew.at (i := 0) rfl
    go_simp
    clear g1
    refine hK.out _ _ (trivial) (fun hHeld => ?_)
    clear hK K
    try simp only [Act.put, List.getElem_toArray, List.getElem_cons_zero, List.getElem_cons_succ, List.setIfInBounds_toArray, List.set_cons_zero, List.set_cons_succ]
    refine wpAnyH_ready (rs := [10]) (by kernel_rfl) (by simp) (AllReadyH.cons rfl (fun K hK => ?_) AllReadyH.nil)
    refine wp_copy_text _ _ rfl (w.heap.size + 1) 0 32 32 24 zdig s (by rfl) (by rfl) HZ.out.drew d3 (by simp [zdig, bys]) ?_
    intro w3 hF hO
    replace HG := Lib.hid (hO.keep (by omega) HG.out.drew)
    replace HR := Lib.hid (hO.keep (by omega) HR.out.drew)
    replace O0 := Lib.hid ((O0.out.up2 (Below.refl _ _).drew).only hO (by omega) hlt)
    replace HZ : Hid (Has w3 (w.heap.size + 1) 24 (bys (l.take 32))) := by
      rw [L.out] at hF
      refine Lib.hid ?_
      simpa [zdig, bys] using hF
    clear hF hO
    refine hK.out _ _ (trivial) (fun hHeld => ?_)
    clear hK K
    try simp only [Act.put, List.getElem_toArray, List.getElem_cons_zero, List.getElem_cons_succ, List.setIfInBounds_toArray, List.set_cons_zero, List.set_cons_succ]
    refine wpAnyH_take (i := 11) (v := ?_) rfl (by kernel_rfl) (by kernel_rfl) (by kernel_rfl) (fun _ _ _ h => h) (Or.inl ⟨by rfl, ?_⟩) (by assumption) ?_
    rotate_left
    · intro w hSw; (try dsimp only at hSw); go_simp; try with_reducible rfl
    try simp only [Act.put, List.getElem_toArray, List.getElem_cons_zero, List.getElem_cons_succ, List.setIfInBounds_toArray, List.set_cons_zero, List.set_cons_succ]
    refine wpAnyH_take (i := 12) (v := ?_) rfl (by kernel_rfl) (by kernel_rfl) (by kernel_rfl) (fun _ _ _ h => h) (Or.inl ⟨by rfl, ?_⟩) (by assumption) ?_
    rotate_left
    · intro w hSw; (try dsimp only at hSw); go_simp; try with_reducible rfl
    try simp only [Act.put, List.getElem_toArray, List.getElem_cons_zero, List.getElem_cons_succ, List.setIfInBounds_toArray, List.set_cons_zero, List.set_cons_succ]
    refine wpAnyH_take (i := 13) (v := ?_) rfl (by kernel_rfl) (by kernel_rfl) (by kernel_rfl) (fun _ _ _ h => h) (Or.inl ⟨by rfl, ?_⟩) (by assumption) ?_
    rotate_left
    · intro w hSw; (try dsimp only at hSw); go_simp; try with_reducible rfl
    try simp only [Act.put, List.getElem_toArray, List.getElem_cons_zero, List.getElem_cons_succ, List.setIfInBounds_toArray, List.set_cons_zero, List.set_cons_succ]
    refine wpAnyH_ready (rs := [14]) (by kernel_rfl) (by simp) (AllReadyH.cons rfl (fun K hK => ?_) AllReadyH.nil)
    have g2 := HG.out.free 0
    have g1 := HG.out.at (i := 0) rfl
    go_simp
    clear g1 g2
    refine hK.out _ _ (trivial) (fun hHeld => ?_)
    clear hK K
    try simp only [Act.put, List.getElem_toArray, List.getElem_cons_zero, List.getElem_cons_succ]
    refine wpAnyH_done (by kernel_rfl) ?_ _
    have hi := info_digest
    have hu := Try.underlying24
    have hbl : (bys (l.take 32)).length = 32 := by rw [bys_length, List.length_take]; omega
    have ho := bys_one (l.take 32)
    clear L
    go_wp2_with (first
      | (refine wpList_load_row rfl 24 _ rfl (w.heap.size + 1) (by rfl) _ _ _ _ (HZ.out.other (p := ⟨g, 0, none⟩) (by simp; omega) _) hu rfl (by rw [hi, List.size_toArray, hbl]) ?_)
      | (refine wpList_store_whole rfl 24 _ _ rfl w.heap.size 24 zdig (bys (l.take 32)) (by rfl) (by rfl) (HR.out.other (p := ⟨g, 0, none⟩) (by simp; omega) _) (by rw [hbl]; rfl) (by rw [hi, hbl]) ho ?_; intro w7 hF7 hO7))
    rw [HB2.out] at hO7
    refine bodyPost_ret_by (results_cell_row Try.results24 _ _ w.heap.size _ _ _ _ (by rfl) hF7 hu rfl (by rw [hi, List.size_toArray, hbl])) rfl ⟨rfl, hO7.keep (by omega) (HG.out.set 0 _), (O0.out.set (Or.inl rfl) _).only hO7 (Nat.le_refl _) hlt⟩
  · skip
    have g1 := HG.out.drew.at (i := 0) rfl
    go_simp
    clear g1
    refine hK.out _ _ (trivial) (fun hHeld => ?_)
    clear hK K
    try simp only [Act.put, List.getElem_toArray, List.getElem_cons_zero, List.getElem_cons_succ, List.setIfInBounds_toArray, List.set_cons_zero, List.set_cons_succ]
    refine wpAnyH_ready (rs := [4, 10]) (by kernel_rfl) (by simp) (AllReadyH.cons rfl (fun K hK => ?_) (AllReadyH.cons rfl (fun K hK => ?_) AllReadyH.nil))
    · skip
      have g1 := HG.out.drew.at (i := 0) rfl
      go_simp
      clear g1
      refine hK.out _ _ (trivial) (fun hHeld => ?_)
      clear hK K
      try simp only [Act.put, List.getElem_toArray, List.getElem_cons_zero, List.getElem_cons_succ, List.setIfInBounds_toArray, List.set_cons_zero, List.set_cons_succ]
      refine wpAnyH_ready (rs := [10]) (by kernel_rfl) (by simp) (AllReadyH.cons rfl (fun K hK => ?_) AllReadyH.nil)
      refine wp_copy_text _ _ rfl (w.heap.size + 1) 0 32 32 24 zdig s (by rfl) (by rfl) HZ.out.drew d3 (by simp [zdig, bys]) ?_
      intro w3 hF hO
      replace HG := Lib.hid (hO.keep (by omega) HG.out.drew)
      replace HR := Lib.hid (hO.keep (by omega) HR.out.drew)
      replace O0 := Lib.hid ((O0.out.up2 (Below.refl _ _).drew).only hO (by omega) hlt)
      replace HZ : Hid (Has w3 (w.heap.size + 1) 24 (bys (l.take 32))) := by
        rw [L.out] at hF
        refine Lib.hid ?_
        simpa [zdig, bys] using hF
      clear hF hO
      refine hK.out _ _ (trivial) (fun hHeld => ?_)
      clear hK K
      try simp only [Act.put, List.getElem_toArray, List.getElem_cons_zero, List.getElem_cons_succ, List.setIfInBounds_toArray, List.set_cons_zero, List.set_cons_succ]
      refine wpAnyH_take (i := 11) (v := ?_) rfl (by kernel_rfl) (by kernel_rfl) (by kernel_rfl) (fun _ _ _ h => h) (Or.inl ⟨by rfl, ?_⟩) (by assumption) ?_
      rotate_left
      · intro w hSw; (try dsimp only at hSw); go_simp; try with_reducible rfl
      try simp only [Act.put, List.getElem_toArray, List.getElem_cons_zero, List.getElem_cons_succ, List.setIfInBounds_toArray, List.set_cons_zero, List.set_cons_succ]
      refine wpAnyH_take (i := 12) (v := ?_) rfl (by kernel_rfl) (by kernel_rfl) (by kernel_rfl) (fun _ _ _ h => h) (Or.inl ⟨by rfl, ?_⟩) (by assumption) ?_
      rotate_left
      · intro w hSw; (try dsimp only at hSw); go_simp; try with_reducible rfl
      try simp only [Act.put, List.getElem_toArray, List.getElem_cons_zero, List.getElem_cons_succ, List.setIfInBounds_toArray, List.set_cons_zero, List.set_cons_succ]
      refine wpAnyH_take (i := 13) (v := ?_) rfl (by kernel_rfl) (by kernel_rfl) (by kernel_rfl) (fun _ _ _ h => h) (Or.inl ⟨by rfl, ?_⟩) (by assumption) ?_
      rotate_left
      · intro w hSw; (try dsimp only at hSw); go_simp; try with_reducible rfl
      try simp only [Act.put, List.getElem_toArray, List.getElem_cons_zero, List.getElem_cons_succ, List.setIfInBounds_toArray, List.set_cons_zero, List.set_cons_succ]
      refine wpAnyH_ready (rs := [14]) (by kernel_rfl) (by simp) (AllReadyH.cons rfl (fun K hK => ?_) AllReadyH.nil)
      have g2 := HG.out.free 0
      have g1 := HG.out.at (i := 0) rfl
      go_simp
      clear g1 g2
      refine hK.out _ _ (trivial) (fun hHeld => ?_)
      clear hK K
      try simp only [Act.put, List.getElem_toArray, List.getElem_cons_zero, List.getElem_cons_succ]
      refine wpAnyH_done (by kernel_rfl) ?_ _
      have hi := info_digest
      have hu := Try.underlying24
      have hbl : (bys (l.take 32)).length = 32 := by rw [bys_length, List.length_take]; omega
      have ho := bys_one (l.take 32)
      clear L
      go_wp2_with (first
        | (refine wpList_load_row rfl 24 _ rfl (w.heap.size + 1) (by rfl) _ _ _ _ (HZ.out.other (p := ⟨g, 0, none⟩) (by simp; omega) _) hu rfl (by rw [hi, List.size_toArray, hbl]) ?_)
        | (refine wpList_store_whole rfl 24 _ _ rfl w.heap.size 24 zdig (bys (l.take 32)) (by rfl) (by rfl) (HR.out.other (p := ⟨g, 0, none⟩) (by simp; omega) _) (by rw [hbl]; rfl) (by rw [hi, hbl]) ho ?_; intro w7 hF7 hO7))
      rw [HB2.out] at hO7
      refine bodyPost_ret_by (results_cell_row Try.results24 _ _ w.heap.size _ _ _ _ (by rfl) hF7 hu rfl (by rw [hi, List.size_toArray, hbl])) rfl ⟨rfl, hO7.keep (by omega) (HG.out.set 0 _), (O0.out.set (Or.inl rfl) _).only hO7 (Nat.le_refl _) hlt⟩
    · skip
      refine wp_copy_text _ _ rfl (w.heap.size + 1) 0 32 32 24 zdig s (by rfl) (by rfl) HZ.out.drew d3 (by simp [zdig, bys]) ?_
      intro w3 hF hO
      replace HG := Lib.hid (hO.keep (by omega) HG.out.drew)
      replace HR := Lib.hid (hO.keep (by omega) HR.out.drew)
      replace O0 := Lib.hid ((O0.out.up2 (Below.refl _ _).drew).only hO (by omega) hlt)
      replace HZ : Hid (Has w3 (w.heap.size + 1) 24 (bys (l.take 32))) := by
        rw [L.out] at hF
        refine Lib.hid ?_
        simpa [zdig, bys] using hF
      clear hF hO
      refine hK.out _ _ (trivial) (fun hHeld => ?_)
      clear hK K
      try simp only [Act.put, List.getElem_toArray, List.getElem_cons_zero, List.getElem_cons_succ, List.setIfInBounds_toArray, List.set_cons_zero, List.set_cons_succ]
      refine wpAnyH_ready (rs := [4]) (by kernel_rfl) (by simp) (AllReadyH.cons rfl (fun K hK => ?_) AllReadyH.nil)
      have g1 := HG.out.at (i := 0) rfl
      go_simp
      clear g1
      refine hK.out _ _ (trivial) (fun hHeld => ?_)
      clear hK K
      try simp only [Act.put, List.getElem_toArray, List.getElem_cons_zero, List.getElem_cons_succ, List.setIfInBounds_toArray, List.set_cons_zero, List.set_cons_succ]
      refine wpAnyH_take (i := 11) (v := ?_) rfl (by kernel_rfl) (by kernel_rfl) (by kernel_rfl) (fun _ _ _ h => h) (Or.inl ⟨by rfl, ?_⟩) (by assumption) ?_
      rotate_left
      · intro w hSw; (try dsimp only at hSw); go_simp; try with_reducible rfl
      try simp only [Act.put, List.getElem_toArray, List.getElem_cons_zero, List.getElem_cons_succ, List.setIfInBounds_toArray, List.set_cons_zero, List.set_cons_succ]
      refine wpAnyH_take (i := 12) (v := ?_) rfl (by kernel_rfl) (by kernel_rfl) (by kernel_rfl) (fun _ _ _ h => h) (Or.inl ⟨by rfl, ?_⟩) (by assumption) ?_
      rotate_left
      · intro w hSw; (try dsimp only at hSw); go_simp; try with_reducible rfl
      try simp only [Act.put, List.getElem_toArray, List.getElem_cons_zero, List.getElem_cons_succ, List.setIfInBounds_toArray, List.set_cons_zero, List.set_cons_succ]
      refine wpAnyH_take (i := 13) (v := ?_) rfl (by kernel_rfl) (by kernel_rfl) (by kernel_rfl) (fun _ _ _ h => h) (Or.inl ⟨by rfl, ?_⟩) (by assumption) ?_
      rotate_left
      · intro w hSw; (try dsimp only at hSw); go_simp; try with_reducible rfl
      try simp only [Act.put, List.getElem_toArray, List.getElem_cons_zero, List.getElem_cons_succ, List.setIfInBounds_toArray, List.set_cons_zero, List.set_cons_succ]
      refine wpAnyH_ready (rs := [14]) (by kernel_rfl) (by simp) (AllReadyH.cons rfl (fun K hK => ?_) AllReadyH.nil)
      have g2 := HG.out.free 0
      have g1 := HG.out.at (i := 0) rfl
      go_simp
      clear g1 g2
      refine hK.out _ _ (trivial) (fun hHeld => ?_)
      clear hK K
      try simp only [Act.put, List.getElem_toArray, List.getElem_cons_zero, List.getElem_cons_succ]
      refine wpAnyH_done (by kernel_rfl) ?_ _
      have hi := info_digest
      have hu := Try.underlying24
      have hbl : (bys (l.take 32)).length = 32 := by rw [bys_length, List.length_take]; omega
      have ho := bys_one (l.take 32)
      clear L
      go_wp2_with (first
        | (refine wpList_load_row rfl 24 _ rfl (w.heap.size + 1) (by rfl) _ _ _ _ (HZ.out.other (p := ⟨g, 0, none⟩) (by simp; omega) _) hu rfl (by rw [hi, List.size_toArray, hbl]) ?_)
        | (refine wpList_store_whole rfl 24 _ _ rfl w.heap.size 24 zdig (bys (l.take 32)) (by rfl) (by rfl) (HR.out.other (p := ⟨g, 0, none⟩) (by simp; omega) _) (by rw [hbl]; rfl) (by rw [hi, hbl]) ho ?_; intro w7 hF7 hO7))
      rw [HB2.out] at hO7
      refine bodyPost_ret_by (results_cell_row Try.results24 _ _ w.heap.size _ _ _ _ (by rfl) hF7 hu rfl (by rw [hi, List.size_toArray, hbl])) rfl ⟨rfl, hO7.keep (by omega) (HG.out.set 0 _), (O0.out.set (Or.inl rfl) _).only hO7 (Nat.le_refl _) hlt⟩

/-- Numbers, stored into places of a block, one behind the other. -/
def setN (L : List Value) : List Nat → List UInt8 → List Value
  | [], _ => L
  | p :: ps, l => setN (L.set p (.int .u64 (be (l.take 8) : Nat))) ps (l.drop 8)
theorem setN_length : ∀ (ps : List Nat) (L : List Value) (l : List UInt8), (setN L ps l).length = L.length
  | [], _, _ => rfl
  | p :: ps, L, l => by rw [setN, setN_length ps]; simp
theorem setN_snoc (q : Nat) : ∀ (ps : List Nat) (L : List Value) (l : List UInt8), setN L (ps ++ [q]) l = (setN L ps l).set q (.int .u64 (be ((l.drop (8 * ps.length)).take 8) : Nat))
  | [], _, _ => rfl
  | p :: ps, L, l => by
    rw [List.cons_append, setN, setN_snoc q ps, setN, List.drop_drop, List.length_cons, show 8 + 8 * ps.length = 8 * (ps.length + 1) by omega]
def ptrs (b : Nat) (ps : List Nat) : List Value := ps.map fun p => .pointer (some ⟨b, p, none⟩)

theorem Only2.both {w w1 w' : World} {g g2 : Nat} (h : Only2 w w1 g g2) (ho : Only2 w1 w' g g) (_hg : g < w.heap.size) : Only2 w w' g g2 :=
  ⟨Nat.le_trans h.size ho.size, fun h1 h2 k => ho.keep h1 h1 (h.keep h1 h2 k), fun h1 h2 hB k => ho.below h1 h1 (Nat.le_trans hB h.size) (h.below h1 h2 hB k)⟩

/-- What a read leaves: the reader's text, the places; all else is as it was. -/
structure Filled (w w' : World) (g b : Nat) (l : List UInt8) (T : TypeId) (L : List Value) : Prop where
  rest : Has w' g 50 [.string ⟨l.toArray⟩]
  cells : Has w' b T L
  only : Only2 w w' g b

set_option maxHeartbeats 1000000 in
set_option maxRecDepth 100000 in
theorem read64_any (g b p cap : Nat) (ps : List Nat) (l : List UInt8) (T : TypeId) (L : List Value) (hl : l.length ≤ 20000) (hn : 8 * ps.length ≤ l.length) (hps : ∀ q ∈ ps, q < L.length) (hgb : g ≠ b) (hpg : p ≠ g) (hpb : p ≠ b) (w : World)
    (hg : Has w g 50 [.string ⟨l.toArray⟩]) (hb : Has w b T L) (hp : Has w p 55 (ptrs b ps)) :
    Calls Try.prog 21 #[.pointer (some ⟨g, 0, none⟩), .func (.func 22) #[] #[], .slice (some ⟨p, 0, none⟩) ps.length cap] w fun e w' => e = .returned (.tuple #[]) ∧ Filled w w' g b (l.drop (8 * ps.length)) T (setN L ps l) := by
  have HP0 := Lib.hid hp
  have HS0 : Hid (Filled w w g b l T L) := Lib.hid ⟨hg, hb, Only2.refl _ _ _⟩
  have hglt := hg.lt
  have hblt := hb.lt
  have hplt := hp.lt
  have HQ := Lib.hid hps
  clear hg hb hp hps
  go_enter Try.func21, Try.ntmps21
  go_wp2_with fail
  go_loopw [10] (fun i wr => ∃ k : Nat, i = .int .i64 (k : Nat) ∧ k ≤ ps.length ∧ Filled w wr g b (l.drop (8 * k)) T (setN L (ps.take k) l) ∧ Has wr p 55 (ptrs b ps)) (fun i _ => ps.length - (intOf i).toNat)
  case atStart => exact ⟨0, rfl, by omega, HS0.out, HP0.out⟩
  case round =>
    clear HS0 HP0
    obtain ⟨k, rfl, hk, hF, hP⟩ := hrel
    by_cases hlt : k < ps.length
    · obtain ⟨q, hq⟩ : ∃ q, ps[k]? = some q := ⟨ps[k], List.getElem?_eq_getElem hlt⟩
      have hqm : q < L.length := HQ.out q (List.mem_of_getElem? hq)
      have hcell := hP.at (i := k) (v := .pointer (some ⟨b, q, none⟩)) (by simp [ptrs, hq])
      have h0 : (0 : Int) ≤ (k : Int) := by omega
      have h2 : (k : Int) < (ps.length : Int) := by omega
      have C := Lib.hid (hnumber_any g (l.drop (8 * k)) (by rw [List.length_drop]; omega) (by rw [List.length_drop]; omega) wr hF.rest)
      have HT := Lib.hid (show setN L (ps.take (k + 1)) l = (setN L (ps.take k) l).set q (.int .u64 (be ((l.drop (8 * k)).take 8) : Nat)) by
        rw [List.take_add_one, hq]
        show setN L (ps.take k ++ [q]) l = _
        rw [setN_snoc, List.length_take, Nat.min_eq_left hk])
      have HD := Lib.hid (show (l.drop (8 * k)).drop 8 = l.drop (8 * (k + 1)) by rw [List.drop_drop, show 8 * k + 8 = 8 * (k + 1) by omega])
      have hsl := setN_length (ps.take k) L l
      generalize be ((l.drop (8 * k)).take 8) = v at *
      generalize setN L (ps.take k) l = M at *
      have HF := Lib.hid hF
      have HP := Lib.hid hP
      clear hF hP hq
      go_wp2_with fail
      refine C.out.mono ?_; rintro e w2 ⟨rfl, hM⟩
      have HB2 := Lib.hid (hM.only.keep (Ne.symm hgb) (Ne.symm hgb) HF.out.cells)
      have HP2 := Lib.hid (hM.only.keep hpg hpg HP.out)
      have HR2 := Lib.hid hM.has
      have HO2 := Lib.hid (HF.out.only.both hM.only hglt)
      obtain ⟨u, hu⟩ : ∃ u, M[q]? = some u := ⟨M[q]'(by omega), List.getElem?_eq_getElem (by omega)⟩
      have g1 := HB2.out.at hu
      have g2 := HB2.out.free q
      clear hM hu
      go_wp2_with fail
      go_roundw
      case rel => exact ⟨k + 1, by go_num, by omega, ⟨by rw [← HD.out]; exact HR2.out.other (p := ⟨b, q, none⟩) hgb _, by rw [HT.out]; exact HB2.out.set q _, HO2.out.set (Or.inr rfl) _⟩, HP2.out.other (p := ⟨b, q, none⟩) hpb _⟩
      case measure => simp [intOf]; omega
    · obtain rfl : k = ps.length := by omega
      have h2 : ¬ (ps.length : Int) < (ps.length : Int) := by omega
      rw [List.take_length] at hF
      go_wp2_with fail
      go_end0
      exact ⟨rfl, hF⟩

/-- Sums, stored into places of a block, one behind the other. -/
def setD (L : List Value) : List Nat → List UInt8 → List Value
  | [], _ => L
  | p :: ps, l => setD (L.take p ++ bys (l.take 32) ++ L.drop (p + 32)) ps (l.drop 32)
theorem setD_snoc (q : Nat) : ∀ (ps : List Nat) (L : List Value) (l : List UInt8), setD L (ps ++ [q]) l = (setD L ps l).take q ++ bys ((l.drop (32 * ps.length)).take 32) ++ (setD L ps l).drop (q + 32)
  | [], _, _ => rfl
  | p :: ps, L, l => by
    rw [List.cons_append, setD, setD_snoc q ps, setD, List.drop_drop, List.length_cons, show 32 + 32 * ps.length = 32 * (ps.length + 1) by omega]
theorem setD_length : ∀ (ps : List Nat) (L : List Value) (l : List UInt8), 32 * ps.length ≤ l.length → (∀ q ∈ ps, q + 32 ≤ L.length) → (setD L ps l).length = L.length
  | [], _, _, _, _ => rfl
  | p :: ps, L, l, hl, hq => by
    have hl' : 32 * (ps.length + 1) ≤ l.length := hl
    have h1 := hq p (by simp)
    have e : (L.take p ++ bys (l.take 32) ++ L.drop (p + 32)).length = L.length := by
      simp [bys_length]; omega
    rw [setD, setD_length ps _ _ (by rw [List.length_drop]; omega) (fun q hm => by rw [e]; exact hq q (by simp [hm])), e]

set_option maxHeartbeats 1000000 in
set_option maxRecDepth 100000 in
theorem read32_any (g b p cap : Nat) (ps : List Nat) (l : List UInt8) (T : TypeId) (L : List Value) (hl : l.length ≤ 20000) (hn : 32 * ps.length ≤ l.length) (hps : ∀ q ∈ ps, q + 32 ≤ L.length) (hgb : g ≠ b) (hpg : p ≠ g) (hpb : p ≠ b) (w : World)
    (hg : Has w g 50 [.string ⟨l.toArray⟩]) (hb : Has w b T L) (hp : Has w p 59 (ptrs b ps)) :
    Calls Try.prog 23 #[.pointer (some ⟨g, 0, none⟩), .func (.func 24) #[] #[], .slice (some ⟨p, 0, none⟩) ps.length cap] w fun e w' => e = .returned (.tuple #[]) ∧ Filled w w' g b (l.drop (32 * ps.length)) T (setD L ps l) := by
  have HP0 := Lib.hid hp
  have HS0 : Hid (Filled w w g b l T L) := Lib.hid ⟨hg, hb, Only2.refl _ _ _⟩
  have hglt := hg.lt
  have hblt := hb.lt
  have hplt := hp.lt
  have HQ := Lib.hid hps
  have HN := Lib.hid hn
  clear hg hb hp hps
  go_enter Try.func23, Try.ntmps23
  go_wp2_with fail
  go_loopw [10] (fun i wr => ∃ k : Nat, i = .int .i64 (k : Nat) ∧ k ≤ ps.length ∧ Filled w wr g b (l.drop (32 * k)) T (setD L (ps.take k) l) ∧ Has wr p 59 (ptrs b ps)) (fun i _ => ps.length - (intOf i).toNat)
  case atStart => exact ⟨0, rfl, by omega, HS0.out, HP0.out⟩
  case round =>
    clear HS0 HP0
    obtain ⟨k, rfl, hk, hF, hP⟩ := hrel
    by_cases hlt : k < ps.length
    · obtain ⟨q, hq⟩ : ∃ q, ps[k]? = some q := ⟨ps[k], List.getElem?_eq_getElem hlt⟩
      have hqm : q + 32 ≤ L.length := HQ.out q (List.mem_of_getElem? hq)
      have hcell := hP.at (i := k) (v := .pointer (some ⟨b, q, none⟩)) (by simp [ptrs, hq])
      have h0 : (0 : Int) ≤ (k : Int) := by omega
      have h2 : (k : Int) < (ps.length : Int) := by omega
      have C := Lib.hid (hdigest_any g (l.drop (32 * k)) (by rw [List.length_drop]; omega) (by rw [List.length_drop]; omega) wr hF.rest)
      have HT := Lib.hid (show setD L (ps.take (k + 1)) l = (setD L (ps.take k) l).take q ++ bys ((l.drop (32 * k)).take 32) ++ (setD L (ps.take k) l).drop (q + 32) by
        rw [List.take_add_one, hq]
        show setD L (ps.take k ++ [q]) l = _
        rw [setD_snoc, List.length_take, Nat.min_eq_left hk])
      have HD := Lib.hid (show (l.drop (32 * k)).drop 32 = l.drop (32 * (k + 1)) by rw [List.drop_drop, show 32 * k + 32 = 32 * (k + 1) by omega])
      have hsl := setD_length (ps.take k) L l (by rw [List.length_take]; have := HN.out; omega) (fun q hm => HQ.out q (List.mem_of_mem_take hm))
      have hvl : (bys ((l.drop (32 * k)).take 32)).length = 32 := by rw [bys_length, List.length_take, List.length_drop]; omega
      have ho := bys_one ((l.drop (32 * k)).take 32)
      generalize bys ((l.drop (32 * k)).take 32) = v at *
      generalize setD L (ps.take k) l = M at *
      have HF := Lib.hid hF
      have HP := Lib.hid hP
      have hi := info_digest
      clear hF hP hq
      go_wp2_with fail
      refine C.out.mono ?_; rintro e w2 ⟨rfl, hM⟩
      have HB2 := Lib.hid (hM.only.keep (Ne.symm hgb) (Ne.symm hgb) HF.out.cells)
      have HP2 := Lib.hid (hM.only.keep hpg hpg HP.out)
      have HR2 := Lib.hid hM.has
      have HO2 := Lib.hid (HF.out.only.both hM.only hglt)
      clear hM
      go_wp2_with (refine wpList_store_part rfl 24 _ _ rfl b q T M v (by rfl) (by rfl) HB2.out (by omega) (by rw [hi, hvl]) ho ?_; intro w3 hF3 hO3)
      rw [hvl] at hF3
      go_roundw
      case rel => exact ⟨k + 1, by go_num, by omega, ⟨by rw [← HD.out]; exact hO3.keep hgb HR2.out, by rw [HT.out]; exact hF3, ⟨by have := HO2.out.size; have := hO3.size; omega, fun h1 h2 kk => hO3.keep h2 (HO2.out.keep h1 h2 kk), fun h1 h2 hB kk => hO3.below h2 (HO2.out.below h1 h2 hB kk)⟩⟩, hO3.keep hpb HP2.out⟩
      case measure => simp [intOf]; omega
    · obtain rfl : k = ps.length := by omega
      have h2 : ¬ (ps.length : Int) < (ps.length : Int) := by omega
      rw [List.take_length] at hF
      go_wp2_with fail
      go_end0
      exact ⟨rfl, hF⟩

end Go.Proofs.Ytfnjegjieglbbaa
