/- A body's readers: the contract of batch.reader's method sum. -/
import Derived.Test.YtalfmkgcelipdaaDoorBatB
import Derived.Test.YtalfmkgcelipdaaDoorBase
import Derived.Laws.IdiomCopy
namespace Go.Proofs.YtalfmkgcelipdaaDoor
open Go.RowKit Wire Evt Bat

theorem bys_one (l : List UInt8) : ∀ v ∈ bys l, v.oneCell' = true := by
  intro v hv
  obtain ⟨n, _, rfl⟩ := List.mem_map.1 hv
  rfl
theorem bys_length (l : List UInt8) : (bys l).length = l.length := by simp [bys]

/-- A COPY of a text's bytes into a part of a block: as many as there is room for. -/
theorem wp_copy_text {o : Oper} {a : Act} {w : World} {K : Act → World → Prop} {Q : Exit → Act → World → Prop} (d s : Operand)
    (ho : o.op = .call { callee := .builtin .copy, args := #[d, s], argTypes := #[42, 9] })
    (g off dLen dCap : Nat) (t : TypeId) (l : List Value) (x : ByteArray) (hd : a.eval d = .slice (some ⟨g, off, none⟩) dLen dCap) (hs : a.eval s = .string x) (hg : Has w g t l)
    (hx : dLen ≤ x.size) (hfit : off + dLen ≤ l.length)
    (h : ∀ w', Has w' g t (l.take off ++ bys (x.data.toList.take dLen) ++ l.drop (off + dLen)) → Only w w' g → K (a.put o.dst (goInt dLen)) w') : o.wp Tryd.prog a w K Q := by
  obtain ⟨i0, hi, hz0, hz1, hz2⟩ := info_parts info_u8
  have hl : (bys (x.data.toList.take dLen)).length = dLen := by
    have : x.data.toList.length = x.size := by simp
    rw [bys_length, List.length_take]; omega
  have ht := hg.there off dLen hfit
  have hst := run_storeCells_cells (P := Tryd.prog) g off (bys (x.data.toList.take dLen)) 0 w (by intro j hj; rw [hl] at hj; exact (ht j hj).1) (by intro j hj; rw [hl] at hj; exact (ht j hj).2) (bys_one _)
  have hmin : Nat.min x.size dLen = dLen := Nat.min_eq_right hx
  have htk : List.take dLen (List.map (fun b : UInt8 => Value.int IntKind.u8 (b.toNat : Int)) x.data.toList) = bys (x.data.toList.take dLen) := by
    rw [bys, List.map_take]
  have hrun : (Builtin.copy_ #[42, 9] o.type #[.slice (some ⟨g, off, none⟩) dLen dCap, .string x]).run Tryd.prog w = .ok (goInt dLen) (w.setCells g off (bys (x.data.toList.take dLen))) := by
    simp only [Nat.add_zero] at hst
    simp [Builtin.copy_, run_underlying Tryd.underlying42, Builtin.lenOf, Builtin.firstCells, sizeOf, typeInfo, hi, hz1, hmin]
    rw [htk, hst]
    simp [Result.andThen]
  unfold Oper.wp
  simp [execOp, ho, resolve, invoke, builtin, hd, hs, hrun, Result.andThen]
  refine h _ ?_ ⟨size_setCells _ _ _ _, fun hne hk => hk.setOther hne _ off, fun hB hb => below_setCells hB _ _ hb⟩
  have := Has.setCells (bys (x.data.toList.take dLen)) off hg (by rw [hl]; exact hfit)
  rwa [hl] at this

def zdig : List Value := bys (List.replicate 32 0)
theorem info_digest : (Tryd.prog.info? 25).map (·.size) = some 32 := by kernel_rfl

set_option maxHeartbeats 1600000 in
set_option maxRecDepth 100000 in
theorem sum_no (g : Nat) (l : List UInt8) (hl : l.length < 32) (w : World) (hg : Has w g 79 [.string ⟨l.toArray⟩]) :
    Calls Tryd.prog 53 #[.pointer (some ⟨g, 0, none⟩)] w fun e w' => e = .panicked [thrown] ∧ Only2 w w' g g := by
  have hlt := hg.lt
  have hsz := text_list l
  have f1 := hg.at (i := 0) rfl
  generalize (⟨l.toArray⟩ : ByteArray) = s at *
  have d : ¬ (32 : Int) ≤ (s.size : Int) := by omega
  clear hsz
  have O0 := Lib.hid ((Only2.refl w g g).up2 (up_alloc (up_alloc (Below.refl w.heap.size w) (.cells zdig.toArray 25)) (.cells zdig.toArray 25)))
  clear hg
  go_enter Tryd.func53, Tryd.ntmps53
  go_wp2_with fail
  refine (must_no _).mono ?_; rintro e w2 ⟨rfl, rfl⟩
  exact ⟨rfl, rfl, O0.out⟩

set_option maxHeartbeats 1600000 in
set_option maxRecDepth 100000 in
theorem sum_yes (g : Nat) (l : List UInt8) (hl : 32 ≤ l.length) (hm : l.length ≤ 20000) (w : World) (hg : Has w g 79 [.string ⟨l.toArray⟩]) :
    Calls Tryd.prog 53 #[.pointer (some ⟨g, 0, none⟩)] w fun e w' => e = .returned (.agg (bys (l.take 32)).toArray) ∧ Moved w w' g (l.drop 32) := by
  have hlt := hg.lt
  have hsz := text_list l
  have B := Lib.hid (back_of ⟨l.toArray⟩ 32)
  have L := Lib.hid (show (⟨l.toArray⟩ : ByteArray).data.toList = l from rfl)
  have f1 := hg.at (i := 0) rfl
  have HG := Lib.hid ((hg.alloc (.cells zdig.toArray 25)).alloc (.cells zdig.toArray 25))
  generalize (⟨l.toArray⟩ : ByteArray) = s at *
  have d : (32 : Int) ≤ (s.size : Int) := by omega
  have d2 : (s.size : Int) ≤ 20000 := by omega
  have d3 : 32 ≤ s.size := by omega
  clear hsz
  have HR := Lib.hid ((Has.make w 25 zdig).alloc (.cells zdig.toArray 25))
  have HZ := Lib.hid (Has.make2 w (.cells zdig.toArray 25) 25 zdig)
  have O0 := Lib.hid ((Only2.refl w g g).up2 (up_alloc (up_alloc (Below.refl w.heap.size w) (.cells zdig.toArray 25)) (.cells zdig.toArray 25)))
  clear hg
  go_enter Tryd.func53, Tryd.ntmps53
  go_wp2_with fail
  refine (must_yes _).mono ?_; rintro e w2 ⟨rfl, rfl⟩
  generalize hw2 : (w.alloc (Obj.cells _ _)).alloc _ = w2
  replace HG : Hid (Has w2 g 79 [.string s]) := by rw [← hw2]; exact HG
  replace HR : Hid (Has w2 w.heap.size 25 zdig) := by rw [← hw2]; exact HR
  replace HZ : Hid (Has w2 (w.heap.size + 1) 25 zdig) := by rw [← hw2]; exact HZ
  replace O0 : Hid (Only2 w w2 g g) := by rw [← hw2]; exact O0
  clear hw2 f1
  go_wp2_with fail
  refine wp_region_held_drew (S := fun W => W.cell? ⟨g, 0, none⟩ = some (.string s)) (by kernel_rfl) (HG.out.at (i := 0) rfl) (fun hHeld => ?_)
  refine wpAnyH_take (i := 0) (v := ?_) rfl (by kernel_rfl) (by kernel_rfl) (by kernel_rfl) (fun _ _ _ h => h) (Or.inl ⟨by rfl, ?_⟩) (by assumption) ?_
  rotate_left
  · intro w hSw; (try dsimp only at hSw); go_simp; try with_reducible rfl
  try simp only [Act.put, List.getElem_toArray, List.getElem_cons_zero, List.setIfInBounds_toArray, List.set_cons_zero, List.set_cons_succ]
  refine wpAnyH_take (i := 1) (v := ?_) rfl (by kernel_rfl) (by kernel_rfl) (by kernel_rfl) (fun _ _ _ h => h) (Or.inl ⟨by rfl, ?_⟩) (by assumption) ?_
  rotate_left
  · intro w hSw; (try dsimp only at hSw); go_simp; try with_reducible rfl
  try simp only [Act.put, List.getElem_toArray, List.getElem_cons_zero, List.getElem_cons_succ, List.setIfInBounds_toArray, List.set_cons_zero, List.set_cons_succ]
  refine wpAnyH_take (i := 2) (v := ?_) rfl (by kernel_rfl) (by kernel_rfl) (by kernel_rfl) (fun _ _ _ h => h) (Or.inl ⟨by rfl, ?_⟩) (by assumption) ?_
  rotate_left
  · intro w hSw; (try dsimp only at hSw); go_simp; try with_reducible rfl
  try simp only [Act.put, List.getElem_toArray, List.getElem_cons_zero, List.getElem_cons_succ, List.setIfInBounds_toArray, List.set_cons_zero, List.set_cons_succ]
  refine wpAnyH_take (i := 3) (v := ?_) rfl (by kernel_rfl) (by kernel_rfl) (by kernel_rfl) (fun _ _ _ h => h) (Or.inl ⟨by rfl, ?_⟩) (by assumption) ?_
  rotate_left
  · intro w hSw; (try dsimp only at hSw); go_simp; try with_reducible rfl
  try simp only [Act.put, List.getElem_toArray, List.getElem_cons_zero, List.getElem_cons_succ, List.setIfInBounds_toArray, List.set_cons_zero, List.set_cons_succ]
  refine wpAnyH_take (i := 4) (v := ?_) rfl (by kernel_rfl) (by kernel_rfl) (by kernel_rfl) (fun _ _ _ h => h) (Or.inl ⟨by rfl, ?_⟩) (by assumption) ?_
  rotate_left
  · intro w hSw; (try dsimp only at hSw); go_simp; try with_reducible rfl
  try simp only [Act.put, List.getElem_toArray, List.getElem_cons_zero, List.getElem_cons_succ, List.setIfInBounds_toArray, List.set_cons_zero, List.set_cons_succ]
  refine wpAnyH_ready (rs := [5]) (by kernel_rfl) (by simp) (AllReadyH.cons rfl (fun K hK => ?_) AllReadyH.nil)
  refine wp_copy_text _ _ rfl (w.heap.size + 1) 0 32 32 25 zdig s (by rfl) (by rfl) HZ.out.drew d3 (by simp [zdig, bys]) ?_
  intro w3 hF hO
  replace HG := Lib.hid (hO.keep (by omega) HG.out.drew)
  replace HR := Lib.hid (hO.keep (by omega) HR.out.drew)
  replace O0 := Lib.hid ((O0.out.up2 (Below.refl _ _).drew).only hO (by omega) hlt)
  replace HZ : Hid (Has w3 (w.heap.size + 1) 25 (bys (l.take 32))) := by
    rw [L.out] at hF
    refine Lib.hid ?_
    simpa [zdig, bys] using hF
  clear hF hO
  refine hK.out _ _ (HG.out.at (i := 0) rfl) (fun hHeld => ?_)
  clear hK K
  try simp only [Act.put, List.getElem_toArray, List.getElem_cons_zero, List.getElem_cons_succ, List.setIfInBounds_toArray, List.set_cons_zero, List.set_cons_succ]
  refine wpAnyH_done (by kernel_rfl) ?_ _
  have g1 := HG.out.at (i := 0) rfl
  have g2 := HG.out.free 0
  have hi := info_digest
  have hu := Tryd.underlying25
  have hbl : (bys (l.take 32)).length = 32 := by rw [bys_length, List.length_take]; omega
  have ho := bys_one (l.take 32)
  have HB2 : Hid (s.extract 32 s.size = ⟨(l.drop 32).toArray⟩) := Lib.hid (by rw [B.out, L.out])
  clear B L
  go_wp2_with (first
    | (refine wpList_load_row rfl 25 _ rfl (w.heap.size + 1) (by rfl) _ _ _ _ (HZ.out.other (p := ⟨g, 0, none⟩) (by simp; omega) _) hu rfl (by rw [hi, List.size_toArray, hbl]) ?_)
    | (refine wpList_store_whole rfl 25 _ _ rfl w.heap.size 25 zdig (bys (l.take 32)) (by rfl) (by rfl) (HR.out.other (p := ⟨g, 0, none⟩) (by simp; omega) _) (by rw [hbl]; rfl) (by rw [hi, hbl]) ho ?_; intro w7 hF7 hO7))
  rw [HB2.out] at hO7
  refine bodyPost_ret_by (results_cell_row Tryd.results53 _ _ w.heap.size _ _ _ _ (by rfl) hF7 hu rfl (by rw [hi, List.size_toArray, hbl])) rfl ⟨rfl, hO7.keep (by omega) (HG.out.set 0 _), (O0.out.set (Or.inl rfl) _).only hO7 (Nat.le_refl _) hlt⟩
end Go.Proofs.YtalfmkgcelipdaaDoor
