/- Heads and supers, read from bytes by the document's own answer: GetHead and GetSuper. -/
import Derived.Test.YtfnjegjieglbbaaHeadF
import Derived.Laws.Tables
import Derived.Deep.DeepCutAuto
import Derived.Deep.CutBlock
namespace Go.Proofs.Ytfnjegjieglbbaa
open Go.RowKit Wire Crc Head

/-- A value that is put together, taken in a drawn region. -/
theorem yieldsIf_built {ops : Array Oper} {S : World → Prop} {op : Oper} {a : Act} (hw : Region.wanted op (yielded ops a.tmps) = true) (t : TypeId) (parts : Array (Nat × Operand)) (ho : op.op = .build t parts)
    (cells : Array Value) (hc : Try.prog.built t (parts.toList.map fun p => (p.1, a.eval p.2)) = some cells) : YieldsIf Try.prog ops S op (.agg cells) a :=
  .inl ⟨hw, fun w _ => by
    unfold execOp
    have hc' : Try.prog.built t (parts.map fun (i, x) => (i, a.eval x)).toList = some cells := by rw [Array.toList_map]; exact hc
    simp only [ho, Sem.run_bind, run_build w t _ cells hc', Result.andThen_ok]
    rfl⟩

theorem wp_store_whole {P : Program} {o : Oper} {a : Act} {w : World} {K : Act → World → Prop} {Q : Exit → Act → World → Prop} (ty : TypeId) (x y : Operand) (ho : o.op = .store ty x y)
    (g : Nat) (t : TypeId) (l vs : List Value) (hx : a.eval x = .pointer (some ⟨g, 0, none⟩)) (hy : a.eval y = .agg vs.toArray) (hg : Has w g t l) (hl : vs.length = l.length)
    (hi : (P.info? ty).map (·.size) = some vs.length) (h1 : ∀ v ∈ vs, v.oneCell' = true)
    (h : ∀ w', Has w' g t vs → Only w w' g → K (a.put o.dst undef) w') : o.wp P a w K Q :=
  wp_store_mid ty x y ho g 0 vs.toArray hx hy (hg.there 0 _ (by simp; omega)) (by simpa using hi) (all_oneCell_toArray h1)
    (h _ (hg.setWhole hl) ⟨size_setCells _ _ _ _, fun hne hk => hk.setOther hne vs 0, fun hB hb => below_setCells hB _ _ hb⟩)

theorem fold_put : ∀ (xs : List Value) (k off : Nat) (cs : List Value), off + k + xs.length ≤ cs.length →
    (xs.zipIdx k).foldl (fun (c : Array Value) (p : Value × Nat) => c.setIfInBounds (off + p.2) p.1) cs.toArray = (cs.take (off + k) ++ xs ++ cs.drop (off + k + xs.length)).toArray
  | [], k, off, cs, _ => by simp
  | x :: xs, k, off, cs, h => by
    have h' : off + k + (xs.length + 1) ≤ cs.length := h
    have e : cs.toArray.setIfInBounds (off + k) x = (cs.set (off + k) x).toArray := by simp
    rw [List.zipIdx_cons, List.foldl_cons, e, fold_put xs (k + 1) off (cs.set (off + k) x) (by rw [List.length_set]; omega)]
    have e1 : (cs.set (off + k) x).take (off + (k + 1)) = cs.take (off + k) ++ [x] := by
      rw [show off + (k + 1) = off + k + 1 by omega, List.take_succ_eq_append_getElem (by rw [List.length_set]; omega), List.take_set]
      rw [List.set_eq_of_length_le (by rw [List.length_take]; omega)]
      simp
    have e2 : (cs.set (off + k) x).drop (off + (k + 1) + xs.length) = cs.drop (off + k + (x :: xs).length) := by
      rw [List.drop_set_of_lt (by omega)]
      congr 1
      simp; omega
    rw [e1, e2]
    simp

/-- A head, put together of its parts. -/
theorem built_head (a b : Nat) (l : List UInt8) (hl : l.length = 32) : Try.prog.built 26 [(0, .int .u64 (a : Nat)), (1, .int .u64 (b : Nat)), (2, .agg (bys l).toArray)] = some (hdc ⟨a, b, l⟩).toArray := by
  have h0 : (Try.prog.info? 26).map (·.zero) = some (some (.agg (hdc noH).toArray)) := by kernel_rfl
  obtain ⟨it, hit, hz⟩ := Option.map_eq_some_iff.1 h0
  obtain ⟨fs, hu, hp⟩ : ∃ fs : Array Field, Try.prog.underlying 26 = some (.struct fs) ∧ fs.toList.mapM (fun f => (Try.prog.info? f.type).map fun i => (f.offset, i.size)) = some [(0, 1), (1, 1), (2, 32)] := ⟨_, Try.underlying26, by kernel_rfl⟩
  unfold Program.built
  simp only [hit, hu, hz, hp]
  have hbl : (bys l).toArray.size = 32 := by rw [List.size_toArray, bys_length, hl]
  have hbl2 : (bys l).length = 32 := by rw [bys_length, hl]
  have z32l : (bys z32).length = 32 := by rw [bys_length, z32_length]
  show Instr.fill ([(0, 1), (1, 1), (2, 32)].toArray[·]?) (.int .u64 (a : Nat) :: .int .u64 (b : Nat) :: bys z32).toArray [(2, .agg (bys l).toArray)] = _
  unfold Instr.fill
  have hpl : ([(0, 1), (1, 1), (2, 32)] : List (Nat × Nat)).toArray[2]? = some (2, 32) := rfl
  simp only [hpl]
  have hcs : (Value.agg (bys l).toArray).cells = (bys l).toArray := rfl
  rw [hcs, hbl, if_neg (by simp [z32l])]
  have hf := fold_put (bys l) 0 2 (.int .u64 (a : Nat) :: .int .u64 (b : Nat) :: bys z32) (by simp [hbl2, z32l])
  have hf2 : (bys l).toArray.zipIdx.foldl (fun (c : Array Value) (p : Value × Nat) => c.setIfInBounds (2 + p.2) p.1) (.int .u64 (a : Nat) :: .int .u64 (b : Nat) :: bys z32).toArray = (hdc ⟨a, b, l⟩).toArray := by
    rw [← Array.foldl_toList, Array.toList_zipIdx, hf, hbl2]
    have : (Value.int .u64 (a : Nat) :: .int .u64 (b : Nat) :: bys z32).drop 34 = [] := by rw [List.drop_eq_nil_iff]; simp [z32l]
    show ([_, _] ++ bys l ++ (Value.int .u64 (a : Nat) :: .int .u64 (b : Nat) :: bys z32).drop 34).toArray = _
    rw [this, List.append_nil]
    rfl
  unfold Instr.fill
  exact congrArg some hf2

theorem fill_int (place : Nat → Option (Nat × Nat)) (cells : List Value) (i off n : Nat) (rest : List (Nat × Value)) (hp : place i = some (off, 1)) (hlt : off < cells.length) :
    Instr.fill place cells.toArray ((i, .int .u64 (n : Nat)) :: rest) = Instr.fill place (cells.set off (.int .u64 (n : Nat))).toArray rest := by
  have hcs : (Value.int .u64 (n : Nat)).cells = #[.int .u64 (n : Nat)] := rfl
  rw [Instr.fill, hp]
  simp only [hcs]
  rw [if_neg (by simp; omega)]
  simp

theorem spc_sets (a b c d e f : Value) : ((((((spc noS).set 0 a).set 1 b).set 2 c).set 35 d).set 36 e).set 37 f = a :: b :: c :: (bys z32 ++ (d :: e :: f :: bys z32)) := by
  have hz : (bys z32).length = 32 := by rw [bys_length, z32_length]
  have s : ∀ (t : List Value) (k : Nat) (v : Value), (bys z32 ++ t).set (32 + k) v = bys z32 ++ t.set k v := fun t k v => by
    rw [List.set_append_right _ _ (by omega), hz, Nat.add_sub_cancel_left]
  show _ :: _ :: _ :: (((bys z32 ++ _).set (32 + 0) _).set (32 + 1) _).set (32 + 2) _ = _
  rw [s, s, s]
  rfl

/-- A super, put together of its numbers. -/
theorem built_super (a b c d e f : Nat) : Try.prog.built 34 [(0, .int .u64 (a : Nat)), (1, .int .u64 (b : Nat)), (2, .int .u64 (c : Nat)), (4, .int .u64 (d : Nat)), (5, .int .u64 (e : Nat)), (6, .int .u64 (f : Nat))] = some (spc ⟨a, b, c, z32, d, e, f, z32⟩).toArray := by
  have h0 : (Try.prog.info? 34).map (·.zero) = some (some (.agg (spc noS).toArray)) := by kernel_rfl
  obtain ⟨it, hit, hz⟩ := Option.map_eq_some_iff.1 h0
  obtain ⟨fs, hu, hp⟩ : ∃ fs : Array Field, Try.prog.underlying 34 = some (.struct fs) ∧ fs.toList.mapM (fun f => (Try.prog.info? f.type).map fun i => (f.offset, i.size)) = some [(0, 1), (1, 1), (2, 1), (3, 32), (35, 1), (36, 1), (37, 1), (38, 32)] := ⟨_, Try.underlying34, by kernel_rfl⟩
  have hcz : (Value.agg (spc noS).toArray).cells = (spc noS).toArray := rfl
  have hl := spc_length noS_fits
  have hs := spc_sets (.int .u64 (a : Nat)) (.int .u64 (b : Nat)) (.int .u64 (c : Nat)) (.int .u64 (d : Nat)) (.int .u64 (e : Nat)) (.int .u64 (f : Nat))
  unfold Program.built
  simp only [hit, hu, hz, hp, hcz]
  generalize spc noS = L at *
  rw [fill_int _ _ 0 0 _ _ rfl (by omega), fill_int _ _ 1 1 _ _ rfl (by simp; omega), fill_int _ _ 2 2 _ _ rfl (by simp; omega), fill_int _ _ 4 35 _ _ rfl (by simp; omega), fill_int _ _ 5 36 _ _ rfl (by simp; omega), fill_int _ _ 6 37 _ _ rfl (by simp; omega), hs]
  rfl

set_option maxHeartbeats 1000000 in
set_option maxRecDepth 100000 in
theorem rghead_no (s : ByteArray) (hs : s.size ≤ maxLen) (k : Nat) (hk : k ≠ 0) (he : errH s.data.toList = k) (w : World) :
    Calls Try.prog 10 #[.string s] w fun e w' => e = .returned (.tuple #[.agg (hdc (gotH s.data.toList).1).toArray, .int .i64 ((gotH s.data.toList).2 : Nat)]) ∧ Below w.heap.size w w' := by
  have hz : (hdc noH).length = 34 := hdc_length noH_fits
  have hzo := hdc_one noH
  have hi := info_head
  have hu := Try.underlying26
  have HX := Lib.hid (Has.make w 26 (hdc noH))
  have B1 := Lib.hid (up_alloc (Below.refl w.heap.size w) (.cells (hdc noH).toArray 26))
  have co := fun w => ropened_any s hs w
  rw [he] at co
  have EB := Lib.hid (gotH_no he hk)
  have d1 : ((k : Int) == 0) = false := by rw [beq_eq_false_iff_ne]; omega
  have CO := Lib.hid co
  clear co he
  go_enter Try.func10, Try.ntmps10
  go_wp2_with fail
  generalize hw1 : w.alloc (Obj.cells _ _) = w1
  replace HX : Hid (Has w1 w.heap.size 26 (hdc noH)) := by rw [← hw1]; exact HX
  replace B1 : Hid (Below w.heap.size w w1) := by rw [← hw1]; exact B1
  clear hw1
  refine (CO.out _).mono ?_; rintro e w2 ⟨rfl, b2⟩
  replace HX := Lib.hid (HX.out.up b2)
  replace B1 := Lib.hid (up_trans B1.out b2)
  clear b2
  go_wp2_with (refine wpList_store_whole rfl 26 _ _ rfl w.heap.size 26 (hdc noH) (hdc noH) (by rfl) (by rfl) HX.out rfl (by rw [hi, hz]) hzo ?_; intro w9 hF9 hO9)
  refine bodyPost_ret_by (results_head Try.results10 _ _ w.heap.size _ _ hz (by rfl) hF9 (by rfl)) rfl ⟨by rw [EB.out]; rfl, hO9.below (Nat.le_refl _) B1.out⟩

set_option maxHeartbeats 2000000 in
set_option maxRecDepth 100000 in
theorem rghead_ok (s : ByteArray) (hs : s.size ≤ maxLen) (he : errH s.data.toList = 0) (w : World) :
    Calls Try.prog 10 #[.string s] w fun e w' => e = .returned (.tuple #[.agg (hdc (gotH s.data.toList).1).toArray, .int .i64 ((gotH s.data.toList).2 : Nat)]) ∧ Below w.heap.size w w' := by
  have hz : (hdc noH).length = 34 := hdc_length noH_fits
  have hzo := hdc_one noH
  have hi := info_head
  have hu := Try.underlying26
  have HX := Lib.hid (Has.make w 26 (hdc noH))
  have B1 := Lib.hid (up_alloc (Below.refl w.heap.size w) (.cells (hdc noH).toArray 26))
  have co := fun w => ropened_any s hs w
  rw [he] at co
  have EB := Lib.hid (gotH_ok he)
  have h64 := (errH_back he).1
  have hl := list_size s
  have hcl := hdc_length (decH_fits h64)
  have hpl : (piece s.data.toList 17 32).length = 32 := piece_length (by omega)
  have CO := Lib.hid co
  have i1 : (1 : Int) ≤ (s.size : Int) := by omega
  have i2 : (9 : Int) ≤ (s.size : Int) := by omega
  have i3 : (17 : Int) ≤ (s.size : Int) := by omega
  unfold maxLen at hs
  have c1 := fun w => rnumber_any (s.extract 1 s.size) (by rw [back_of, text_list, List.length_drop]; omega) (by rw [back_of, text_list, List.length_drop]; unfold maxLen; omega) w
  rw [show (s.extract 1 s.size).data.toList.take 8 = piece s.data.toList 1 8 by rw [back_of]; rfl] at c1
  have C1 := Lib.hid c1
  clear c1
  have c2 := fun w => rnumber_any (s.extract 9 s.size) (by rw [back_of, text_list, List.length_drop]; omega) (by rw [back_of, text_list, List.length_drop]; unfold maxLen; omega) w
  rw [show (s.extract 9 s.size).data.toList.take 8 = piece s.data.toList 9 8 by rw [back_of]; rfl] at c2
  have C2 := Lib.hid c2
  clear c2
  have c3 := fun w => rsum_any (s.extract 17 s.size) (by rw [back_of, text_list, List.length_drop]; omega) (by rw [back_of, text_list, List.length_drop]; unfold maxLen; omega) w
  rw [show (s.extract 17 s.size).data.toList.take 32 = piece s.data.toList 17 32 by rw [back_of]; rfl] at c3
  have C3 := Lib.hid c3
  clear c3
  have n1 : be (piece s.data.toList 1 8) = num8 s.data.toList 1 := rfl
  have n2 : be (piece s.data.toList 9 8) = num8 s.data.toList 9 := rfl
  rw [n1] at C1
  rw [n2] at C2
  clear co he h64 hl n1 n2
  go_enter Try.func10, Try.ntmps10
  go_wp2_with fail
  generalize hw1 : w.alloc (Obj.cells _ _) = w1
  replace HX : Hid (Has w1 w.heap.size 26 (hdc noH)) := by rw [← hw1]; exact HX
  replace B1 : Hid (Below w.heap.size w w1) := by rw [← hw1]; exact B1
  clear hw1
  refine (CO.out _).mono ?_; rintro e w2 ⟨rfl, b2⟩
  replace HX := Lib.hid (HX.out.up b2)
  replace B1 := Lib.hid (up_trans B1.out b2)
  clear b2
  go_wp2_with fail
  refine wp_region_held_drew (S := fun _ => True) (by kernel_rfl) (trivial) (fun hHeld => ?_)
  refine wpAnyH_take (i := 0) (v := ?_) rfl (by kernel_rfl) (by kernel_rfl) (by kernel_rfl) (fun _ _ _ h => h) (Or.inl ⟨by rfl, ?_⟩) (by assumption) ?_
  rotate_left
  · intro w hSw; (try dsimp only at hSw); go_simp; try with_reducible rfl
  try simp only [Act.put, List.getElem_toArray, List.getElem_cons_zero, List.setIfInBounds_toArray, List.set_cons_zero, List.set_cons_succ]
  refine wpAnyH_take (i := 1) (v := ?_) rfl (by kernel_rfl) (by kernel_rfl) (by kernel_rfl) (fun _ _ _ h => h) (Or.inl ⟨by rfl, ?_⟩) (by assumption) ?_
  rotate_left
  · intro w hSw; (try dsimp only at hSw); go_simp; try with_reducible rfl
  try simp only [Act.put, List.getElem_toArray, List.getElem_cons_zero, List.getElem_cons_succ, List.setIfInBounds_toArray, List.set_cons_zero, List.set_cons_succ]
  refine wpAnyH_take (i := 3) (v := ?_) rfl (by kernel_rfl) (by kernel_rfl) (by kernel_rfl) (fun _ _ _ h => h) (Or.inl ⟨by rfl, ?_⟩) (by assumption) ?_
  rotate_left
  · intro w hSw; (try dsimp only at hSw); go_simp; try with_reducible rfl
  try simp only [Act.put, List.getElem_toArray, List.getElem_cons_zero, List.getElem_cons_succ, List.setIfInBounds_toArray, List.set_cons_zero, List.set_cons_succ]
  refine wpAnyH_take (i := 4) (v := ?_) rfl (by kernel_rfl) (by kernel_rfl) (by kernel_rfl) (fun _ _ _ h => h) (Or.inl ⟨by rfl, ?_⟩) (by assumption) ?_
  rotate_left
  · intro w hSw; (try dsimp only at hSw); go_simp; try with_reducible rfl
  try simp only [Act.put, List.getElem_toArray, List.getElem_cons_zero, List.getElem_cons_succ, List.setIfInBounds_toArray, List.set_cons_zero, List.set_cons_succ]
  refine wpAnyH_take (i := 6) (v := ?_) rfl (by kernel_rfl) (by kernel_rfl) (by kernel_rfl) (fun _ _ _ h => h) (Or.inl ⟨by rfl, ?_⟩) (by assumption) ?_
  rotate_left
  · intro w hSw; (try dsimp only at hSw); go_simp; try with_reducible rfl
  try simp only [Act.put, List.getElem_toArray, List.getElem_cons_zero, List.getElem_cons_succ, List.setIfInBounds_toArray, List.set_cons_zero, List.set_cons_succ]
  refine wpAnyH_take (i := 7) (v := ?_) rfl (by kernel_rfl) (by kernel_rfl) (by kernel_rfl) (fun _ _ _ h => h) (Or.inl ⟨by rfl, ?_⟩) (by assumption) ?_
  rotate_left
  · intro w hSw; (try dsimp only at hSw); go_simp; try with_reducible rfl
  try simp only [Act.put, List.getElem_toArray, List.getElem_cons_zero, List.getElem_cons_succ, List.setIfInBounds_toArray, List.set_cons_zero, List.set_cons_succ]
  refine wpAnyH_ready (rs := [2]) (by kernel_rfl) (by simp) (AllReadyH.cons rfl (fun K hK => ?_) AllReadyH.nil)
  go_simp
  refine (C1.out _).mono ?_; rintro e wn ⟨rfl, hbn'⟩
  have hbn : Below w2.heap.size w2 wn := up_trans (Below.refl _ _).drew hbn'
  clear hbn'
  go_wp2_with fail
  refine hK.out _ _ (trivial) (fun hHeld => ?_)
  clear hK K
  try simp only [Act.put, List.getElem_toArray, List.getElem_cons_zero, List.getElem_cons_succ, List.setIfInBounds_toArray, List.set_cons_zero, List.set_cons_succ]
  refine wpAnyH_ready (rs := [5]) (by kernel_rfl) (by simp) (AllReadyH.cons rfl (fun K hK => ?_) AllReadyH.nil)
  go_simp
  refine (C2.out _).mono ?_; rintro e wn ⟨rfl, hbn'⟩
  replace hbn : Below w2.heap.size w2 wn := up_trans hbn hbn'
  clear hbn'
  go_wp2_with fail
  refine hK.out _ _ (trivial) (fun hHeld => ?_)
  clear hK K
  try simp only [Act.put, List.getElem_toArray, List.getElem_cons_zero, List.getElem_cons_succ, List.setIfInBounds_toArray, List.set_cons_zero, List.set_cons_succ]
  refine wpAnyH_ready (rs := [8]) (by kernel_rfl) (by simp) (AllReadyH.cons rfl (fun K hK => ?_) AllReadyH.nil)
  go_simp
  refine (C3.out _).mono ?_; rintro e wn ⟨rfl, hbn'⟩
  replace hbn : Below w2.heap.size w2 wn := up_trans hbn hbn'
  clear hbn'
  go_wp2_with fail
  refine hK.out _ _ (trivial) (fun hHeld => ?_)
  clear hK K
  try simp only [Act.put, List.getElem_toArray, List.getElem_cons_zero, List.getElem_cons_succ, List.setIfInBounds_toArray, List.set_cons_zero, List.set_cons_succ]
  refine wpAnyH_take (i := 9) rfl (by kernel_rfl) (by kernel_rfl) (by kernel_rfl) (fun _ _ _ h => h) (yieldsIf_built (by rfl) _ _ rfl _ (built_head (num8 s.data.toList 1) (num8 s.data.toList 9) (piece s.data.toList 17 32) hpl)) (by assumption) ?_
  try simp only [Act.put, List.getElem_toArray, List.getElem_cons_zero, List.getElem_cons_succ, List.setIfInBounds_toArray, List.set_cons_zero, List.set_cons_succ]
  refine wpAnyH_ready (rs := [10]) (by kernel_rfl) (by simp) (AllReadyH.cons rfl (fun K hK => ?_) AllReadyH.nil)
  refine wp_store_whole 26 _ _ rfl w.heap.size 26 (hdc noH) (hdc (decH s.data.toList)) (by rfl) (by rfl) (HX.out.up hbn) (by rw [hcl, hz]) (by rw [hi, hcl]) (hdc_one _) ?_
  intro w9 hF9 hO9
  refine hK.out _ _ (trivial) (fun hHeld => ?_)
  clear hK K
  try simp only [Act.put, List.getElem_toArray, List.getElem_cons_zero, List.getElem_cons_succ]
  refine wpAnyH_take (i := 11) (v := ?_) rfl (by kernel_rfl) (by kernel_rfl) (by kernel_rfl) (fun _ _ _ h => h) (Or.inl ⟨by rfl, ?_⟩) (by assumption) ?_
  rotate_left
  · intro w hSw; (try dsimp only at hSw); go_simp; try with_reducible rfl
  try simp only [Act.put, List.getElem_toArray, List.getElem_cons_zero, List.getElem_cons_succ, List.setIfInBounds_toArray, List.set_cons_zero, List.set_cons_succ]
  refine wpAnyH_done (by kernel_rfl) ?_ _
  go_wp2_with fail
  refine bodyPost_ret_by (results_head Try.results10 _ _ w.heap.size _ _ hcl (by rfl) hF9 (by rfl)) rfl ⟨by rw [EB.out]; rfl, hO9.below (Nat.le_refl _) (up_trans B1.out hbn)⟩

theorem rghead_any (s : ByteArray) (hs : s.size ≤ maxLen) (w : World) :
    Calls Try.prog 10 #[.string s] w fun e w' => e = .returned (.tuple #[.agg (hdc (gotH s.data.toList).1).toArray, .int .i64 ((gotH s.data.toList).2 : Nat)]) ∧ Below w.heap.size w w' := by
  by_cases h : errH s.data.toList = 0
  · exact rghead_ok s hs h w
  · exact rghead_no s hs _ h rfl w

set_option maxHeartbeats 1000000 in
set_option maxRecDepth 100000 in
theorem rgsuper_few (s : ByteArray) (h0 : s.size < 226) (w : World) :
    Calls Try.prog 15 #[.string s] w fun e w' => e = .returned (.tuple #[.agg (spc (gotS s.data.toList).1).toArray, .int .i64 ((gotS s.data.toList).2 : Nat)]) ∧ Below w.heap.size w w' := by
  have hz : (spc noS).length = 70 := spc_length noS_fits
  have hzo := spc_one noS
  have hi := info_super
  have hu := Try.underlying34
  have zv := zero_super
  have HX := Lib.hid (Has.make w 34 (spc noS))
  have B1 := Lib.hid (up_alloc (Below.refl w.heap.size w) (.cells (spc noS).toArray 34))
  have EB := Lib.hid (gotS_no (errS_few (l := s.data.toList) (by rw [list_size]; exact h0)) (by decide))
  have i1 : (s.size : Int) < 226 := by omega
  clear h0
  go_enter Try.func15, Try.ntmps15
  go_wp2_with (refine wpList_store_whole rfl 34 _ _ rfl w.heap.size 34 (spc noS) (spc noS) (by rfl) (by rfl) HX.out rfl (by rw [hi, hz]) hzo ?_; intro w9 hF9 hO9)
  refine bodyPost_ret_by (results_super Try.results15 _ _ w.heap.size _ _ hz (by rfl) hF9 (by rfl)) rfl ⟨by rw [EB.out]; rfl, hO9.below (Nat.le_refl _) (B1.out)⟩

set_option maxHeartbeats 1000000 in
set_option maxRecDepth 100000 in
theorem rgsuper_mark (s : ByteArray) (h0 : 226 ≤ s.size) (h1 : s.data.toList.headD 0 ≠ 83) (w : World) :
    Calls Try.prog 15 #[.string s] w fun e w' => e = .returned (.tuple #[.agg (spc (gotS s.data.toList).1).toArray, .int .i64 ((gotS s.data.toList).2 : Nat)]) ∧ Below w.heap.size w w' := by
  have hz : (spc noS).length = 70 := spc_length noS_fits
  have hzo := spc_one noS
  have hi := info_super
  have hu := Try.underlying34
  have zv := zero_super
  have HX := Lib.hid (Has.make w 34 (spc noS))
  have B1 := Lib.hid (up_alloc (Below.refl w.heap.size w) (.cells (spc noS).toArray 34))
  have EB := Lib.hid (gotS_no (errS_mark (l := s.data.toList) (by rw [list_size]; exact h0) h1) (by decide))
  have h00 : 0 < s.size := by omega
  have hc := list_cons s h00
  have d0 : ((s[0].toNat : Int) != 83) = true := by
    rw [bne_iff_ne]
    intro he
    rw [hc] at h1
    exact h1 (UInt8.toNat_inj.1 (by show s[0].toNat = 83; omega))
  have i0 : (0 : Int) < (s.size : Int) := by omega
  have i1 : ¬ (s.size : Int) < 226 := by omega
  clear hc h1
  go_enter Try.func15, Try.ntmps15
  go_wp2_with (refine wpList_store_whole rfl 34 _ _ rfl w.heap.size 34 (spc noS) (spc noS) (by rfl) (by rfl) HX.out rfl (by rw [hi, hz]) hzo ?_; intro w9 hF9 hO9)
  refine bodyPost_ret_by (results_super Try.results15 _ _ w.heap.size _ _ hz (by rfl) hF9 (by rfl)) rfl ⟨by rw [EB.out]; rfl, hO9.below (Nat.le_refl _) (B1.out)⟩

theorem mark_of (s : ByteArray) (h00 : 0 < s.size) (c : UInt8) (h1 : s.data.toList.headD 0 = c) : s[0] = c := by
  rw [list_cons s h00] at h1
  exact h1

set_option maxHeartbeats 1000000 in
set_option maxRecDepth 100000 in
theorem rgsuper_sum (s : ByteArray) (h0 : 226 ≤ s.size) (_hs : s.size ≤ maxLen) (h1 : s.data.toList.headD 0 = 83) (h2 : s.data.toList.take 113 ≠ piece s.data.toList 113 113) (w : World) :
    Calls Try.prog 15 #[.string s] w fun e w' => e = .returned (.tuple #[.agg (spc (gotS s.data.toList).1).toArray, .int .i64 ((gotS s.data.toList).2 : Nat)]) ∧ Below w.heap.size w w' := by
  have hz : (spc noS).length = 70 := spc_length noS_fits
  have hzo := spc_one noS
  have hi := info_super
  have hu := Try.underlying34
  have zv := zero_super
  have HX := Lib.hid (Has.make w 34 (spc noS))
  have B1 := Lib.hid (up_alloc (Below.refl w.heap.size w) (.cells (spc noS).toArray 34))
  have EB := Lib.hid (gotS_no (errS_sum (l := s.data.toList) (by rw [list_size]; exact h0) h1 h2) (by decide))
  have h00 : 0 < s.size := by omega
  have d0 : ((s[0].toNat : Int) != 83) = false := by rw [mark_of s h00 _ h1]; decide
  have i0 : (0 : Int) < (s.size : Int) := by omega
  have i1 : ¬ (s.size : Int) < 226 := by omega
  have i2 : (226 : Int) ≤ (s.size : Int) := by omega
  have i3 : (113 : Int) ≤ (s.size : Int) := by omega
  have d1 : ((s.extract 0 113).toList == (s.extract 113 226).toList) = false := other_text (by rw [head_of, extract_mid]; exact text_inj h2)
  clear h1 h2
  go_enter Try.func15, Try.ntmps15
  go_wp2_with fail
  generalize hw1 : w.alloc (Obj.cells _ _) = w1
  replace HX : Hid (Has w1 w.heap.size 34 (spc noS)) := by rw [← hw1]; exact HX
  replace B1 : Hid (Below w.heap.size w w1) := by rw [← hw1]; exact B1
  clear hw1
  refine wp_region_held_drew (S := fun _ => True) (by kernel_rfl) (trivial) (fun hHeld => ?_)
  refine wpAnyH_take (i := 0) (v := ?_) rfl (by kernel_rfl) (by kernel_rfl) (by kernel_rfl) (fun _ _ _ h => h) (Or.inl ⟨by rfl, ?_⟩) (by assumption) ?_
  rotate_left
  · intro w hSw; (try dsimp only at hSw); go_simp; try with_reducible rfl
  try simp only [Act.put, List.getElem_toArray, List.getElem_cons_zero, List.setIfInBounds_toArray, List.set_cons_zero, List.set_cons_succ]
  refine wpAnyH_take (i := 1) (v := ?_) rfl (by kernel_rfl) (by kernel_rfl) (by kernel_rfl) (fun _ _ _ h => h) (Or.inl ⟨by rfl, ?_⟩) (by assumption) ?_
  rotate_left
  · intro w hSw; (try dsimp only at hSw); go_simp; try with_reducible rfl
  try simp only [Act.put, List.getElem_toArray, List.getElem_cons_zero, List.getElem_cons_succ, List.setIfInBounds_toArray, List.set_cons_zero, List.set_cons_succ]
  refine wpAnyH_take (i := 2) (v := ?_) rfl (by kernel_rfl) (by kernel_rfl) (by kernel_rfl) (fun _ _ _ h => h) (Or.inl ⟨by rfl, ?_⟩) (by assumption) ?_
  rotate_left
  · intro w hSw; (try dsimp only at hSw); go_simp; try with_reducible rfl
  try simp only [Act.put, List.getElem_toArray, List.getElem_cons_zero, List.getElem_cons_succ, List.setIfInBounds_toArray, List.set_cons_zero, List.set_cons_succ]
  refine wpAnyH_take (i := 3) (v := ?_) rfl (by kernel_rfl) (by kernel_rfl) (by kernel_rfl) (fun _ _ _ h => h) (Or.inl ⟨by rfl, ?_⟩) (by assumption) ?_
  rotate_left
  · intro w hSw; (try dsimp only at hSw); go_simp; try with_reducible rfl
  try simp only [Act.put, List.getElem_toArray, List.getElem_cons_zero, List.getElem_cons_succ, List.setIfInBounds_toArray, List.set_cons_zero, List.set_cons_succ]
  refine wpAnyH_take (i := 4) (v := ?_) rfl (by kernel_rfl) (by kernel_rfl) (by kernel_rfl) (fun _ _ _ h => h) (Or.inl ⟨by rfl, ?_⟩) (by assumption) ?_
  rotate_left
  · intro w hSw; (try dsimp only at hSw); go_simp; try with_reducible rfl
  try simp only [Act.put, List.getElem_toArray, List.getElem_cons_zero, List.getElem_cons_succ, List.setIfInBounds_toArray, List.set_cons_zero, List.set_cons_succ]
  refine wpAnyH_done (by kernel_rfl) ?_ _
  go_wp2_with (refine wpList_store_whole rfl 34 _ _ rfl w.heap.size 34 (spc noS) (spc noS) (by rfl) (by rfl) HX.out.drew rfl (by rw [hi, hz]) hzo ?_; intro w9 hF9 hO9)
  refine bodyPost_ret_by (results_super Try.results15 _ _ w.heap.size _ _ hz (by rfl) hF9 (by rfl)) rfl ⟨by rw [EB.out]; rfl, hO9.below (Nat.le_refl _) (up_trans B1.out (Below.refl w1.heap.size w1).drew)⟩

theorem spc_put3 (x : Sp) (hx : x.anchor.length = 32) (A : List UInt8) : (spc x).take 3 ++ bys A ++ (spc x).drop (3 + 32) = spc { x with anchor := A } := by
  have h : (bys x.anchor).length = 32 := by rw [bys_length, hx]
  show [_, _, _] ++ bys A ++ (bys x.anchor ++ _).drop 32 = _
  rw [List.drop_left' h]
  rfl
theorem spc_put38 (x : Sp) (hx : x.anchor.length = 32) (hs : x.sum.length = 32) (D : List UInt8) : (spc x).take 38 ++ bys D ++ (spc x).drop (38 + 32) = spc { x with sum := D } := by
  have h : (bys x.anchor).length = 32 := by rw [bys_length, hx]
  have p1 : (spc x).take 38 = .int .u64 (x.epoch : Nat) :: .int .u64 (x.tail : Nat) :: .int .u64 (x.first : Nat) :: (bys x.anchor ++ [.int .u64 (x.id : Nat), .int .u64 (x.fin : Nat), .int .u64 (x.next : Nat)]) := by
    show _ :: _ :: _ :: (bys x.anchor ++ _).take 35 = _
    rw [show (35 : Nat) = (bys x.anchor).length + 3 by omega, List.take_length_add_append]
    rfl
  have p2 : (spc x).drop (38 + 32) = [] := by
    rw [List.drop_eq_nil_iff]
    simp [spc, bys_length, hx, hs]
  rw [p1, p2]
  simp [spc]

set_option maxHeartbeats 4000000 in
set_option maxRecDepth 100000 in
theorem rgsuper_ok (s : ByteArray) (h0 : 226 ≤ s.size) (hs : s.size ≤ maxLen) (h1 : s.data.toList.headD 0 = 83) (h2 : s.data.toList.take 113 = piece s.data.toList 113 113) (w : World) :
    Calls Try.prog 15 #[.string s] w fun e w' => e = .returned (.tuple #[.agg (spc (gotS s.data.toList).1).toArray, .int .i64 ((gotS s.data.toList).2 : Nat)]) ∧ Below w.heap.size w w' := by
  have hz : (spc noS).length = 70 := spc_length noS_fits
  have hzo := spc_one noS
  have hi := info_super
  have hu := Try.underlying34
  have zv := zero_super
  have HX := Lib.hid (Has.make w 34 (spc noS))
  have B1 := Lib.hid (up_alloc (Below.refl w.heap.size w) (.cells (spc noS).toArray 34))
  have hl := list_size s
  have EB := Lib.hid (gotS_ok (errS_ok (l := s.data.toList) (by omega) h1 h2))
  have h00 : 0 < s.size := by omega
  have d0 : ((s[0].toNat : Int) != 83) = false := by rw [mark_of s h00 _ h1]; decide
  have i0 : (0 : Int) < (s.size : Int) := by omega
  have i1 : ¬ (s.size : Int) < 226 := by omega
  have i2 : (226 : Int) ≤ (s.size : Int) := by omega
  have i3 : (113 : Int) ≤ (s.size : Int) := by omega
  have d1 : ((s.extract 0 113).toList == (s.extract 113 226).toList) = true := same_text (by rw [head_of, extract_mid, h2]; rfl)
  unfold maxLen at hs
  have j1 : (1 : Int) ≤ (s.size : Int) := by omega
  have j9 : (9 : Int) ≤ (s.size : Int) := by omega
  have j17 : (17 : Int) ≤ (s.size : Int) := by omega
  have j25 : (25 : Int) ≤ (s.size : Int) := by omega
  have j33 : (33 : Int) ≤ (s.size : Int) := by omega
  have j41 : (41 : Int) ≤ (s.size : Int) := by omega
  have j49 : (49 : Int) ≤ (s.size : Int) := by omega
  have j81 : (81 : Int) ≤ (s.size : Int) := by omega
  have c1 := fun w => rnumber_any (s.extract 1 s.size) (by rw [back_of, text_list, List.length_drop]; omega) (by rw [back_of, text_list, List.length_drop]; unfold maxLen; omega) w
  rw [show (s.extract 1 s.size).data.toList.take 8 = piece s.data.toList 1 8 by rw [back_of]; rfl] at c1
  rw [show be (piece s.data.toList 1 8) = num8 s.data.toList 1 from rfl] at c1
  have C1 := Lib.hid c1
  clear c1
  have c2 := fun w => rnumber_any (s.extract 9 s.size) (by rw [back_of, text_list, List.length_drop]; omega) (by rw [back_of, text_list, List.length_drop]; unfold maxLen; omega) w
  rw [show (s.extract 9 s.size).data.toList.take 8 = piece s.data.toList 9 8 by rw [back_of]; rfl] at c2
  rw [show be (piece s.data.toList 9 8) = num8 s.data.toList 9 from rfl] at c2
  have C2 := Lib.hid c2
  clear c2
  have c3 := fun w => rnumber_any (s.extract 17 s.size) (by rw [back_of, text_list, List.length_drop]; omega) (by rw [back_of, text_list, List.length_drop]; unfold maxLen; omega) w
  rw [show (s.extract 17 s.size).data.toList.take 8 = piece s.data.toList 17 8 by rw [back_of]; rfl] at c3
  rw [show be (piece s.data.toList 17 8) = num8 s.data.toList 17 from rfl] at c3
  have C3 := Lib.hid c3
  clear c3
  have c4 := fun w => rnumber_any (s.extract 25 s.size) (by rw [back_of, text_list, List.length_drop]; omega) (by rw [back_of, text_list, List.length_drop]; unfold maxLen; omega) w
  rw [show (s.extract 25 s.size).data.toList.take 8 = piece s.data.toList 25 8 by rw [back_of]; rfl] at c4
  rw [show be (piece s.data.toList 25 8) = num8 s.data.toList 25 from rfl] at c4
  have C4 := Lib.hid c4
  clear c4
  have c5 := fun w => rnumber_any (s.extract 33 s.size) (by rw [back_of, text_list, List.length_drop]; omega) (by rw [back_of, text_list, List.length_drop]; unfold maxLen; omega) w
  rw [show (s.extract 33 s.size).data.toList.take 8 = piece s.data.toList 33 8 by rw [back_of]; rfl] at c5
  rw [show be (piece s.data.toList 33 8) = num8 s.data.toList 33 from rfl] at c5
  have C5 := Lib.hid c5
  clear c5
  have c6 := fun w => rnumber_any (s.extract 41 s.size) (by rw [back_of, text_list, List.length_drop]; omega) (by rw [back_of, text_list, List.length_drop]; unfold maxLen; omega) w
  rw [show (s.extract 41 s.size).data.toList.take 8 = piece s.data.toList 41 8 by rw [back_of]; rfl] at c6
  rw [show be (piece s.data.toList 41 8) = num8 s.data.toList 41 from rfl] at c6
  have C6 := Lib.hid c6
  clear c6
  have c7 := fun w => rsum_any (s.extract 49 s.size) (by rw [back_of, text_list, List.length_drop]; omega) (by rw [back_of, text_list, List.length_drop]; unfold maxLen; omega) w
  rw [show (s.extract 49 s.size).data.toList.take 32 = piece s.data.toList 49 32 by rw [back_of]; rfl] at c7
  have C7 := Lib.hid c7
  clear c7
  have c8 := fun w => rsum_any (s.extract 81 s.size) (by rw [back_of, text_list, List.length_drop]; omega) (by rw [back_of, text_list, List.length_drop]; unfold maxLen; omega) w
  rw [show (s.extract 81 s.size).data.toList.take 32 = piece s.data.toList 81 32 by rw [back_of]; rfl] at c8
  have C8 := Lib.hid c8
  clear c8
  have hfit := decS_fits (l := s.data.toList) (by omega)
  have hcl := spc_length hfit
  have hdi := info_digest
  have l7 : (bys (piece s.data.toList 49 32)).length = 32 := by rw [bys_length, piece_length (by omega)]
  have l8 : (bys (piece s.data.toList 81 32)).length = 32 := by rw [bys_length, piece_length (by omega)]
  have hp1 : (spc ⟨num8 s.data.toList 1, num8 s.data.toList 9, num8 s.data.toList 17, z32, num8 s.data.toList 25, num8 s.data.toList 33, num8 s.data.toList 41, z32⟩).length = 70 := by simp [spc, bys_length, z32_length]
  have F7 := Lib.hid (spc_put3 ⟨num8 s.data.toList 1, num8 s.data.toList 9, num8 s.data.toList 17, z32, num8 s.data.toList 25, num8 s.data.toList 33, num8 s.data.toList 41, z32⟩ z32_length (piece s.data.toList 49 32))
  have F8 := Lib.hid (show _ = spc (decS s.data.toList) from spc_put38 ⟨num8 s.data.toList 1, num8 s.data.toList 9, num8 s.data.toList 17, piece s.data.toList 49 32, num8 s.data.toList 25, num8 s.data.toList 33, num8 s.data.toList 41, z32⟩ (piece_length (by omega)) z32_length (piece s.data.toList 81 32))
  have hp2 : (spc ⟨num8 s.data.toList 1, num8 s.data.toList 9, num8 s.data.toList 17, piece s.data.toList 49 32, num8 s.data.toList 25, num8 s.data.toList 33, num8 s.data.toList 41, z32⟩).length = 70 := by simp [spc, bys_length, z32_length, piece_length (l := s.data.toList) (a := 49) (n := 32) (by omega)]
  have ho1 := spc_one ⟨num8 s.data.toList 1, num8 s.data.toList 9, num8 s.data.toList 17, z32, num8 s.data.toList 25, num8 s.data.toList 33, num8 s.data.toList 41, z32⟩
  have BU := Lib.hid (built_super (num8 s.data.toList 1) (num8 s.data.toList 9) (num8 s.data.toList 17) (num8 s.data.toList 25) (num8 s.data.toList 33) (num8 s.data.toList 41))
  generalize spc ⟨num8 s.data.toList 1, num8 s.data.toList 9, num8 s.data.toList 17, z32, num8 s.data.toList 25, num8 s.data.toList 33, num8 s.data.toList 41, z32⟩ = L1 at *
  generalize num8 s.data.toList 1 = n1 at *
  generalize num8 s.data.toList 9 = n2 at *
  generalize num8 s.data.toList 17 = n3 at *
  generalize num8 s.data.toList 25 = n4 at *
  generalize num8 s.data.toList 33 = n5 at *
  generalize num8 s.data.toList 41 = n6 at *
  clear h1 h2 h0 hl hfit
  go_enter Try.func15, Try.ntmps15
  go_wp2_with fail
  generalize hw1 : w.alloc (Obj.cells _ _) = w1
  replace HX : Hid (Has w1 w.heap.size 34 (spc noS)) := by rw [← hw1]; exact HX
  replace B1 : Hid (Below w.heap.size w w1) := by rw [← hw1]; exact B1
  clear hw1
  refine wp_region_held_drew (S := fun _ => True) (by kernel_rfl) (trivial) (fun hHeld => ?_)
  refine wpAnyH_take (i := 0) (v := ?_) rfl (by kernel_rfl) (by kernel_rfl) (by kernel_rfl) (fun _ _ _ h => h) (Or.inl ⟨by rfl, ?_⟩) (by assumption) ?_
  rotate_left
  · intro w hSw; (try dsimp only at hSw); go_simp; try with_reducible rfl
  try simp only [Act.put, List.getElem_toArray, List.getElem_cons_zero, List.setIfInBounds_toArray, List.set_cons_zero, List.set_cons_succ]
  refine wpAnyH_take (i := 1) (v := ?_) rfl (by kernel_rfl) (by kernel_rfl) (by kernel_rfl) (fun _ _ _ h => h) (Or.inl ⟨by rfl, ?_⟩) (by assumption) ?_
  rotate_left
  · intro w hSw; (try dsimp only at hSw); go_simp; try with_reducible rfl
  try simp only [Act.put, List.getElem_toArray, List.getElem_cons_zero, List.getElem_cons_succ, List.setIfInBounds_toArray, List.set_cons_zero, List.set_cons_succ]
  refine wpAnyH_take (i := 2) (v := ?_) rfl (by kernel_rfl) (by kernel_rfl) (by kernel_rfl) (fun _ _ _ h => h) (Or.inl ⟨by rfl, ?_⟩) (by assumption) ?_
  rotate_left
  · intro w hSw; (try dsimp only at hSw); go_simp; try with_reducible rfl
  try simp only [Act.put, List.getElem_toArray, List.getElem_cons_zero, List.getElem_cons_succ, List.setIfInBounds_toArray, List.set_cons_zero, List.set_cons_succ]
  refine wpAnyH_take (i := 3) (v := ?_) rfl (by kernel_rfl) (by kernel_rfl) (by kernel_rfl) (fun _ _ _ h => h) (Or.inl ⟨by rfl, ?_⟩) (by assumption) ?_
  rotate_left
  · intro w hSw; (try dsimp only at hSw); go_simp; try with_reducible rfl
  try simp only [Act.put, List.getElem_toArray, List.getElem_cons_zero, List.getElem_cons_succ, List.setIfInBounds_toArray, List.set_cons_zero, List.set_cons_succ]
  refine wpAnyH_take (i := 4) (v := ?_) rfl (by kernel_rfl) (by kernel_rfl) (by kernel_rfl) (fun _ _ _ h => h) (Or.inl ⟨by rfl, ?_⟩) (by assumption) ?_
  rotate_left
  · intro w hSw; (try dsimp only at hSw); go_simp; try with_reducible rfl
  try simp only [Act.put, List.getElem_toArray, List.getElem_cons_zero, List.getElem_cons_succ, List.setIfInBounds_toArray, List.set_cons_zero, List.set_cons_succ]
  refine wpAnyH_done (by kernel_rfl) ?_ _
  replace HX := Lib.hid HX.out.drew
  replace B1 := Lib.hid (up_trans B1.out (Below.refl w1.heap.size w1).drew)
  clear hHeld
  have hlt : w.heap.size < w1.drew.heap.size := HX.out.lt
  generalize w1.drew = w1 at *
  go_upto_region 7 with fail
  go_cut [4] (fun v wx => ∃ GG : Nat, v = .pointer (some ⟨GG, 0, none⟩) ∧ Has wx GG 34 L1 ∧ Has wx w.heap.size 34 (spc noS) ∧ w.heap.size ≠ GG ∧ w.heap.size ≤ GG ∧ Below w.heap.size w wx)
  case first =>
    refine wp_region_held_drew (S := fun _ => True) (by kernel_rfl) (trivial) (fun hHeld => ?_)
    refine wpAnyH_take (i := 0) (v := ?_) rfl (by kernel_rfl) (by kernel_rfl) (by kernel_rfl) (fun _ _ _ h => h) (Or.inl ⟨by rfl, ?_⟩) (by assumption) ?_
    rotate_left
    · intro w hSw; (try dsimp only at hSw); go_simp; try with_reducible rfl
    try simp only [Act.put, List.getElem_toArray, List.getElem_cons_zero, List.setIfInBounds_toArray, List.set_cons_zero, List.set_cons_succ]
    refine wpAnyH_take (i := 1) (v := ?_) rfl (by kernel_rfl) (by kernel_rfl) (by kernel_rfl) (fun _ _ _ h => h) (Or.inl ⟨by rfl, ?_⟩) (by assumption) ?_
    rotate_left
    · intro w hSw; (try dsimp only at hSw); go_simp; try with_reducible rfl
    try simp only [Act.put, List.getElem_toArray, List.getElem_cons_zero, List.getElem_cons_succ, List.setIfInBounds_toArray, List.set_cons_zero, List.set_cons_succ]
    refine wpAnyH_take (i := 3) (v := ?_) rfl (by kernel_rfl) (by kernel_rfl) (by kernel_rfl) (fun _ _ _ h => h) (Or.inl ⟨by rfl, ?_⟩) (by assumption) ?_
    rotate_left
    · intro w hSw; (try dsimp only at hSw); go_simp; try with_reducible rfl
    try simp only [Act.put, List.getElem_toArray, List.getElem_cons_zero, List.getElem_cons_succ, List.setIfInBounds_toArray, List.set_cons_zero, List.set_cons_succ]
    refine wpAnyH_take (i := 4) (v := ?_) rfl (by kernel_rfl) (by kernel_rfl) (by kernel_rfl) (fun _ _ _ h => h) (Or.inl ⟨by rfl, ?_⟩) (by assumption) ?_
    rotate_left
    · intro w hSw; (try dsimp only at hSw); go_simp; try with_reducible rfl
    try simp only [Act.put, List.getElem_toArray, List.getElem_cons_zero, List.getElem_cons_succ, List.setIfInBounds_toArray, List.set_cons_zero, List.set_cons_succ]
    refine wpAnyH_take (i := 6) (v := ?_) rfl (by kernel_rfl) (by kernel_rfl) (by kernel_rfl) (fun _ _ _ h => h) (Or.inl ⟨by rfl, ?_⟩) (by assumption) ?_
    rotate_left
    · intro w hSw; (try dsimp only at hSw); go_simp; try with_reducible rfl
    try simp only [Act.put, List.getElem_toArray, List.getElem_cons_zero, List.getElem_cons_succ, List.setIfInBounds_toArray, List.set_cons_zero, List.set_cons_succ]
    refine wpAnyH_take (i := 7) (v := ?_) rfl (by kernel_rfl) (by kernel_rfl) (by kernel_rfl) (fun _ _ _ h => h) (Or.inl ⟨by rfl, ?_⟩) (by assumption) ?_
    rotate_left
    · intro w hSw; (try dsimp only at hSw); go_simp; try with_reducible rfl
    try simp only [Act.put, List.getElem_toArray, List.getElem_cons_zero, List.getElem_cons_succ, List.setIfInBounds_toArray, List.set_cons_zero, List.set_cons_succ]
    refine wpAnyH_take (i := 9) (v := ?_) rfl (by kernel_rfl) (by kernel_rfl) (by kernel_rfl) (fun _ _ _ h => h) (Or.inl ⟨by rfl, ?_⟩) (by assumption) ?_
    rotate_left
    · intro w hSw; (try dsimp only at hSw); go_simp; try with_reducible rfl
    try simp only [Act.put, List.getElem_toArray, List.getElem_cons_zero, List.getElem_cons_succ, List.setIfInBounds_toArray, List.set_cons_zero, List.set_cons_succ]
    refine wpAnyH_take (i := 10) (v := ?_) rfl (by kernel_rfl) (by kernel_rfl) (by kernel_rfl) (fun _ _ _ h => h) (Or.inl ⟨by rfl, ?_⟩) (by assumption) ?_
    rotate_left
    · intro w hSw; (try dsimp only at hSw); go_simp; try with_reducible rfl
    try simp only [Act.put, List.getElem_toArray, List.getElem_cons_zero, List.getElem_cons_succ, List.setIfInBounds_toArray, List.set_cons_zero, List.set_cons_succ]
    refine wpAnyH_take (i := 12) (v := ?_) rfl (by kernel_rfl) (by kernel_rfl) (by kernel_rfl) (fun _ _ _ h => h) (Or.inl ⟨by rfl, ?_⟩) (by assumption) ?_
    rotate_left
    · intro w hSw; (try dsimp only at hSw); go_simp; try with_reducible rfl
    try simp only [Act.put, List.getElem_toArray, List.getElem_cons_zero, List.getElem_cons_succ, List.setIfInBounds_toArray, List.set_cons_zero, List.set_cons_succ]
    refine wpAnyH_take (i := 13) (v := ?_) rfl (by kernel_rfl) (by kernel_rfl) (by kernel_rfl) (fun _ _ _ h => h) (Or.inl ⟨by rfl, ?_⟩) (by assumption) ?_
    rotate_left
    · intro w hSw; (try dsimp only at hSw); go_simp; try with_reducible rfl
    try simp only [Act.put, List.getElem_toArray, List.getElem_cons_zero, List.getElem_cons_succ, List.setIfInBounds_toArray, List.set_cons_zero, List.set_cons_succ]
    refine wpAnyH_take (i := 15) (v := ?_) rfl (by kernel_rfl) (by kernel_rfl) (by kernel_rfl) (fun _ _ _ h => h) (Or.inl ⟨by rfl, ?_⟩) (by assumption) ?_
    rotate_left
    · intro w hSw; (try dsimp only at hSw); go_simp; try with_reducible rfl
    try simp only [Act.put, List.getElem_toArray, List.getElem_cons_zero, List.getElem_cons_succ, List.setIfInBounds_toArray, List.set_cons_zero, List.set_cons_succ]
    refine wpAnyH_take (i := 16) (v := ?_) rfl (by kernel_rfl) (by kernel_rfl) (by kernel_rfl) (fun _ _ _ h => h) (Or.inl ⟨by rfl, ?_⟩) (by assumption) ?_
    rotate_left
    · intro w hSw; (try dsimp only at hSw); go_simp; try with_reducible rfl
    try simp only [Act.put, List.getElem_toArray, List.getElem_cons_zero, List.getElem_cons_succ, List.setIfInBounds_toArray, List.set_cons_zero, List.set_cons_succ]
    refine wpAnyH_ready (rs := [2, 19]) (by kernel_rfl) (by simp) (AllReadyH.cons rfl (fun K hK => ?_) (AllReadyH.cons rfl (fun K hK => ?_) AllReadyH.nil))
    · skip
      go_simp
      refine (C1.out _).mono ?_; rintro e wn ⟨rfl, hbn'⟩
      have hbn : Below w1.heap.size w1 wn := up_trans (Below.refl _ _).drew hbn'
      clear hbn'
      go_wp2_with fail
      refine hK.out _ _ (trivial) (fun hHeld => ?_)
      clear hK K
      try simp only [Act.put, List.getElem_toArray, List.getElem_cons_zero, List.getElem_cons_succ, List.setIfInBounds_toArray, List.set_cons_zero, List.set_cons_succ]
      refine wpAnyH_ready (rs := [5, 19]) (by kernel_rfl) (by simp) (AllReadyH.cons rfl (fun K hK => ?_) (AllReadyH.cons rfl (fun K hK => ?_) AllReadyH.nil))
      · skip
        go_simp
        refine (C2.out _).mono ?_; rintro e wn ⟨rfl, hbn'⟩
        replace hbn : Below w1.heap.size w1 wn := up_trans hbn hbn'
        clear hbn'
        go_wp2_with fail
        refine hK.out _ _ (trivial) (fun hHeld => ?_)
        clear hK K
        try simp only [Act.put, List.getElem_toArray, List.getElem_cons_zero, List.getElem_cons_succ, List.setIfInBounds_toArray, List.set_cons_zero, List.set_cons_succ]
        refine wpAnyH_ready (rs := [8, 19]) (by kernel_rfl) (by simp) (AllReadyH.cons rfl (fun K hK => ?_) (AllReadyH.cons rfl (fun K hK => ?_) AllReadyH.nil))
        · skip
          go_simp
          refine (C3.out _).mono ?_; rintro e wn ⟨rfl, hbn'⟩
          replace hbn : Below w1.heap.size w1 wn := up_trans hbn hbn'
          clear hbn'
          go_wp2_with fail
          refine hK.out _ _ (trivial) (fun hHeld => ?_)
          clear hK K
          try simp only [Act.put, List.getElem_toArray, List.getElem_cons_zero, List.getElem_cons_succ, List.setIfInBounds_toArray, List.set_cons_zero, List.set_cons_succ]
          refine wpAnyH_ready (rs := [11, 19]) (by kernel_rfl) (by simp) (AllReadyH.cons rfl (fun K hK => ?_) (AllReadyH.cons rfl (fun K hK => ?_) AllReadyH.nil))
          · skip
            go_simp
            refine (C4.out _).mono ?_; rintro e wn ⟨rfl, hbn'⟩
            replace hbn : Below w1.heap.size w1 wn := up_trans hbn hbn'
            clear hbn'
            go_wp2_with fail
            refine hK.out _ _ (trivial) (fun hHeld => ?_)
            clear hK K
            try simp only [Act.put, List.getElem_toArray, List.getElem_cons_zero, List.getElem_cons_succ, List.setIfInBounds_toArray, List.set_cons_zero, List.set_cons_succ]
            refine wpAnyH_ready (rs := [14, 19]) (by kernel_rfl) (by simp) (AllReadyH.cons rfl (fun K hK => ?_) (AllReadyH.cons rfl (fun K hK => ?_) AllReadyH.nil))
            · skip
              go_simp
              refine (C5.out _).mono ?_; rintro e wn ⟨rfl, hbn'⟩
              replace hbn : Below w1.heap.size w1 wn := up_trans hbn hbn'
              clear hbn'
              go_wp2_with fail
              refine hK.out _ _ (trivial) (fun hHeld => ?_)
              clear hK K
              try simp only [Act.put, List.getElem_toArray, List.getElem_cons_zero, List.getElem_cons_succ, List.setIfInBounds_toArray, List.set_cons_zero, List.set_cons_succ]
              refine wpAnyH_ready (rs := [17, 19]) (by kernel_rfl) (by simp) (AllReadyH.cons rfl (fun K hK => ?_) (AllReadyH.cons rfl (fun K hK => ?_) AllReadyH.nil))
              · skip
                go_simp
                refine (C6.out _).mono ?_; rintro e wn ⟨rfl, hbn'⟩
                replace hbn : Below w1.heap.size w1 wn := up_trans hbn hbn'
                clear hbn'
                go_wp2_with fail
                refine hK.out _ _ (trivial) (fun hHeld => ?_)
                clear hK K
                try simp only [Act.put, List.getElem_toArray, List.getElem_cons_zero, List.getElem_cons_succ, List.setIfInBounds_toArray, List.set_cons_zero, List.set_cons_succ]
                refine wpAnyH_take (i := 18) (v := .agg L1.toArray) rfl (by kernel_rfl) (by kernel_rfl) (by kernel_rfl) (fun _ _ _ h => h) (yieldsIf_built (by rfl) 34 #[(0, .tmp 21), (1, .tmp 24), (2, .tmp 27), (4, .tmp 30), (5, .tmp 33), (6, .tmp 36)] (by rfl) L1.toArray (by exact BU.out)) (by assumption) ?_
                try simp only [Act.put, List.getElem_toArray, List.getElem_cons_zero, List.getElem_cons_succ, List.setIfInBounds_toArray, List.set_cons_zero, List.set_cons_succ]
                refine wpAnyH_ready (rs := [19]) (by kernel_rfl) (by simp) (AllReadyH.cons rfl (fun K hK => ?_) AllReadyH.nil)
                go_simp
                refine hK.out _ _ (trivial) (fun hHeld => ?_)
                clear hK K
                try simp only [Act.put, List.getElem_toArray, List.getElem_cons_zero, List.getElem_cons_succ, List.setIfInBounds_toArray, List.set_cons_zero, List.set_cons_succ]
                generalize hGG : wn.heap.size = GG
                have hge : w1.heap.size ≤ GG := by rw [← hGG]; exact hbn.size
                have HG : Hid (Has (wn.alloc (.cells (spc noS).toArray 34)) GG 34 (spc noS)) := Lib.hid (by rw [← hGG]; exact Has.make wn 34 (spc noS))
                clear hGG
                refine wpAnyH_ready (rs := [20]) (by kernel_rfl) (by simp) (AllReadyH.cons rfl (fun K hK => ?_) AllReadyH.nil)
                refine wp_store_whole 34 _ _ rfl GG 34 (spc noS) L1 (by rfl) (by rfl) HG.out (by rw [hp1, hz]) (by rw [hi, hp1]) ho1 ?_
                intro w9 hF9 hO9
                replace HG := Lib.hid hF9
                replace HX := Lib.hid (hO9.keep (by omega) (HX.out.up (up_alloc hbn _)))
                replace B1 := Lib.hid (hO9.below (by omega) (up_trans B1.out (up_alloc hbn _)))
                clear hF9 hO9
                refine hK.out _ _ (trivial) (fun hHeld => ?_)
                clear hK K
                try simp only [Act.put, List.getElem_toArray, List.getElem_cons_zero, List.getElem_cons_succ]
                refine wpAnyH_done (by kernel_rfl) ?_ _
                clear hHeld
                go_wp2_with fail
                go_meet
                exact ⟨GG, rfl, HG.out, HX.out, by omega, by omega, B1.out⟩
              · skip
                go_simp
                refine hK.out _ _ (trivial) (fun hHeld => ?_)
                clear hK K
                try simp only [Act.put, List.getElem_toArray, List.getElem_cons_zero, List.getElem_cons_succ, List.setIfInBounds_toArray, List.set_cons_zero, List.set_cons_succ]
                generalize hGG : wn.heap.size = GG
                have hge : w1.heap.size ≤ GG := by rw [← hGG]; exact hbn.size
                have HG : Hid (Has (wn.alloc (.cells (spc noS).toArray 34)) GG 34 (spc noS)) := Lib.hid (by rw [← hGG]; exact Has.make wn 34 (spc noS))
                clear hGG
                refine wpAnyH_ready (rs := [17]) (by kernel_rfl) (by simp) (AllReadyH.cons rfl (fun K hK => ?_) AllReadyH.nil)
                go_simp
                refine (C6.out _).mono ?_; rintro e wn ⟨rfl, hbn'⟩
                replace hbn : Below w1.heap.size w1 wn := up_trans (up_alloc hbn _) hbn'
                replace HG := Lib.hid (HG.out.up hbn')
                clear hbn'
                go_wp2_with fail
                refine hK.out _ _ (trivial) (fun hHeld => ?_)
                clear hK K
                try simp only [Act.put, List.getElem_toArray, List.getElem_cons_zero, List.getElem_cons_succ, List.setIfInBounds_toArray, List.set_cons_zero, List.set_cons_succ]
                refine wpAnyH_take (i := 18) (v := .agg L1.toArray) rfl (by kernel_rfl) (by kernel_rfl) (by kernel_rfl) (fun _ _ _ h => h) (yieldsIf_built (by rfl) 34 #[(0, .tmp 21), (1, .tmp 24), (2, .tmp 27), (4, .tmp 30), (5, .tmp 33), (6, .tmp 36)] (by rfl) L1.toArray (by exact BU.out)) (by assumption) ?_
                try simp only [Act.put, List.getElem_toArray, List.getElem_cons_zero, List.getElem_cons_succ, List.setIfInBounds_toArray, List.set_cons_zero, List.set_cons_succ]
                refine wpAnyH_ready (rs := [20]) (by kernel_rfl) (by simp) (AllReadyH.cons rfl (fun K hK => ?_) AllReadyH.nil)
                refine wp_store_whole 34 _ _ rfl GG 34 (spc noS) L1 (by rfl) (by rfl) HG.out (by rw [hp1, hz]) (by rw [hi, hp1]) ho1 ?_
                intro w9 hF9 hO9
                replace HG := Lib.hid hF9
                replace HX := Lib.hid (hO9.keep (by omega) (HX.out.up hbn))
                replace B1 := Lib.hid (hO9.below (by omega) (up_trans B1.out hbn))
                clear hF9 hO9
                refine hK.out _ _ (trivial) (fun hHeld => ?_)
                clear hK K
                try simp only [Act.put, List.getElem_toArray, List.getElem_cons_zero, List.getElem_cons_succ]
                refine wpAnyH_done (by kernel_rfl) ?_ _
                clear hHeld
                go_wp2_with fail
                go_meet
                exact ⟨GG, rfl, HG.out, HX.out, by omega, by omega, B1.out⟩
            · skip
              go_simp
              refine hK.out _ _ (trivial) (fun hHeld => ?_)
              clear hK K
              try simp only [Act.put, List.getElem_toArray, List.getElem_cons_zero, List.getElem_cons_succ, List.setIfInBounds_toArray, List.set_cons_zero, List.set_cons_succ]
              generalize hGG : wn.heap.size = GG
              have hge : w1.heap.size ≤ GG := by rw [← hGG]; exact hbn.size
              have HG : Hid (Has (wn.alloc (.cells (spc noS).toArray 34)) GG 34 (spc noS)) := Lib.hid (by rw [← hGG]; exact Has.make wn 34 (spc noS))
              clear hGG
              refine wpAnyH_ready (rs := [14]) (by kernel_rfl) (by simp) (AllReadyH.cons rfl (fun K hK => ?_) AllReadyH.nil)
              go_simp
              refine (C5.out _).mono ?_; rintro e wn ⟨rfl, hbn'⟩
              replace hbn : Below w1.heap.size w1 wn := up_trans (up_alloc hbn _) hbn'
              replace HG := Lib.hid (HG.out.up hbn')
              clear hbn'
              go_wp2_with fail
              refine hK.out _ _ (trivial) (fun hHeld => ?_)
              clear hK K
              try simp only [Act.put, List.getElem_toArray, List.getElem_cons_zero, List.getElem_cons_succ, List.setIfInBounds_toArray, List.set_cons_zero, List.set_cons_succ]
              refine wpAnyH_ready (rs := [17]) (by kernel_rfl) (by simp) (AllReadyH.cons rfl (fun K hK => ?_) AllReadyH.nil)
              go_simp
              refine (C6.out _).mono ?_; rintro e wn ⟨rfl, hbn'⟩
              replace hbn : Below w1.heap.size w1 wn := up_trans hbn hbn'
              replace HG := Lib.hid (HG.out.up hbn')
              clear hbn'
              go_wp2_with fail
              refine hK.out _ _ (trivial) (fun hHeld => ?_)
              clear hK K
              try simp only [Act.put, List.getElem_toArray, List.getElem_cons_zero, List.getElem_cons_succ, List.setIfInBounds_toArray, List.set_cons_zero, List.set_cons_succ]
              refine wpAnyH_take (i := 18) (v := .agg L1.toArray) rfl (by kernel_rfl) (by kernel_rfl) (by kernel_rfl) (fun _ _ _ h => h) (yieldsIf_built (by rfl) 34 #[(0, .tmp 21), (1, .tmp 24), (2, .tmp 27), (4, .tmp 30), (5, .tmp 33), (6, .tmp 36)] (by rfl) L1.toArray (by exact BU.out)) (by assumption) ?_
              try simp only [Act.put, List.getElem_toArray, List.getElem_cons_zero, List.getElem_cons_succ, List.setIfInBounds_toArray, List.set_cons_zero, List.set_cons_succ]
              refine wpAnyH_ready (rs := [20]) (by kernel_rfl) (by simp) (AllReadyH.cons rfl (fun K hK => ?_) AllReadyH.nil)
              refine wp_store_whole 34 _ _ rfl GG 34 (spc noS) L1 (by rfl) (by rfl) HG.out (by rw [hp1, hz]) (by rw [hi, hp1]) ho1 ?_
              intro w9 hF9 hO9
              replace HG := Lib.hid hF9
              replace HX := Lib.hid (hO9.keep (by omega) (HX.out.up hbn))
              replace B1 := Lib.hid (hO9.below (by omega) (up_trans B1.out hbn))
              clear hF9 hO9
              refine hK.out _ _ (trivial) (fun hHeld => ?_)
              clear hK K
              try simp only [Act.put, List.getElem_toArray, List.getElem_cons_zero, List.getElem_cons_succ]
              refine wpAnyH_done (by kernel_rfl) ?_ _
              clear hHeld
              go_wp2_with fail
              go_meet
              exact ⟨GG, rfl, HG.out, HX.out, by omega, by omega, B1.out⟩
          · skip
            go_simp
            refine hK.out _ _ (trivial) (fun hHeld => ?_)
            clear hK K
            try simp only [Act.put, List.getElem_toArray, List.getElem_cons_zero, List.getElem_cons_succ, List.setIfInBounds_toArray, List.set_cons_zero, List.set_cons_succ]
            generalize hGG : wn.heap.size = GG
            have hge : w1.heap.size ≤ GG := by rw [← hGG]; exact hbn.size
            have HG : Hid (Has (wn.alloc (.cells (spc noS).toArray 34)) GG 34 (spc noS)) := Lib.hid (by rw [← hGG]; exact Has.make wn 34 (spc noS))
            clear hGG
            refine wpAnyH_ready (rs := [11]) (by kernel_rfl) (by simp) (AllReadyH.cons rfl (fun K hK => ?_) AllReadyH.nil)
            go_simp
            refine (C4.out _).mono ?_; rintro e wn ⟨rfl, hbn'⟩
            replace hbn : Below w1.heap.size w1 wn := up_trans (up_alloc hbn _) hbn'
            replace HG := Lib.hid (HG.out.up hbn')
            clear hbn'
            go_wp2_with fail
            refine hK.out _ _ (trivial) (fun hHeld => ?_)
            clear hK K
            try simp only [Act.put, List.getElem_toArray, List.getElem_cons_zero, List.getElem_cons_succ, List.setIfInBounds_toArray, List.set_cons_zero, List.set_cons_succ]
            refine wpAnyH_ready (rs := [14]) (by kernel_rfl) (by simp) (AllReadyH.cons rfl (fun K hK => ?_) AllReadyH.nil)
            go_simp
            refine (C5.out _).mono ?_; rintro e wn ⟨rfl, hbn'⟩
            replace hbn : Below w1.heap.size w1 wn := up_trans hbn hbn'
            replace HG := Lib.hid (HG.out.up hbn')
            clear hbn'
            go_wp2_with fail
            refine hK.out _ _ (trivial) (fun hHeld => ?_)
            clear hK K
            try simp only [Act.put, List.getElem_toArray, List.getElem_cons_zero, List.getElem_cons_succ, List.setIfInBounds_toArray, List.set_cons_zero, List.set_cons_succ]
            refine wpAnyH_ready (rs := [17]) (by kernel_rfl) (by simp) (AllReadyH.cons rfl (fun K hK => ?_) AllReadyH.nil)
            go_simp
            refine (C6.out _).mono ?_; rintro e wn ⟨rfl, hbn'⟩
            replace hbn : Below w1.heap.size w1 wn := up_trans hbn hbn'
            replace HG := Lib.hid (HG.out.up hbn')
            clear hbn'
            go_wp2_with fail
            refine hK.out _ _ (trivial) (fun hHeld => ?_)
            clear hK K
            try simp only [Act.put, List.getElem_toArray, List.getElem_cons_zero, List.getElem_cons_succ, List.setIfInBounds_toArray, List.set_cons_zero, List.set_cons_succ]
            refine wpAnyH_take (i := 18) (v := .agg L1.toArray) rfl (by kernel_rfl) (by kernel_rfl) (by kernel_rfl) (fun _ _ _ h => h) (yieldsIf_built (by rfl) 34 #[(0, .tmp 21), (1, .tmp 24), (2, .tmp 27), (4, .tmp 30), (5, .tmp 33), (6, .tmp 36)] (by rfl) L1.toArray (by exact BU.out)) (by assumption) ?_
            try simp only [Act.put, List.getElem_toArray, List.getElem_cons_zero, List.getElem_cons_succ, List.setIfInBounds_toArray, List.set_cons_zero, List.set_cons_succ]
            refine wpAnyH_ready (rs := [20]) (by kernel_rfl) (by simp) (AllReadyH.cons rfl (fun K hK => ?_) AllReadyH.nil)
            refine wp_store_whole 34 _ _ rfl GG 34 (spc noS) L1 (by rfl) (by rfl) HG.out (by rw [hp1, hz]) (by rw [hi, hp1]) ho1 ?_
            intro w9 hF9 hO9
            replace HG := Lib.hid hF9
            replace HX := Lib.hid (hO9.keep (by omega) (HX.out.up hbn))
            replace B1 := Lib.hid (hO9.below (by omega) (up_trans B1.out hbn))
            clear hF9 hO9
            refine hK.out _ _ (trivial) (fun hHeld => ?_)
            clear hK K
            try simp only [Act.put, List.getElem_toArray, List.getElem_cons_zero, List.getElem_cons_succ]
            refine wpAnyH_done (by kernel_rfl) ?_ _
            clear hHeld
            go_wp2_with fail
            go_meet
            exact ⟨GG, rfl, HG.out, HX.out, by omega, by omega, B1.out⟩
        · skip
          go_simp
          refine hK.out _ _ (trivial) (fun hHeld => ?_)
          clear hK K
          try simp only [Act.put, List.getElem_toArray, List.getElem_cons_zero, List.getElem_cons_succ, List.setIfInBounds_toArray, List.set_cons_zero, List.set_cons_succ]
          generalize hGG : wn.heap.size = GG
          have hge : w1.heap.size ≤ GG := by rw [← hGG]; exact hbn.size
          have HG : Hid (Has (wn.alloc (.cells (spc noS).toArray 34)) GG 34 (spc noS)) := Lib.hid (by rw [← hGG]; exact Has.make wn 34 (spc noS))
          clear hGG
          refine wpAnyH_ready (rs := [8]) (by kernel_rfl) (by simp) (AllReadyH.cons rfl (fun K hK => ?_) AllReadyH.nil)
          go_simp
          refine (C3.out _).mono ?_; rintro e wn ⟨rfl, hbn'⟩
          replace hbn : Below w1.heap.size w1 wn := up_trans (up_alloc hbn _) hbn'
          replace HG := Lib.hid (HG.out.up hbn')
          clear hbn'
          go_wp2_with fail
          refine hK.out _ _ (trivial) (fun hHeld => ?_)
          clear hK K
          try simp only [Act.put, List.getElem_toArray, List.getElem_cons_zero, List.getElem_cons_succ, List.setIfInBounds_toArray, List.set_cons_zero, List.set_cons_succ]
          refine wpAnyH_ready (rs := [11]) (by kernel_rfl) (by simp) (AllReadyH.cons rfl (fun K hK => ?_) AllReadyH.nil)
          go_simp
          refine (C4.out _).mono ?_; rintro e wn ⟨rfl, hbn'⟩
          replace hbn : Below w1.heap.size w1 wn := up_trans hbn hbn'
          replace HG := Lib.hid (HG.out.up hbn')
          clear hbn'
          go_wp2_with fail
          refine hK.out _ _ (trivial) (fun hHeld => ?_)
          clear hK K
          try simp only [Act.put, List.getElem_toArray, List.getElem_cons_zero, List.getElem_cons_succ, List.setIfInBounds_toArray, List.set_cons_zero, List.set_cons_succ]
          refine wpAnyH_ready (rs := [14]) (by kernel_rfl) (by simp) (AllReadyH.cons rfl (fun K hK => ?_) AllReadyH.nil)
          go_simp
          refine (C5.out _).mono ?_; rintro e wn ⟨rfl, hbn'⟩
          replace hbn : Below w1.heap.size w1 wn := up_trans hbn hbn'
          replace HG := Lib.hid (HG.out.up hbn')
          clear hbn'
          go_wp2_with fail
          refine hK.out _ _ (trivial) (fun hHeld => ?_)
          clear hK K
          try simp only [Act.put, List.getElem_toArray, List.getElem_cons_zero, List.getElem_cons_succ, List.setIfInBounds_toArray, List.set_cons_zero, List.set_cons_succ]
          refine wpAnyH_ready (rs := [17]) (by kernel_rfl) (by simp) (AllReadyH.cons rfl (fun K hK => ?_) AllReadyH.nil)
          go_simp
          refine (C6.out _).mono ?_; rintro e wn ⟨rfl, hbn'⟩
          replace hbn : Below w1.heap.size w1 wn := up_trans hbn hbn'
          replace HG := Lib.hid (HG.out.up hbn')
          clear hbn'
          go_wp2_with fail
          refine hK.out _ _ (trivial) (fun hHeld => ?_)
          clear hK K
          try simp only [Act.put, List.getElem_toArray, List.getElem_cons_zero, List.getElem_cons_succ, List.setIfInBounds_toArray, List.set_cons_zero, List.set_cons_succ]
          refine wpAnyH_take (i := 18) (v := .agg L1.toArray) rfl (by kernel_rfl) (by kernel_rfl) (by kernel_rfl) (fun _ _ _ h => h) (yieldsIf_built (by rfl) 34 #[(0, .tmp 21), (1, .tmp 24), (2, .tmp 27), (4, .tmp 30), (5, .tmp 33), (6, .tmp 36)] (by rfl) L1.toArray (by exact BU.out)) (by assumption) ?_
          try simp only [Act.put, List.getElem_toArray, List.getElem_cons_zero, List.getElem_cons_succ, List.setIfInBounds_toArray, List.set_cons_zero, List.set_cons_succ]
          refine wpAnyH_ready (rs := [20]) (by kernel_rfl) (by simp) (AllReadyH.cons rfl (fun K hK => ?_) AllReadyH.nil)
          refine wp_store_whole 34 _ _ rfl GG 34 (spc noS) L1 (by rfl) (by rfl) HG.out (by rw [hp1, hz]) (by rw [hi, hp1]) ho1 ?_
          intro w9 hF9 hO9
          replace HG := Lib.hid hF9
          replace HX := Lib.hid (hO9.keep (by omega) (HX.out.up hbn))
          replace B1 := Lib.hid (hO9.below (by omega) (up_trans B1.out hbn))
          clear hF9 hO9
          refine hK.out _ _ (trivial) (fun hHeld => ?_)
          clear hK K
          try simp only [Act.put, List.getElem_toArray, List.getElem_cons_zero, List.getElem_cons_succ]
          refine wpAnyH_done (by kernel_rfl) ?_ _
          clear hHeld
          go_wp2_with fail
          go_meet
          exact ⟨GG, rfl, HG.out, HX.out, by omega, by omega, B1.out⟩
      · skip
        go_simp
        refine hK.out _ _ (trivial) (fun hHeld => ?_)
        clear hK K
        try simp only [Act.put, List.getElem_toArray, List.getElem_cons_zero, List.getElem_cons_succ, List.setIfInBounds_toArray, List.set_cons_zero, List.set_cons_succ]
        generalize hGG : wn.heap.size = GG
        have hge : w1.heap.size ≤ GG := by rw [← hGG]; exact hbn.size
        have HG : Hid (Has (wn.alloc (.cells (spc noS).toArray 34)) GG 34 (spc noS)) := Lib.hid (by rw [← hGG]; exact Has.make wn 34 (spc noS))
        clear hGG
        refine wpAnyH_ready (rs := [5]) (by kernel_rfl) (by simp) (AllReadyH.cons rfl (fun K hK => ?_) AllReadyH.nil)
        go_simp
        refine (C2.out _).mono ?_; rintro e wn ⟨rfl, hbn'⟩
        replace hbn : Below w1.heap.size w1 wn := up_trans (up_alloc hbn _) hbn'
        replace HG := Lib.hid (HG.out.up hbn')
        clear hbn'
        go_wp2_with fail
        refine hK.out _ _ (trivial) (fun hHeld => ?_)
        clear hK K
        try simp only [Act.put, List.getElem_toArray, List.getElem_cons_zero, List.getElem_cons_succ, List.setIfInBounds_toArray, List.set_cons_zero, List.set_cons_succ]
        refine wpAnyH_ready (rs := [8]) (by kernel_rfl) (by simp) (AllReadyH.cons rfl (fun K hK => ?_) AllReadyH.nil)
        go_simp
        refine (C3.out _).mono ?_; rintro e wn ⟨rfl, hbn'⟩
        replace hbn : Below w1.heap.size w1 wn := up_trans hbn hbn'
        replace HG := Lib.hid (HG.out.up hbn')
        clear hbn'
        go_wp2_with fail
        refine hK.out _ _ (trivial) (fun hHeld => ?_)
        clear hK K
        try simp only [Act.put, List.getElem_toArray, List.getElem_cons_zero, List.getElem_cons_succ, List.setIfInBounds_toArray, List.set_cons_zero, List.set_cons_succ]
        refine wpAnyH_ready (rs := [11]) (by kernel_rfl) (by simp) (AllReadyH.cons rfl (fun K hK => ?_) AllReadyH.nil)
        go_simp
        refine (C4.out _).mono ?_; rintro e wn ⟨rfl, hbn'⟩
        replace hbn : Below w1.heap.size w1 wn := up_trans hbn hbn'
        replace HG := Lib.hid (HG.out.up hbn')
        clear hbn'
        go_wp2_with fail
        refine hK.out _ _ (trivial) (fun hHeld => ?_)
        clear hK K
        try simp only [Act.put, List.getElem_toArray, List.getElem_cons_zero, List.getElem_cons_succ, List.setIfInBounds_toArray, List.set_cons_zero, List.set_cons_succ]
        refine wpAnyH_ready (rs := [14]) (by kernel_rfl) (by simp) (AllReadyH.cons rfl (fun K hK => ?_) AllReadyH.nil)
        go_simp
        refine (C5.out _).mono ?_; rintro e wn ⟨rfl, hbn'⟩
        replace hbn : Below w1.heap.size w1 wn := up_trans hbn hbn'
        replace HG := Lib.hid (HG.out.up hbn')
        clear hbn'
        go_wp2_with fail
        refine hK.out _ _ (trivial) (fun hHeld => ?_)
        clear hK K
        try simp only [Act.put, List.getElem_toArray, List.getElem_cons_zero, List.getElem_cons_succ, List.setIfInBounds_toArray, List.set_cons_zero, List.set_cons_succ]
        refine wpAnyH_ready (rs := [17]) (by kernel_rfl) (by simp) (AllReadyH.cons rfl (fun K hK => ?_) AllReadyH.nil)
        go_simp
        refine (C6.out _).mono ?_; rintro e wn ⟨rfl, hbn'⟩
        replace hbn : Below w1.heap.size w1 wn := up_trans hbn hbn'
        replace HG := Lib.hid (HG.out.up hbn')
        clear hbn'
        go_wp2_with fail
        refine hK.out _ _ (trivial) (fun hHeld => ?_)
        clear hK K
        try simp only [Act.put, List.getElem_toArray, List.getElem_cons_zero, List.getElem_cons_succ, List.setIfInBounds_toArray, List.set_cons_zero, List.set_cons_succ]
        refine wpAnyH_take (i := 18) (v := .agg L1.toArray) rfl (by kernel_rfl) (by kernel_rfl) (by kernel_rfl) (fun _ _ _ h => h) (yieldsIf_built (by rfl) 34 #[(0, .tmp 21), (1, .tmp 24), (2, .tmp 27), (4, .tmp 30), (5, .tmp 33), (6, .tmp 36)] (by rfl) L1.toArray (by exact BU.out)) (by assumption) ?_
        try simp only [Act.put, List.getElem_toArray, List.getElem_cons_zero, List.getElem_cons_succ, List.setIfInBounds_toArray, List.set_cons_zero, List.set_cons_succ]
        refine wpAnyH_ready (rs := [20]) (by kernel_rfl) (by simp) (AllReadyH.cons rfl (fun K hK => ?_) AllReadyH.nil)
        refine wp_store_whole 34 _ _ rfl GG 34 (spc noS) L1 (by rfl) (by rfl) HG.out (by rw [hp1, hz]) (by rw [hi, hp1]) ho1 ?_
        intro w9 hF9 hO9
        replace HG := Lib.hid hF9
        replace HX := Lib.hid (hO9.keep (by omega) (HX.out.up hbn))
        replace B1 := Lib.hid (hO9.below (by omega) (up_trans B1.out hbn))
        clear hF9 hO9
        refine hK.out _ _ (trivial) (fun hHeld => ?_)
        clear hK K
        try simp only [Act.put, List.getElem_toArray, List.getElem_cons_zero, List.getElem_cons_succ]
        refine wpAnyH_done (by kernel_rfl) ?_ _
        clear hHeld
        go_wp2_with fail
        go_meet
        exact ⟨GG, rfl, HG.out, HX.out, by omega, by omega, B1.out⟩
    · skip
      go_simp
      refine hK.out _ _ (trivial) (fun hHeld => ?_)
      clear hK K
      try simp only [Act.put, List.getElem_toArray, List.getElem_cons_zero, List.getElem_cons_succ, List.setIfInBounds_toArray, List.set_cons_zero, List.set_cons_succ]
      generalize hGG : w1.heap.size = GG
      have hge : w1.heap.size ≤ GG := by omega
      have HG : Hid (Has (w1.drew.alloc (.cells (spc noS).toArray 34)) GG 34 (spc noS)) := Lib.hid (by rw [← hGG]; exact Has.make w1.drew 34 (spc noS))
      clear hGG
      refine wpAnyH_ready (rs := [2]) (by kernel_rfl) (by simp) (AllReadyH.cons rfl (fun K hK => ?_) AllReadyH.nil)
      go_simp
      refine (C1.out _).mono ?_; rintro e wn ⟨rfl, hbn'⟩
      replace hbn : Below w1.heap.size w1 wn := up_trans (up_alloc (Below.refl _ _).drew _) hbn'
      replace HG := Lib.hid (HG.out.up hbn')
      clear hbn'
      go_wp2_with fail
      refine hK.out _ _ (trivial) (fun hHeld => ?_)
      clear hK K
      try simp only [Act.put, List.getElem_toArray, List.getElem_cons_zero, List.getElem_cons_succ, List.setIfInBounds_toArray, List.set_cons_zero, List.set_cons_succ]
      refine wpAnyH_ready (rs := [5]) (by kernel_rfl) (by simp) (AllReadyH.cons rfl (fun K hK => ?_) AllReadyH.nil)
      go_simp
      refine (C2.out _).mono ?_; rintro e wn ⟨rfl, hbn'⟩
      replace hbn : Below w1.heap.size w1 wn := up_trans hbn hbn'
      replace HG := Lib.hid (HG.out.up hbn')
      clear hbn'
      go_wp2_with fail
      refine hK.out _ _ (trivial) (fun hHeld => ?_)
      clear hK K
      try simp only [Act.put, List.getElem_toArray, List.getElem_cons_zero, List.getElem_cons_succ, List.setIfInBounds_toArray, List.set_cons_zero, List.set_cons_succ]
      refine wpAnyH_ready (rs := [8]) (by kernel_rfl) (by simp) (AllReadyH.cons rfl (fun K hK => ?_) AllReadyH.nil)
      go_simp
      refine (C3.out _).mono ?_; rintro e wn ⟨rfl, hbn'⟩
      replace hbn : Below w1.heap.size w1 wn := up_trans hbn hbn'
      replace HG := Lib.hid (HG.out.up hbn')
      clear hbn'
      go_wp2_with fail
      refine hK.out _ _ (trivial) (fun hHeld => ?_)
      clear hK K
      try simp only [Act.put, List.getElem_toArray, List.getElem_cons_zero, List.getElem_cons_succ, List.setIfInBounds_toArray, List.set_cons_zero, List.set_cons_succ]
      refine wpAnyH_ready (rs := [11]) (by kernel_rfl) (by simp) (AllReadyH.cons rfl (fun K hK => ?_) AllReadyH.nil)
      go_simp
      refine (C4.out _).mono ?_; rintro e wn ⟨rfl, hbn'⟩
      replace hbn : Below w1.heap.size w1 wn := up_trans hbn hbn'
      replace HG := Lib.hid (HG.out.up hbn')
      clear hbn'
      go_wp2_with fail
      refine hK.out _ _ (trivial) (fun hHeld => ?_)
      clear hK K
      try simp only [Act.put, List.getElem_toArray, List.getElem_cons_zero, List.getElem_cons_succ, List.setIfInBounds_toArray, List.set_cons_zero, List.set_cons_succ]
      refine wpAnyH_ready (rs := [14]) (by kernel_rfl) (by simp) (AllReadyH.cons rfl (fun K hK => ?_) AllReadyH.nil)
      go_simp
      refine (C5.out _).mono ?_; rintro e wn ⟨rfl, hbn'⟩
      replace hbn : Below w1.heap.size w1 wn := up_trans hbn hbn'
      replace HG := Lib.hid (HG.out.up hbn')
      clear hbn'
      go_wp2_with fail
      refine hK.out _ _ (trivial) (fun hHeld => ?_)
      clear hK K
      try simp only [Act.put, List.getElem_toArray, List.getElem_cons_zero, List.getElem_cons_succ, List.setIfInBounds_toArray, List.set_cons_zero, List.set_cons_succ]
      refine wpAnyH_ready (rs := [17]) (by kernel_rfl) (by simp) (AllReadyH.cons rfl (fun K hK => ?_) AllReadyH.nil)
      go_simp
      refine (C6.out _).mono ?_; rintro e wn ⟨rfl, hbn'⟩
      replace hbn : Below w1.heap.size w1 wn := up_trans hbn hbn'
      replace HG := Lib.hid (HG.out.up hbn')
      clear hbn'
      go_wp2_with fail
      refine hK.out _ _ (trivial) (fun hHeld => ?_)
      clear hK K
      try simp only [Act.put, List.getElem_toArray, List.getElem_cons_zero, List.getElem_cons_succ, List.setIfInBounds_toArray, List.set_cons_zero, List.set_cons_succ]
      refine wpAnyH_take (i := 18) (v := .agg L1.toArray) rfl (by kernel_rfl) (by kernel_rfl) (by kernel_rfl) (fun _ _ _ h => h) (yieldsIf_built (by rfl) 34 #[(0, .tmp 21), (1, .tmp 24), (2, .tmp 27), (4, .tmp 30), (5, .tmp 33), (6, .tmp 36)] (by rfl) L1.toArray (by exact BU.out)) (by assumption) ?_
      try simp only [Act.put, List.getElem_toArray, List.getElem_cons_zero, List.getElem_cons_succ, List.setIfInBounds_toArray, List.set_cons_zero, List.set_cons_succ]
      refine wpAnyH_ready (rs := [20]) (by kernel_rfl) (by simp) (AllReadyH.cons rfl (fun K hK => ?_) AllReadyH.nil)
      refine wp_store_whole 34 _ _ rfl GG 34 (spc noS) L1 (by rfl) (by rfl) HG.out (by rw [hp1, hz]) (by rw [hi, hp1]) ho1 ?_
      intro w9 hF9 hO9
      replace HG := Lib.hid hF9
      replace HX := Lib.hid (hO9.keep (by omega) (HX.out.up hbn))
      replace B1 := Lib.hid (hO9.below (by omega) (up_trans B1.out hbn))
      clear hF9 hO9
      refine hK.out _ _ (trivial) (fun hHeld => ?_)
      clear hK K
      try simp only [Act.put, List.getElem_toArray, List.getElem_cons_zero, List.getElem_cons_succ]
      refine wpAnyH_done (by kernel_rfl) ?_ _
      clear hHeld
      go_wp2_with fail
      go_meet
      exact ⟨GG, rfl, HG.out, HX.out, by omega, by omega, B1.out⟩
  case rest =>
    obtain ⟨GG, rfl, hG, hX, hne, hge, hB⟩ := hcut
    replace HX := Lib.hid hX
    replace B1 := Lib.hid hB
    have HG := Lib.hid hG
    clear hG hX hB
    go_wp2_with fail
    refine (C7.out _).mono ?_; rintro e w10 ⟨rfl, b10⟩
    replace HG := Lib.hid (HG.out.up b10)
    replace HX := Lib.hid (HX.out.up b10)
    replace B1 := Lib.hid (up_trans B1.out b10)
    clear b10
    go_wp2_with (refine wpList_store_part rfl 24 _ _ rfl GG 3 34 L1 (bys (piece s.data.toList 49 32)) (by rfl) (by rfl) HG.out (by rw [hp1, l7]; omega) (by rw [hdi, l7]) (bys_one _) ?_; intro w11 hF11 hO11)
    rw [l7, F7.out] at hF11
    replace HG := Lib.hid hF11
    replace HX := Lib.hid (hO11.keep (by omega) HX.out)
    replace B1 := Lib.hid (hO11.below (by omega) B1.out)
    clear hF11 hO11
    refine (C8.out _).mono ?_; rintro e w12 ⟨rfl, b12⟩
    replace HG := Lib.hid (HG.out.up b12)
    replace HX := Lib.hid (HX.out.up b12)
    replace B1 := Lib.hid (up_trans B1.out b12)
    clear b12
    go_wp2_with (first
      | (refine wpList_store_part rfl 24 _ _ rfl GG 38 34 _ (bys (piece s.data.toList 81 32)) (by rfl) (by rfl) HG.out (by rw [hp2, l8]; omega) (by rw [hdi, l8]) (bys_one _) ?_; intro w13 hF13 hO13; rw [l8, F8.out] at hF13)
      | (refine wpList_load_row rfl 34 _ rfl GG (by rfl) _ _ _ _ hF13 hu rfl (by rw [hi, List.size_toArray, hcl]) ?_)
      | (refine wpList_store_whole rfl 34 _ _ rfl w.heap.size 34 (spc noS) (spc (decS s.data.toList)) (by rfl) (by rfl) (hO13.keep (by omega) HX.out) (by rw [hcl, hz]) (by rw [hi, hcl]) (spc_one _) ?_; intro w14 hF14 hO14))
    refine bodyPost_ret_by (results_super Try.results15 _ _ w.heap.size _ _ hcl (by rfl) hF14 (by rfl)) rfl ⟨by rw [EB.out]; rfl, hO14.below (Nat.le_refl _) (hO13.below (by omega) B1.out)⟩


theorem rgsuper_any (s : ByteArray) (hs : s.size ≤ maxLen) (w : World) :
    Calls Try.prog 15 #[.string s] w fun e w' => e = .returned (.tuple #[.agg (spc (gotS s.data.toList).1).toArray, .int .i64 ((gotS s.data.toList).2 : Nat)]) ∧ Below w.heap.size w w' := by
  by_cases h0 : s.size < 226
  · exact rgsuper_few s h0 w
  by_cases h1 : s.data.toList.headD 0 = 83
  · by_cases h2 : s.data.toList.take 113 = piece s.data.toList 113 113
    · exact rgsuper_ok s (by omega) hs h1 h2 w
    · exact rgsuper_sum s (by omega) hs h1 h2 w
  · exact rgsuper_mark s (by omega) h1 w

end Go.Proofs.Ytfnjegjieglbbaa
