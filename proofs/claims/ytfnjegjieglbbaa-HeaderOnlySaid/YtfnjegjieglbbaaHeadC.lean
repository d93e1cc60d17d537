/- Heads and supers, read from bytes: the contracts of header.GetHead and header.GetSuper. -/
import Derived.Test.YtfnjegjieglbbaaHeadB
namespace Go.Proofs.Ytfnjegjieglbbaa
open Go.RowKit Wire Crc Head

theorem results_cell_one {fn : Func} {p u : Tmp} {ty : TypeId} (h : fn.results = #[.cell p ty, .tmp u]) (tmps : Array Value) (P : Program) (w : World) :
    (results fn tmps).run P w = ((asAddr (tmps.getD p undef)).run P w).andThen fun a w₁ => ((loadVar ty a).run P w₁).andThen fun x w₂ => .ok (.tuple #[x, tmps.getD u undef]) w₂ := by
  simp only [results, h]
  simp [Sem.run_bind, Result.andThen]

/-- The results of a function that gives a head, or a super, and a number. -/
theorem results_head {fn : Func} {p u : Tmp} (h : fn.results = #[.cell p 26, .tmp u]) (tmps : Array Value) (w : World) (g : Nat) (L : List Value) (x : Value)
    (hL : L.length = 34) (hp : tmps.getD p undef = .pointer (some ⟨g, 0, none⟩)) (hB : Has w g 26 L) (hv : tmps.getD u undef = x) :
    (results fn tmps).run Try.prog w = .ok (.tuple #[.agg L.toArray, x]) w := by
  have h1 := run_loadVar_row (P := Try.prog) w g 26 26 L.toArray (0, 0) _ hB Try.underlying26 rfl (by rw [List.size_toArray, hL, info_head])
  rw [results_cell_one h, hp, hv]
  simp [asAddr, h1]
theorem results_super {fn : Func} {p u : Tmp} (h : fn.results = #[.cell p 34, .tmp u]) (tmps : Array Value) (w : World) (g : Nat) (L : List Value) (x : Value)
    (hL : L.length = 70) (hp : tmps.getD p undef = .pointer (some ⟨g, 0, none⟩)) (hB : Has w g 34 L) (hv : tmps.getD u undef = x) :
    (results fn tmps).run Try.prog w = .ok (.tuple #[.agg L.toArray, x]) w := by
  have h1 := run_loadVar_row (P := Try.prog) w g 34 34 L.toArray (0, 0) _ hB Try.underlying34 rfl (by rw [List.size_toArray, hL, info_super])
  rw [results_cell_one h, hp, hv]
  simp [asAddr, h1]

/-- A super that has not been written. -/
theorem zero_super (w : World) : (zeroValue 34).run Try.prog w = .ok (.agg (spc noS).toArray) w := by
  have h : (Try.prog.info? 34).map (·.zero) = some (some (.agg (spc noS).toArray)) := by kernel_rfl
  obtain ⟨i, hi, hz⟩ := Option.map_eq_some_iff.1 h
  simp [zeroValue, typeInfo, hi, hz]

theorem rest_piece {l : List UInt8} {n a m : Nat} (h : a + m ≤ n) : (((l.drop 1).take n).drop a).take m = piece l (1 + a) m := by
  rw [piece, List.drop_take, List.take_take, List.drop_drop, Nat.min_eq_left (by omega)]
theorem take_piece {l : List UInt8} {n a m : Nat} (h : a + m ≤ n) : ((l.take n).drop a).take m = piece l a m := by
  rw [piece, List.drop_take, List.take_take, Nat.min_eq_left (by omega)]
theorem drop_bys (l : List UInt8) (n : Nat) : (bys l).drop n = bys (l.drop n) := by simp [bys, List.map_drop]

/-- The places of a head, filled. -/
theorem filledH (l r : List UInt8) (hr : r = (l.drop 1).take 59) (_hl : 64 ≤ l.length) : setD (setN (hdc noH) [0, 1] r) [2] (r.drop 16) = hdc (decH l) := by
  have e1 : r.take 8 = piece l 1 8 := by have := rest_piece (l := l) (n := 59) (a := 0) (m := 8) (by omega); rw [hr]; exact this
  have e2 : (r.drop 8).take 8 = piece l 9 8 := by rw [hr, rest_piece (by omega)]
  have e3 : (r.drop 16).take 32 = piece l 17 32 := by rw [hr, rest_piece (by omega)]
  have z : (bys z32).drop 32 = [] := by rw [List.drop_eq_nil_iff, bys_length, z32_length]; omega
  simp only [setN, setD, e1, e2, e3]
  show [_, _] ++ bys (piece l 17 32) ++ (bys z32).drop 32 = _
  rw [z, List.append_nil]
  rfl

/-- The places of a super, filled. -/
theorem filledS (l r : List UInt8) (hr : r = (l.drop 1).take 112) (hl : 226 ≤ l.length) : setD (setN (spc noS) [0, 1, 2, 35, 36, 37] r) [3, 38] (r.drop 48) = spc (decS l) := by
  have e1 : r.take 8 = piece l 1 8 := by have := rest_piece (l := l) (n := 112) (a := 0) (m := 8) (by omega); rw [hr]; exact this
  have e2 : (r.drop 8).take 8 = piece l 9 8 := by rw [hr, rest_piece (by omega)]
  have e3 : (r.drop 16).take 8 = piece l 17 8 := by rw [hr, rest_piece (by omega)]
  have e4 : (r.drop 24).take 8 = piece l 25 8 := by rw [hr, rest_piece (by omega)]
  have e5 : (r.drop 32).take 8 = piece l 33 8 := by rw [hr, rest_piece (by omega)]
  have e6 : (r.drop 40).take 8 = piece l 41 8 := by rw [hr, rest_piece (by omega)]
  have e7 : (r.drop 48).take 32 = piece l 49 32 := by rw [hr, rest_piece (by omega)]
  have e8 : (r.drop 80).take 32 = piece l 81 32 := by rw [hr, rest_piece (by omega)]
  have h7 : (bys (piece l 49 32)).length = 32 := by rw [bys_length, piece_length (by omega)]
  have hz : (bys z32).length = 32 := by rw [bys_length, z32_length]
  have z : ∀ t, (bys z32 ++ t).drop 32 = t := fun t => by rw [List.drop_left' hz]
  have z2 : (bys z32).drop 32 = [] := by rw [List.drop_eq_nil_iff]; omega
  have S : setN (spc noS) [0, 1, 2, 35, 36, 37] r = .int .u64 (num8 l 1 : Nat) :: .int .u64 (num8 l 9 : Nat) :: .int .u64 (num8 l 17 : Nat) :: (bys z32 ++ (.int .u64 (num8 l 25 : Nat) :: .int .u64 (num8 l 33 : Nat) :: .int .u64 (num8 l 41 : Nat) :: bys z32)) := by
    simp only [setN, List.drop_drop, e1, e2, e3, e4, e5, e6, Nat.reduceAdd]
    have s : ∀ (t : List Value) (k : Nat) (v : Value), (bys z32 ++ t).set (32 + k) v = bys z32 ++ t.set k v := fun t k v => by
      rw [List.set_append_right _ _ (by omega), hz, Nat.add_sub_cancel_left]
    show _ :: _ :: _ :: (((bys z32 ++ _).set (32 + 0) _).set (32 + 1) _).set (32 + 2) _ = _
    rw [s, s, s]
    rfl
  rw [S]
  simp only [setD, List.drop_drop, e7, e8, Nat.reduceAdd]
  have t1 : ∀ (a b c : Value) (t : List Value), (a :: b :: c :: (bys z32 ++ t)).take 3 ++ bys (piece l 49 32) ++ (a :: b :: c :: (bys z32 ++ t)).drop (3 + 32) = a :: b :: c :: (bys (piece l 49 32) ++ t) := fun a b c t => by
    show [a, b, c] ++ bys (piece l 49 32) ++ (bys z32 ++ t).drop 32 = _
    rw [z]; rfl
  rw [show (35 : Nat) = 3 + 32 from rfl, t1]
  have t2 : ∀ (a b c d e f : Value), (a :: b :: c :: (bys (piece l 49 32) ++ d :: e :: f :: bys z32)).take 38 ++ bys (piece l 81 32) ++ (a :: b :: c :: (bys (piece l 49 32) ++ d :: e :: f :: bys z32)).drop 70 = a :: b :: c :: (bys (piece l 49 32) ++ d :: e :: f :: bys (piece l 81 32)) := fun a b c d e f => by
    have p1 : (a :: b :: c :: (bys (piece l 49 32) ++ d :: e :: f :: bys z32)).take 38 = a :: b :: c :: (bys (piece l 49 32) ++ [d, e, f]) := by
      show a :: b :: c :: (bys (piece l 49 32) ++ d :: e :: f :: bys z32).take 35 = _
      rw [show (35 : Nat) = (bys (piece l 49 32)).length + 3 by omega, List.take_length_add_append]
      rfl
    have p2 : (a :: b :: c :: (bys (piece l 49 32) ++ d :: e :: f :: bys z32)).drop 70 = [] := by
      rw [List.drop_eq_nil_iff]
      simp [bys_length, z32_length, piece_length (l := l) (a := 49) (n := 32) (by omega)]
    rw [p1, p2]
    simp
  rw [t2]
  rfl

theorem same_text {x y : ByteArray} (h : x = y) : (x.toList == y.toList) = true := by rw [h]; simp
theorem other_text {x y : ByteArray} (h : x ≠ y) : (x.toList == y.toList) = false := by
  rw [beq_eq_false_iff_ne]
  intro he
  refine h ?_
  rw [ByteArray.toList_eq, ByteArray.toList_eq] at he
  exact ByteArray.ext (Array.toList_inj.1 he)
theorem list_of (l : List UInt8) : (⟨l.toArray⟩ : ByteArray).toList = l := by rw [ByteArray.toList_eq]
theorem other_list {x : ByteArray} {l : List UInt8} (h : x.data.toList ≠ l) : (x.toList == l) = false := by
  rw [beq_eq_false_iff_ne, ByteArray.toList_eq]
  exact h
theorem same_list {x : ByteArray} {l : List UInt8} (h : x.data.toList = l) : (x.toList == l) = true := by
  rw [beq_iff_eq, ByteArray.toList_eq]
  exact h
theorem text_inj {l m : List UInt8} (h : l ≠ m) : (⟨l.toArray⟩ : ByteArray) ≠ ⟨m.toArray⟩ := by
  intro he
  refine h ?_
  have := congrArg (fun s : ByteArray => s.data.toList) he
  simpa using this

set_option maxHeartbeats 1000000 in
set_option maxRecDepth 100000 in
theorem ggotH_mark (s : ByteArray) (hs : s.size ≤ maxLen) (k : Nat) (hk : k ≠ 0) (hm : markL s.data.toList 64 72 = ([], k)) (he : gotH s.data.toList = (noH, k)) (w : World) :
    Calls Try.prog 9 #[.string s] w fun e w' => e = .returned (.tuple #[.agg (hdc (gotH s.data.toList).1).toArray, .int .i64 ((gotH s.data.toList).2 : Nat)]) ∧ Below w.heap.size w w' := by
  have hz : (hdc noH).length = 34 := hdc_length noH_fits
  have hzo := hdc_one noH
  have hi := info_head
  have hu := Try.underlying26
  have HX := Lib.hid (Has.make w 26 (hdc noH))
  have B1 := Lib.hid (up_alloc (Below.refl w.heap.size w) (.cells (hdc noH).toArray 26))
  have c : ∀ w, Calls Try.prog 19 #[.string s, .int .i64 64, .int .u8 72] w _ := fun w => marked_any s hs 64 (by omega) (by omega) 72 w
  rw [hm] at c
  have C := Lib.hid c
  have EB := Lib.hid he
  have d1 : ((k : Int) == 0) = false := by rw [beq_eq_false_iff_ne]; omega
  clear c hm he
  go_enter Try.func9, Try.ntmps9
  go_wp2_with fail
  generalize hw1 : w.alloc (Obj.cells _ _) = w1
  replace HX : Hid (Has w1 w.heap.size 26 (hdc noH)) := by rw [← hw1]; exact HX
  replace B1 : Hid (Below w.heap.size w w1) := by rw [← hw1]; exact B1
  clear hw1
  refine (C.out _).mono ?_; rintro e w2 ⟨rfl, rfl⟩
  go_wp2_with (refine wpList_store_whole rfl 26 _ _ rfl w.heap.size 26 (hdc noH) (hdc noH) (by rfl) (by rfl) HX.out rfl (by rw [hi, hz]) hzo ?_; intro w9 hF9 hO9)
  refine bodyPost_ret_by (results_head Try.results9 _ _ w.heap.size _ _ hz (by rfl) hF9 (by rfl)) rfl ⟨by rw [EB.out]; rfl, hO9.below (Nat.le_refl _) B1.out⟩

set_option maxHeartbeats 1000000 in
set_option maxRecDepth 100000 in
theorem ggotS_mark (s : ByteArray) (hs : s.size ≤ maxLen) (k : Nat) (hk : k ≠ 0) (hm : markL s.data.toList 226 83 = ([], k)) (he : gotS s.data.toList = (noS, k)) (w : World) :
    Calls Try.prog 14 #[.string s] w fun e w' => e = .returned (.tuple #[.agg (spc (gotS s.data.toList).1).toArray, .int .i64 ((gotS s.data.toList).2 : Nat)]) ∧ Below w.heap.size w w' := by
  have hz : (spc noS).length = 70 := spc_length noS_fits
  have hzo := spc_one noS
  have hi := info_super
  have zv := zero_super
  have hu := Try.underlying34
  have HX := Lib.hid (Has.make w 34 (spc noS))
  have B1 := Lib.hid (up_alloc (Below.refl w.heap.size w) (.cells (spc noS).toArray 34))
  have c : ∀ w, Calls Try.prog 19 #[.string s, .int .i64 226, .int .u8 83] w _ := fun w => marked_any s hs 226 (by omega) (by omega) 83 w
  rw [hm] at c
  have C := Lib.hid c
  have EB := Lib.hid he
  have d1 : ((k : Int) == 0) = false := by rw [beq_eq_false_iff_ne]; omega
  clear c hm he
  go_enter Try.func14, Try.ntmps14
  go_wp2_with fail
  generalize hw1 : w.alloc (Obj.cells _ _) = w1
  replace HX : Hid (Has w1 w.heap.size 34 (spc noS)) := by rw [← hw1]; exact HX
  replace B1 : Hid (Below w.heap.size w w1) := by rw [← hw1]; exact B1
  clear hw1
  refine (C.out _).mono ?_; rintro e w2 ⟨rfl, rfl⟩
  go_wp2_with (refine wpList_store_whole rfl 34 _ _ rfl w.heap.size 34 (spc noS) (spc noS) (by rfl) (by rfl) HX.out rfl (by rw [hi, hz]) hzo ?_; intro w9 hF9 hO9)
  refine bodyPost_ret_by (results_super Try.results14 _ _ w.heap.size _ _ hz (by rfl) hF9 (by rfl)) rfl ⟨by rw [EB.out]; rfl, hO9.below (Nat.le_refl _) B1.out⟩

set_option maxHeartbeats 1000000 in
set_option maxRecDepth 100000 in
theorem ggotH_sum (s : ByteArray) (hs : s.size ≤ maxLen) (h0 : 64 ≤ s.data.toList.length) (h1 : s.data.toList.headD 0 = 72) (h2 : piece s.data.toList 60 4 ≠ fx (sumOf (s.data.toList.take 60)) 4) (w : World) :
    Calls Try.prog 9 #[.string s] w fun e w' => e = .returned (.tuple #[.agg (hdc (gotH s.data.toList).1).toArray, .int .i64 ((gotH s.data.toList).2 : Nat)]) ∧ Below w.heap.size w w' := by
  have hz : (hdc noH).length = 34 := hdc_length noH_fits
  have hzo := hdc_one noH
  have hi := info_head
  have hu := Try.underlying26
  have HX := Lib.hid (Has.make w 26 (hdc noH))
  have B1 := Lib.hid (up_alloc (Below.refl w.heap.size w) (.cells (hdc noH).toArray 26))
  have EB := Lib.hid (gotH_no (errH_sum h0 h1 h2) (by decide))
  have c : ∀ w, Calls Try.prog 19 #[.string s, .int .i64 64, .int .u8 72] w _ := fun w => marked_any s hs 64 (by omega) (by omega) 72 w
  rw [show markL s.data.toList 64 72 = (s.data.toList.take 64, 0) by rw [markL, if_neg (by omega), if_neg (by simpa using h1)]] at c
  obtain ⟨T, hT⟩ : ∃ T : ByteArray, T = ⟨(s.data.toList.take 64).toArray⟩ := ⟨_, rfl⟩
  have zT : T.size = 64 := by rw [hT, text_list, List.length_take]; omega
  have t1 : T.extract 60 T.size = ⟨(piece s.data.toList 60 4).toArray⟩ := by
    rw [extract_mid, zT, hT]
    show (⟨(((s.data.toList.take 64).drop 60).take (64 - 60)).toArray⟩ : ByteArray) = _
    rw [take_piece (by omega)]
  have t2 : T.extract 0 60 = ⟨(s.data.toList.take 60).toArray⟩ := by
    rw [head_of, hT]
    show (⟨((s.data.toList.take 64).take 60).toArray⟩ : ByteArray) = _
    rw [List.take_take]
    rfl
  have cs := fun w => sumof_any (T.extract 0 60) (by rw [t2, text_list, List.length_take]; unfold maxLen; omega) w
  have d1 : ((T.extract 60 64).toList == fx (sumOf (T.extract 0 60).data.toList) 4) = false := other_list (by
    rw [zT] at t1
    rw [t1, t2]
    exact h2)
  rw [← hT] at c
  have C := Lib.hid c
  have CS := Lib.hid cs
  generalize fx (sumOf (T.extract 0 60).data.toList) 4 = Y at *
  have i1 : (60 : Int) ≤ (T.size : Int) := by omega
  clear c cs hT t1 t2 h0 h1 h2
  go_enter Try.func9, Try.ntmps9
  go_wp2_with fail
  generalize hw1 : w.alloc (Obj.cells _ _) = w1
  replace HX : Hid (Has w1 w.heap.size 26 (hdc noH)) := by rw [← hw1]; exact HX
  replace B1 : Hid (Below w.heap.size w w1) := by rw [← hw1]; exact B1
  clear hw1
  refine (C.out _).mono ?_; rintro e w2 ⟨rfl, rfl⟩
  go_wp2_with fail
  refine wp_region_held_drew (S := fun _ => True) (by kernel_rfl) (trivial) (fun hHeld => ?_)
  refine wpAnyH_take (i := 0) (v := ?_) rfl (by kernel_rfl) (by kernel_rfl) (by kernel_rfl) (fun _ _ _ h => h) (Or.inl ⟨by rfl, ?_⟩) (by assumption) ?_
  rotate_left
  · intro w hSw; (try dsimp only at hSw); go_simp; try with_reducible rfl
  try simp only [Act.put, List.getElem_toArray, List.getElem_cons_zero, List.setIfInBounds_toArray, List.set_cons_zero, List.set_cons_succ]
  refine wpAnyH_take (i := 1) (v := ?_) rfl (by kernel_rfl) (by kernel_rfl) (by kernel_rfl) (fun _ _ _ h => h) (Or.inl ⟨by rfl, ?_⟩) (by assumption) ?_
  rotate_left
  · intro w hSw; (try dsimp only at hSw); go_simp; try with_reducible rfl
  try simp only [Act.put, List.getElem_toArray, List.getElem_cons_zero, List.getElem_cons_succ, List.setIfInBounds_toArray, List.set_cons_zero, List.set_cons_succ]
  refine wpAnyH_take (i := 2) (v := ?_) rfl (by kernel_rfl) (by kernel_rfl) (by kernel_rfl) (fun _ _ _ h => h) (Or.inl ⟨by rfl, ?_⟩) (by assumption) ?_
  rotate_left
  · intro w hSw; (try dsimp only at hSw); go_simp; try with_reducible rfl
  try simp only [Act.put, List.getElem_toArray, List.getElem_cons_zero, List.getElem_cons_succ, List.setIfInBounds_toArray, List.set_cons_zero, List.set_cons_succ]
  refine wpAnyH_take (i := 3) (v := ?_) rfl (by kernel_rfl) (by kernel_rfl) (by kernel_rfl) (fun _ _ _ h => h) (Or.inl ⟨by rfl, ?_⟩) (by assumption) ?_
  rotate_left
  · intro w hSw; (try dsimp only at hSw); go_simp; try with_reducible rfl
  try simp only [Act.put, List.getElem_toArray, List.getElem_cons_zero, List.getElem_cons_succ, List.setIfInBounds_toArray, List.set_cons_zero, List.set_cons_succ]
  refine wpAnyH_ready (rs := [4]) (by kernel_rfl) (by simp) (AllReadyH.cons rfl (fun K hK => ?_) AllReadyH.nil)
  go_simp
  refine (CS.out _).mono ?_; rintro e wn ⟨rfl, hbn'⟩
  have hbn : Below w1.heap.size w1 wn := up_trans (Below.refl _ _).drew hbn'
  clear hbn'
  go_wp2_with fail
  refine hK.out _ _ (trivial) (fun hHeld => ?_)
  clear hK K
  try simp only [Act.put, List.getElem_toArray, List.getElem_cons_zero, List.getElem_cons_succ, List.setIfInBounds_toArray, List.set_cons_zero, List.set_cons_succ]
  refine wpAnyH_take (i := 5) (v := ?_) rfl (by kernel_rfl) (by kernel_rfl) (by kernel_rfl) (fun _ _ _ h => h) (Or.inl ⟨by rfl, ?_⟩) (by assumption) ?_
  rotate_left
  · intro w hSw; (try dsimp only at hSw); go_simp; try with_reducible rfl
  try simp only [Act.put, List.getElem_toArray, List.getElem_cons_zero, List.getElem_cons_succ, List.setIfInBounds_toArray, List.set_cons_zero, List.set_cons_succ]
  refine wpAnyH_done (by kernel_rfl) ?_ _
  replace HX := Lib.hid (HX.out.up hbn)
  replace B1 := Lib.hid (up_trans B1.out hbn)
  go_wp2_with (refine wpList_store_whole rfl 26 _ _ rfl w.heap.size 26 (hdc noH) (hdc noH) (by rfl) (by rfl) HX.out rfl (by rw [hi, hz]) hzo ?_; intro w9 hF9 hO9)
  refine bodyPost_ret_by (results_head Try.results9 _ _ w.heap.size _ _ hz (by rfl) hF9 (by rfl)) rfl ⟨by rw [EB.out]; rfl, hO9.below (Nat.le_refl _) B1.out⟩

set_option maxHeartbeats 2000000 in
set_option maxRecDepth 100000 in
theorem ggotH_zero (s : ByteArray) (hs : s.size ≤ maxLen) (h0 : 64 ≤ s.data.toList.length) (h1 : s.data.toList.headD 0 = 72) (h2 : piece s.data.toList 60 4 = fx (sumOf (s.data.toList.take 60)) 4) (h3 : piece s.data.toList 49 11 ≠ z11) (w : World) :
    Calls Try.prog 9 #[.string s] w fun e w' => e = .returned (.tuple #[.agg (hdc (gotH s.data.toList).1).toArray, .int .i64 ((gotH s.data.toList).2 : Nat)]) ∧ Below w.heap.size w w' := by
  have hz : (hdc noH).length = 34 := hdc_length noH_fits
  have hzo := hdc_one noH
  have hi := info_head
  have hu := Try.underlying26
  have HX := Lib.hid (Has.make w 26 (hdc noH))
  have B1 := Lib.hid (up_alloc (Below.refl w.heap.size w) (.cells (hdc noH).toArray 26))
  have EB := Lib.hid (gotH_no (errH_zero h0 h1 h2 h3) (by decide))
  have c : ∀ w, Calls Try.prog 19 #[.string s, .int .i64 64, .int .u8 72] w _ := fun w => marked_any s hs 64 (by omega) (by omega) 72 w
  rw [show markL s.data.toList 64 72 = (s.data.toList.take 64, 0) by rw [markL, if_neg (by omega), if_neg (by simpa using h1)]] at c
  obtain ⟨T, hT⟩ : ∃ T : ByteArray, T = ⟨(s.data.toList.take 64).toArray⟩ := ⟨_, rfl⟩
  obtain ⟨r, hr⟩ : ∃ r, r = (s.data.toList.drop 1).take 59 := ⟨_, rfl⟩
  obtain ⟨R, hR⟩ : ∃ R : ByteArray, R = ⟨(piece s.data.toList 49 11).toArray⟩ := ⟨_, rfl⟩
  obtain ⟨Z, hZ⟩ : ∃ Z : ByteArray, Z = ⟨(List.replicate 11 0).toArray⟩ := ⟨_, rfl⟩
  have zT : T.size = 64 := by rw [hT, text_list, List.length_take]; omega
  have zr : r.length = 59 := by rw [hr, List.length_take, List.length_drop]; omega
  have zR : R.size = 11 := by rw [hR, text_list, piece_length (by omega)]
  have t1 : T.extract 60 T.size = ⟨(piece s.data.toList 60 4).toArray⟩ := by
    rw [extract_mid, zT, hT]
    show (⟨(((s.data.toList.take 64).drop 60).take (64 - 60)).toArray⟩ : ByteArray) = _
    rw [take_piece (by omega)]
  have t2 : T.extract 0 60 = ⟨(s.data.toList.take 60).toArray⟩ := by
    rw [head_of, hT]
    show (⟨((s.data.toList.take 64).take 60).toArray⟩ : ByteArray) = _
    rw [List.take_take]
    rfl
  have E1 := Lib.hid (show T.extract 1 60 = ⟨r.toArray⟩ by
    rw [extract_mid, hT, hr]
    show (⟨(((s.data.toList.take 64).drop 1).take (60 - 1)).toArray⟩ : ByteArray) = _
    rw [take_piece (by omega)]
    rfl)
  have FL := Lib.hid (filledH s.data.toList r hr h0)
  have HD := Lib.hid (show (⟨((r.drop (8 * ([0, 1] : List Nat).length)).drop (32 * ([2] : List Nat).length)).toArray⟩ : ByteArray) = R by
    rw [hR, hr]
    show (⟨((((s.data.toList.drop 1).take 59).drop 16).drop 32).toArray⟩ : ByteArray) = _
    rw [List.drop_drop, List.drop_take, List.drop_drop]
    rfl)
  have cs := fun w => sumof_any (T.extract 0 60) (by rw [t2, text_list, List.length_take]; unfold maxLen; omega) w
  have d1 : ((T.extract 60 64).toList == fx (sumOf (T.extract 0 60).data.toList) 4) = true := same_list (by
    rw [zT] at t1
    rw [t1, t2]
    exact h2)
  have cz : ∀ w, Calls Try.prog 25 #[.int .i64 11] w _ := fun w => zeros_any 11 (by omega) w
  rw [← hZ] at cz
  have d2 : (R.toList == Z.toList) = false := other_text (by rw [hR, hZ]; exact text_inj h3)
  rw [← hT] at c
  have hcl := hdc_length (decH_fits h0)
  have C := Lib.hid c
  have CS := Lib.hid cs
  have CZ := Lib.hid cz
  generalize fx (sumOf (T.extract 0 60).data.toList) 4 = Y at *
  have i1 : (60 : Int) ≤ (T.size : Int) := by omega
  clear c cs cz hT t1 t2 h0 h1 h2 h3 hR hZ hr
  go_enter Try.func9, Try.ntmps9
  go_wp2_with fail
  generalize hw1 : w.alloc (Obj.cells _ _) = w1
  replace HX : Hid (Has w1 w.heap.size 26 (hdc noH)) := by rw [← hw1]; exact HX
  replace B1 : Hid (Below w.heap.size w w1) := by rw [← hw1]; exact B1
  clear hw1
  refine (C.out _).mono ?_; rintro e w2 ⟨rfl, rfl⟩
  go_wp2_with fail
  refine wp_region_held_drew (S := fun _ => True) (by kernel_rfl) (trivial) (fun hHeld => ?_)
  refine wpAnyH_take (i := 0) (v := ?_) rfl (by kernel_rfl) (by kernel_rfl) (by kernel_rfl) (fun _ _ _ h => h) (Or.inl ⟨by rfl, ?_⟩) (by assumption) ?_
  rotate_left
  · intro w hSw; (try dsimp only at hSw); go_simp; try with_reducible rfl
  try simp only [Act.put, List.getElem_toArray, List.getElem_cons_zero, List.setIfInBounds_toArray, List.set_cons_zero, List.set_cons_succ]
  refine wpAnyH_take (i := 1) (v := ?_) rfl (by kernel_rfl) (by kernel_rfl) (by kernel_rfl) (fun _ _ _ h => h) (Or.inl ⟨by rfl, ?_⟩) (by assumption) ?_
  rotate_left
  · intro w hSw; (try dsimp only at hSw); go_simp; try with_reducible rfl
  try simp only [Act.put, List.getElem_toArray, List.getElem_cons_zero, List.getElem_cons_succ, List.setIfInBounds_toArray, List.set_cons_zero, List.set_cons_succ]
  refine wpAnyH_take (i := 2) (v := ?_) rfl (by kernel_rfl) (by kernel_rfl) (by kernel_rfl) (fun _ _ _ h => h) (Or.inl ⟨by rfl, ?_⟩) (by assumption) ?_
  rotate_left
  · intro w hSw; (try dsimp only at hSw); go_simp; try with_reducible rfl
  try simp only [Act.put, List.getElem_toArray, List.getElem_cons_zero, List.getElem_cons_succ, List.setIfInBounds_toArray, List.set_cons_zero, List.set_cons_succ]
  refine wpAnyH_take (i := 3) (v := ?_) rfl (by kernel_rfl) (by kernel_rfl) (by kernel_rfl) (fun _ _ _ h => h) (Or.inl ⟨by rfl, ?_⟩) (by assumption) ?_
  rotate_left
  · intro w hSw; (try dsimp only at hSw); go_simp; try with_reducible rfl
  try simp only [Act.put, List.getElem_toArray, List.getElem_cons_zero, List.getElem_cons_succ, List.setIfInBounds_toArray, List.set_cons_zero, List.set_cons_succ]
  refine wpAnyH_ready (rs := [4]) (by kernel_rfl) (by simp) (AllReadyH.cons rfl (fun K hK => ?_) AllReadyH.nil)
  go_simp
  refine (CS.out _).mono ?_; rintro e wn ⟨rfl, hbn'⟩
  have hbn : Below w1.heap.size w1 wn := up_trans (Below.refl _ _).drew hbn'
  clear hbn'
  go_wp2_with fail
  refine hK.out _ _ (trivial) (fun hHeld => ?_)
  clear hK K
  try simp only [Act.put, List.getElem_toArray, List.getElem_cons_zero, List.getElem_cons_succ, List.setIfInBounds_toArray, List.set_cons_zero, List.set_cons_succ]
  refine wpAnyH_take (i := 5) (v := ?_) rfl (by kernel_rfl) (by kernel_rfl) (by kernel_rfl) (fun _ _ _ h => h) (Or.inl ⟨by rfl, ?_⟩) (by assumption) ?_
  rotate_left
  · intro w hSw; (try dsimp only at hSw); go_simp; try with_reducible rfl
  try simp only [Act.put, List.getElem_toArray, List.getElem_cons_zero, List.getElem_cons_succ, List.setIfInBounds_toArray, List.set_cons_zero, List.set_cons_succ]
  refine wpAnyH_done (by kernel_rfl) ?_ _
  replace HX := Lib.hid (HX.out.up hbn)
  replace B1 := Lib.hid (up_trans B1.out hbn)
  have hlt := HX.out.lt
  clear hbn
  go_wp2_with fail
  generalize hW3 : ((wn.alloc _).alloc _).alloc _ = W3
  have hb0 : W3.heap.size = wn.heap.size + 1 + 1 + 1 := by rw [← hW3]; simp
  have HB3 : Hid (Has W3 wn.heap.size 26 (hdc noH)) := Lib.hid (by rw [← hW3]; exact ((Has.make wn 26 (hdc noH)).alloc _).alloc _)
  have HR3 : Hid (Has W3 (wn.heap.size + 1) 50 [.string ⟨r.toArray⟩]) := Lib.hid (by rw [← hW3, ← E1.out]; exact (Has.make2 wn _ 50 [.string (T.extract 1 60)]).alloc _)
  have HP3 : Hid (Has W3 (wn.heap.size + 1 + 1) 55 (ptrs wn.heap.size [0, 1])) := Lib.hid (by rw [← hW3]; exact Has.make3 wn _ _ 55 (ptrs wn.heap.size [0, 1]))
  replace HX : Hid (Has W3 w.heap.size 26 (hdc noH)) := Lib.hid (by rw [← hW3]; exact ((HX.out.alloc _).alloc _).alloc _)
  replace B1 : Hid (Below w.heap.size w W3) := Lib.hid (by rw [← hW3]; exact up_alloc (up_alloc (up_alloc B1.out _) _) _)
  clear hW3
  generalize wn.heap.size = b at *
  refine (read64_any (b + 1) b (b + 1 + 1) 2 [0, 1] r 26 (hdc noH) (by omega) (by simp; omega) (by rw [hz]; simp) (by omega) (by omega) (by omega) W3 HR3.out HB3.out HP3.out).mono ?_; rintro e W4 ⟨rfl, F4⟩
  replace HX := Lib.hid (F4.only.keep (by omega) (by omega) HX.out)
  replace B1 := Lib.hid (F4.only.below (by omega) (by omega) (by omega) B1.out)
  have hs4 := F4.only.size
  have HB4 := Lib.hid F4.cells
  have HR4 := Lib.hid F4.rest
  clear F4 HB3 HR3 HP3
  have hsl := setN_length [0, 1] (hdc noH) r
  rw [hz] at hsl
  go_wp2_with fail
  generalize hW5 : W4.alloc _ = W5
  have HP5 : Hid (Has W5 W4.heap.size 59 (ptrs b [2])) := Lib.hid (by rw [← hW5]; exact Has.make W4 59 (ptrs b [2]))
  replace HB4 := Lib.hid (show Has W5 b _ _ by rw [← hW5]; exact HB4.out.alloc _)
  replace HR4 := Lib.hid (show Has W5 (b + 1) _ _ by rw [← hW5]; exact HR4.out.alloc _)
  replace HX := Lib.hid (show Has W5 w.heap.size _ _ by rw [← hW5]; exact HX.out.alloc _)
  replace B1 : Hid (Below w.heap.size w W5) := Lib.hid (by rw [← hW5]; exact up_alloc B1.out _)
  have hs5 : W5.heap.size = W4.heap.size + 1 := by rw [← hW5]; simp
  clear hW5
  refine (read32_any (b + 1) b W4.heap.size 1 [2] (r.drop (8 * ([0, 1] : List Nat).length)) 26 _ (by rw [List.length_drop]; omega) (by rw [List.length_drop]; simp; omega) (by rw [hsl]; simp) (by omega) (by omega) (by omega) W5 HR4.out HB4.out HP5.out).mono ?_; rintro e W6 ⟨rfl, F6⟩
  replace HX := Lib.hid (F6.only.keep (by omega) (by omega) HX.out)
  replace B1 := Lib.hid (F6.only.below (by omega) (by omega) (by omega) B1.out)
  have hs6 := F6.only.size
  have HB6 : Hid (Has W6 b 26 (hdc (decH s.data.toList))) := Lib.hid (by have h := F6.cells; rwa [show (8 * ([0, 1] : List Nat).length) = 16 from rfl, FL.out] at h)
  have HR6 : Hid (Has W6 (b + 1) 50 [.string R]) := Lib.hid (by have h := F6.rest; rwa [HD.out] at h)
  clear F6 HB4 HR4 HP5
  go_wp2_with fail
  refine wp_region_held_drew (S := fun W => W.cell? ⟨b + 1, 0, none⟩ = some (.string R)) (by kernel_rfl) (HR6.out.at (i := 0) rfl) (fun hHeld => ?_)
  refine wpAnyH_take (i := 0) (v := ?_) rfl (by kernel_rfl) (by kernel_rfl) (by kernel_rfl) (fun _ _ _ h => h) (Or.inl ⟨by rfl, ?_⟩) (by assumption) ?_
  rotate_left
  · intro w hSw; (try dsimp only at hSw); go_simp; try with_reducible rfl
  try simp only [Act.put, List.getElem_toArray, List.getElem_cons_zero, List.setIfInBounds_toArray, List.set_cons_zero, List.set_cons_succ]
  refine wpAnyH_take (i := 1) (v := ?_) rfl (by kernel_rfl) (by kernel_rfl) (by kernel_rfl) (fun _ _ _ h => h) (Or.inl ⟨by rfl, ?_⟩) (by assumption) ?_
  rotate_left
  · intro w hSw; (try dsimp only at hSw); go_simp; try with_reducible rfl
  try simp only [Act.put, List.getElem_toArray, List.getElem_cons_zero, List.getElem_cons_succ, List.setIfInBounds_toArray, List.set_cons_zero, List.set_cons_succ]
  refine wpAnyH_take (i := 2) (v := ?_) rfl (by kernel_rfl) (by kernel_rfl) (by kernel_rfl) (fun _ _ _ h => h) (Or.inl ⟨by rfl, ?_⟩) (by assumption) ?_
  rotate_left
  · intro w hSw; (try dsimp only at hSw); go_simp; try with_reducible rfl
  try simp only [Act.put, List.getElem_toArray, List.getElem_cons_zero, List.getElem_cons_succ, List.setIfInBounds_toArray, List.set_cons_zero, List.set_cons_succ]
  refine wpAnyH_take (i := 3) (v := ?_) rfl (by kernel_rfl) (by kernel_rfl) (by kernel_rfl) (fun _ _ _ h => h) (Or.inl ⟨by rfl, ?_⟩) (by assumption) ?_
  rotate_left
  · intro w hSw; (try dsimp only at hSw); go_simp; try with_reducible rfl
  try simp only [Act.put, List.getElem_toArray, List.getElem_cons_zero, List.getElem_cons_succ, List.setIfInBounds_toArray, List.set_cons_zero, List.set_cons_succ]
  refine wpAnyH_take (i := 4) (v := ?_) rfl (by kernel_rfl) (by kernel_rfl) (by kernel_rfl) (fun _ _ _ h => h) (Or.inl ⟨by rfl, ?_⟩) (by assumption) ?_
  rotate_left
  · intro w hSw; (try dsimp only at hSw); go_simp; try with_reducible rfl
  try simp only [Act.put, List.getElem_toArray, List.getElem_cons_zero, List.getElem_cons_succ, List.setIfInBounds_toArray, List.set_cons_zero, List.set_cons_succ]
  refine wpAnyH_ready (rs := [5]) (by kernel_rfl) (by simp) (AllReadyH.cons rfl (fun K hK => ?_) AllReadyH.nil)
  go_simp
  refine (CZ.out _).mono ?_; rintro e wn ⟨rfl, hbn'⟩
  have hbn : Below W6.heap.size W6 wn := up_trans (Below.refl _ _).drew hbn'
  clear hbn'
  go_wp2_with fail
  refine hK.out _ _ ((HR6.out.up hbn).at (i := 0) rfl) (fun hHeld => ?_)
  clear hK K
  try simp only [Act.put, List.getElem_toArray, List.getElem_cons_zero, List.getElem_cons_succ, List.setIfInBounds_toArray, List.set_cons_zero, List.set_cons_succ]
  refine wpAnyH_take (i := 6) (v := ?_) rfl (by kernel_rfl) (by kernel_rfl) (by kernel_rfl) (fun _ _ _ h => h) (Or.inl ⟨by rfl, ?_⟩) (by assumption) ?_
  rotate_left
  · intro w hSw; (try dsimp only at hSw); go_simp; try with_reducible rfl
  try simp only [Act.put, List.getElem_toArray, List.getElem_cons_zero, List.getElem_cons_succ, List.setIfInBounds_toArray, List.set_cons_zero, List.set_cons_succ]
  refine wpAnyH_done (by kernel_rfl) ?_ _
  replace HX := Lib.hid (HX.out.up hbn)
  replace B1 := Lib.hid (up_trans B1.out hbn)
  replace HB6 := Lib.hid (HB6.out.up hbn)
  go_wp2_with (refine wpList_store_whole rfl 26 _ _ rfl w.heap.size 26 (hdc noH) (hdc noH) (by rfl) (by rfl) HX.out rfl (by rw [hi, hz]) hzo ?_; intro w9 hF9 hO9)
  refine bodyPost_ret_by (results_head Try.results9 _ _ w.heap.size _ _ hz (by rfl) hF9 (by rfl)) rfl ⟨by rw [EB.out]; rfl, hO9.below (Nat.le_refl _) B1.out⟩


set_option maxHeartbeats 2000000 in
set_option maxRecDepth 100000 in
theorem ggotH_ok (s : ByteArray) (hs : s.size ≤ maxLen) (h0 : 64 ≤ s.data.toList.length) (h1 : s.data.toList.headD 0 = 72) (h2 : piece s.data.toList 60 4 = fx (sumOf (s.data.toList.take 60)) 4) (h3 : piece s.data.toList 49 11 = z11) (w : World) :
    Calls Try.prog 9 #[.string s] w fun e w' => e = .returned (.tuple #[.agg (hdc (gotH s.data.toList).1).toArray, .int .i64 ((gotH s.data.toList).2 : Nat)]) ∧ Below w.heap.size w w' := by
  have hz : (hdc noH).length = 34 := hdc_length noH_fits
  have hzo := hdc_one noH
  have hi := info_head
  have hu := Try.underlying26
  have HX := Lib.hid (Has.make w 26 (hdc noH))
  have B1 := Lib.hid (up_alloc (Below.refl w.heap.size w) (.cells (hdc noH).toArray 26))
  have EB := Lib.hid (gotH_ok (errH_ok h0 h1 h2 h3))
  have c : ∀ w, Calls Try.prog 19 #[.string s, .int .i64 64, .int .u8 72] w _ := fun w => marked_any s hs 64 (by omega) (by omega) 72 w
  rw [show markL s.data.toList 64 72 = (s.data.toList.take 64, 0) by rw [markL, if_neg (by omega), if_neg (by simpa using h1)]] at c
  obtain ⟨T, hT⟩ : ∃ T : ByteArray, T = ⟨(s.data.toList.take 64).toArray⟩ := ⟨_, rfl⟩
  obtain ⟨r, hr⟩ : ∃ r, r = (s.data.toList.drop 1).take 59 := ⟨_, rfl⟩
  obtain ⟨R, hR⟩ : ∃ R : ByteArray, R = ⟨(piece s.data.toList 49 11).toArray⟩ := ⟨_, rfl⟩
  obtain ⟨Z, hZ⟩ : ∃ Z : ByteArray, Z = ⟨(List.replicate 11 0).toArray⟩ := ⟨_, rfl⟩
  have zT : T.size = 64 := by rw [hT, text_list, List.length_take]; omega
  have zr : r.length = 59 := by rw [hr, List.length_take, List.length_drop]; omega
  have zR : R.size = 11 := by rw [hR, text_list, piece_length (by omega)]
  have t1 : T.extract 60 T.size = ⟨(piece s.data.toList 60 4).toArray⟩ := by
    rw [extract_mid, zT, hT]
    show (⟨(((s.data.toList.take 64).drop 60).take (64 - 60)).toArray⟩ : ByteArray) = _
    rw [take_piece (by omega)]
  have t2 : T.extract 0 60 = ⟨(s.data.toList.take 60).toArray⟩ := by
    rw [head_of, hT]
    show (⟨((s.data.toList.take 64).take 60).toArray⟩ : ByteArray) = _
    rw [List.take_take]
    rfl
  have E1 := Lib.hid (show T.extract 1 60 = ⟨r.toArray⟩ by
    rw [extract_mid, hT, hr]
    show (⟨(((s.data.toList.take 64).drop 1).take (60 - 1)).toArray⟩ : ByteArray) = _
    rw [take_piece (by omega)]
    rfl)
  have FL := Lib.hid (filledH s.data.toList r hr h0)
  have HD := Lib.hid (show (⟨((r.drop (8 * ([0, 1] : List Nat).length)).drop (32 * ([2] : List Nat).length)).toArray⟩ : ByteArray) = R by
    rw [hR, hr]
    show (⟨((((s.data.toList.drop 1).take 59).drop 16).drop 32).toArray⟩ : ByteArray) = _
    rw [List.drop_drop, List.drop_take, List.drop_drop]
    rfl)
  have cs := fun w => sumof_any (T.extract 0 60) (by rw [t2, text_list, List.length_take]; unfold maxLen; omega) w
  have d1 : ((T.extract 60 64).toList == fx (sumOf (T.extract 0 60).data.toList) 4) = true := same_list (by
    rw [zT] at t1
    rw [t1, t2]
    exact h2)
  have cz : ∀ w, Calls Try.prog 25 #[.int .i64 11] w _ := fun w => zeros_any 11 (by omega) w
  rw [← hZ] at cz
  have d2 : (R.toList == Z.toList) = true := same_text (by rw [hR, hZ, h3]; rfl)
  rw [← hT] at c
  have hcl := hdc_length (decH_fits h0)
  have C := Lib.hid c
  have CS := Lib.hid cs
  have CZ := Lib.hid cz
  generalize fx (sumOf (T.extract 0 60).data.toList) 4 = Y at *
  have i1 : (60 : Int) ≤ (T.size : Int) := by omega
  clear c cs cz hT t1 t2 h0 h1 h2 h3 hR hZ hr
  go_enter Try.func9, Try.ntmps9
  go_wp2_with fail
  generalize hw1 : w.alloc (Obj.cells _ _) = w1
  replace HX : Hid (Has w1 w.heap.size 26 (hdc noH)) := by rw [← hw1]; exact HX
  replace B1 : Hid (Below w.heap.size w w1) := by rw [← hw1]; exact B1
  clear hw1
  refine (C.out _).mono ?_; rintro e w2 ⟨rfl, rfl⟩
  go_wp2_with fail
  refine wp_region_held_drew (S := fun _ => True) (by kernel_rfl) (trivial) (fun hHeld => ?_)
  refine wpAnyH_take (i := 0) (v := ?_) rfl (by kernel_rfl) (by kernel_rfl) (by kernel_rfl) (fun _ _ _ h => h) (Or.inl ⟨by rfl, ?_⟩) (by assumption) ?_
  rotate_left
  · intro w hSw; (try dsimp only at hSw); go_simp; try with_reducible rfl
  try simp only [Act.put, List.getElem_toArray, List.getElem_cons_zero, List.setIfInBounds_toArray, List.set_cons_zero, List.set_cons_succ]
  refine wpAnyH_take (i := 1) (v := ?_) rfl (by kernel_rfl) (by kernel_rfl) (by kernel_rfl) (fun _ _ _ h => h) (Or.inl ⟨by rfl, ?_⟩) (by assumption) ?_
  rotate_left
  · intro w hSw; (try dsimp only at hSw); go_simp; try with_reducible rfl
  try simp only [Act.put, List.getElem_toArray, List.getElem_cons_zero, List.getElem_cons_succ, List.setIfInBounds_toArray, List.set_cons_zero, List.set_cons_succ]
  refine wpAnyH_take (i := 2) (v := ?_) rfl (by kernel_rfl) (by kernel_rfl) (by kernel_rfl) (fun _ _ _ h => h) (Or.inl ⟨by rfl, ?_⟩) (by assumption) ?_
  rotate_left
  · intro w hSw; (try dsimp only at hSw); go_simp; try with_reducible rfl
  try simp only [Act.put, List.getElem_toArray, List.getElem_cons_zero, List.getElem_cons_succ, List.setIfInBounds_toArray, List.set_cons_zero, List.set_cons_succ]
  refine wpAnyH_take (i := 3) (v := ?_) rfl (by kernel_rfl) (by kernel_rfl) (by kernel_rfl) (fun _ _ _ h => h) (Or.inl ⟨by rfl, ?_⟩) (by assumption) ?_
  rotate_left
  · intro w hSw; (try dsimp only at hSw); go_simp; try with_reducible rfl
  try simp only [Act.put, List.getElem_toArray, List.getElem_cons_zero, List.getElem_cons_succ, List.setIfInBounds_toArray, List.set_cons_zero, List.set_cons_succ]
  refine wpAnyH_ready (rs := [4]) (by kernel_rfl) (by simp) (AllReadyH.cons rfl (fun K hK => ?_) AllReadyH.nil)
  go_simp
  refine (CS.out _).mono ?_; rintro e wn ⟨rfl, hbn'⟩
  have hbn : Below w1.heap.size w1 wn := up_trans (Below.refl _ _).drew hbn'
  clear hbn'
  go_wp2_with fail
  refine hK.out _ _ (trivial) (fun hHeld => ?_)
  clear hK K
  try simp only [Act.put, List.getElem_toArray, List.getElem_cons_zero, List.getElem_cons_succ, List.setIfInBounds_toArray, List.set_cons_zero, List.set_cons_succ]
  refine wpAnyH_take (i := 5) (v := ?_) rfl (by kernel_rfl) (by kernel_rfl) (by kernel_rfl) (fun _ _ _ h => h) (Or.inl ⟨by rfl, ?_⟩) (by assumption) ?_
  rotate_left
  · intro w hSw; (try dsimp only at hSw); go_simp; try with_reducible rfl
  try simp only [Act.put, List.getElem_toArray, List.getElem_cons_zero, List.getElem_cons_succ, List.setIfInBounds_toArray, List.set_cons_zero, List.set_cons_succ]
  refine wpAnyH_done (by kernel_rfl) ?_ _
  replace HX := Lib.hid (HX.out.up hbn)
  replace B1 := Lib.hid (up_trans B1.out hbn)
  have hlt := HX.out.lt
  clear hbn
  go_wp2_with fail
  generalize hW3 : ((wn.alloc _).alloc _).alloc _ = W3
  have hb0 : W3.heap.size = wn.heap.size + 1 + 1 + 1 := by rw [← hW3]; simp
  have HB3 : Hid (Has W3 wn.heap.size 26 (hdc noH)) := Lib.hid (by rw [← hW3]; exact ((Has.make wn 26 (hdc noH)).alloc _).alloc _)
  have HR3 : Hid (Has W3 (wn.heap.size + 1) 50 [.string ⟨r.toArray⟩]) := Lib.hid (by rw [← hW3, ← E1.out]; exact (Has.make2 wn _ 50 [.string (T.extract 1 60)]).alloc _)
  have HP3 : Hid (Has W3 (wn.heap.size + 1 + 1) 55 (ptrs wn.heap.size [0, 1])) := Lib.hid (by rw [← hW3]; exact Has.make3 wn _ _ 55 (ptrs wn.heap.size [0, 1]))
  replace HX : Hid (Has W3 w.heap.size 26 (hdc noH)) := Lib.hid (by rw [← hW3]; exact ((HX.out.alloc _).alloc _).alloc _)
  replace B1 : Hid (Below w.heap.size w W3) := Lib.hid (by rw [← hW3]; exact up_alloc (up_alloc (up_alloc B1.out _) _) _)
  clear hW3
  generalize wn.heap.size = b at *
  refine (read64_any (b + 1) b (b + 1 + 1) 2 [0, 1] r 26 (hdc noH) (by omega) (by simp; omega) (by rw [hz]; simp) (by omega) (by omega) (by omega) W3 HR3.out HB3.out HP3.out).mono ?_; rintro e W4 ⟨rfl, F4⟩
  replace HX := Lib.hid (F4.only.keep (by omega) (by omega) HX.out)
  replace B1 := Lib.hid (F4.only.below (by omega) (by omega) (by omega) B1.out)
  have hs4 := F4.only.size
  have HB4 := Lib.hid F4.cells
  have HR4 := Lib.hid F4.rest
  clear F4 HB3 HR3 HP3
  have hsl := setN_length [0, 1] (hdc noH) r
  rw [hz] at hsl
  go_wp2_with fail
  generalize hW5 : W4.alloc _ = W5
  have HP5 : Hid (Has W5 W4.heap.size 59 (ptrs b [2])) := Lib.hid (by rw [← hW5]; exact Has.make W4 59 (ptrs b [2]))
  replace HB4 := Lib.hid (show Has W5 b _ _ by rw [← hW5]; exact HB4.out.alloc _)
  replace HR4 := Lib.hid (show Has W5 (b + 1) _ _ by rw [← hW5]; exact HR4.out.alloc _)
  replace HX := Lib.hid (show Has W5 w.heap.size _ _ by rw [← hW5]; exact HX.out.alloc _)
  replace B1 : Hid (Below w.heap.size w W5) := Lib.hid (by rw [← hW5]; exact up_alloc B1.out _)
  have hs5 : W5.heap.size = W4.heap.size + 1 := by rw [← hW5]; simp
  clear hW5
  refine (read32_any (b + 1) b W4.heap.size 1 [2] (r.drop (8 * ([0, 1] : List Nat).length)) 26 _ (by rw [List.length_drop]; omega) (by rw [List.length_drop]; simp; omega) (by rw [hsl]; simp) (by omega) (by omega) (by omega) W5 HR4.out HB4.out HP5.out).mono ?_; rintro e W6 ⟨rfl, F6⟩
  replace HX := Lib.hid (F6.only.keep (by omega) (by omega) HX.out)
  replace B1 := Lib.hid (F6.only.below (by omega) (by omega) (by omega) B1.out)
  have hs6 := F6.only.size
  have HB6 : Hid (Has W6 b 26 (hdc (decH s.data.toList))) := Lib.hid (by have h := F6.cells; rwa [show (8 * ([0, 1] : List Nat).length) = 16 from rfl, FL.out] at h)
  have HR6 : Hid (Has W6 (b + 1) 50 [.string R]) := Lib.hid (by have h := F6.rest; rwa [HD.out] at h)
  clear F6 HB4 HR4 HP5
  go_wp2_with fail
  refine wp_region_held_drew (S := fun W => W.cell? ⟨b + 1, 0, none⟩ = some (.string R)) (by kernel_rfl) (HR6.out.at (i := 0) rfl) (fun hHeld => ?_)
  refine wpAnyH_take (i := 0) (v := ?_) rfl (by kernel_rfl) (by kernel_rfl) (by kernel_rfl) (fun _ _ _ h => h) (Or.inl ⟨by rfl, ?_⟩) (by assumption) ?_
  rotate_left
  · intro w hSw; (try dsimp only at hSw); go_simp; try with_reducible rfl
  try simp only [Act.put, List.getElem_toArray, List.getElem_cons_zero, List.setIfInBounds_toArray, List.set_cons_zero, List.set_cons_succ]
  refine wpAnyH_take (i := 1) (v := ?_) rfl (by kernel_rfl) (by kernel_rfl) (by kernel_rfl) (fun _ _ _ h => h) (Or.inl ⟨by rfl, ?_⟩) (by assumption) ?_
  rotate_left
  · intro w hSw; (try dsimp only at hSw); go_simp; try with_reducible rfl
  try simp only [Act.put, List.getElem_toArray, List.getElem_cons_zero, List.getElem_cons_succ, List.setIfInBounds_toArray, List.set_cons_zero, List.set_cons_succ]
  refine wpAnyH_take (i := 2) (v := ?_) rfl (by kernel_rfl) (by kernel_rfl) (by kernel_rfl) (fun _ _ _ h => h) (Or.inl ⟨by rfl, ?_⟩) (by assumption) ?_
  rotate_left
  · intro w hSw; (try dsimp only at hSw); go_simp; try with_reducible rfl
  try simp only [Act.put, List.getElem_toArray, List.getElem_cons_zero, List.getElem_cons_succ, List.setIfInBounds_toArray, List.set_cons_zero, List.set_cons_succ]
  refine wpAnyH_take (i := 3) (v := ?_) rfl (by kernel_rfl) (by kernel_rfl) (by kernel_rfl) (fun _ _ _ h => h) (Or.inl ⟨by rfl, ?_⟩) (by assumption) ?_
  rotate_left
  · intro w hSw; (try dsimp only at hSw); go_simp; try with_reducible rfl
  try simp only [Act.put, List.getElem_toArray, List.getElem_cons_zero, List.getElem_cons_succ, List.setIfInBounds_toArray, List.set_cons_zero, List.set_cons_succ]
  refine wpAnyH_take (i := 4) (v := ?_) rfl (by kernel_rfl) (by kernel_rfl) (by kernel_rfl) (fun _ _ _ h => h) (Or.inl ⟨by rfl, ?_⟩) (by assumption) ?_
  rotate_left
  · intro w hSw; (try dsimp only at hSw); go_simp; try with_reducible rfl
  try simp only [Act.put, List.getElem_toArray, List.getElem_cons_zero, List.getElem_cons_succ, List.setIfInBounds_toArray, List.set_cons_zero, List.set_cons_succ]
  refine wpAnyH_ready (rs := [5]) (by kernel_rfl) (by simp) (AllReadyH.cons rfl (fun K hK => ?_) AllReadyH.nil)
  go_simp
  refine (CZ.out _).mono ?_; rintro e wn ⟨rfl, hbn'⟩
  have hbn : Below W6.heap.size W6 wn := up_trans (Below.refl _ _).drew hbn'
  clear hbn'
  go_wp2_with fail
  refine hK.out _ _ ((HR6.out.up hbn).at (i := 0) rfl) (fun hHeld => ?_)
  clear hK K
  try simp only [Act.put, List.getElem_toArray, List.getElem_cons_zero, List.getElem_cons_succ, List.setIfInBounds_toArray, List.set_cons_zero, List.set_cons_succ]
  refine wpAnyH_take (i := 6) (v := ?_) rfl (by kernel_rfl) (by kernel_rfl) (by kernel_rfl) (fun _ _ _ h => h) (Or.inl ⟨by rfl, ?_⟩) (by assumption) ?_
  rotate_left
  · intro w hSw; (try dsimp only at hSw); go_simp; try with_reducible rfl
  try simp only [Act.put, List.getElem_toArray, List.getElem_cons_zero, List.getElem_cons_succ, List.setIfInBounds_toArray, List.set_cons_zero, List.set_cons_succ]
  refine wpAnyH_done (by kernel_rfl) ?_ _
  replace HX := Lib.hid (HX.out.up hbn)
  replace B1 := Lib.hid (up_trans B1.out hbn)
  replace HB6 := Lib.hid (HB6.out.up hbn)
  go_wp2_with (first
    | (refine wpList_load_row rfl 26 _ rfl b (by rfl) _ _ _ _ HB6.out hu rfl (by rw [hi, List.size_toArray, hcl]) ?_)
    | (refine wpList_store_whole rfl 26 _ _ rfl w.heap.size 26 (hdc noH) (hdc (decH s.data.toList)) (by rfl) (by rfl) HX.out (by rw [hcl, hz]) (by rw [hi, hcl]) (hdc_one _) ?_; intro w9 hF9 hO9))
  refine bodyPost_ret_by (results_head Try.results9 _ _ w.heap.size _ _ hcl (by rfl) hF9 (by rfl)) rfl ⟨by rw [EB.out]; rfl, hO9.below (Nat.le_refl _) B1.out⟩


theorem ghead_any (s : ByteArray) (hs : s.size ≤ maxLen) (w : World) :
    Calls Try.prog 9 #[.string s] w fun e w' => e = .returned (.tuple #[.agg (hdc (gotH s.data.toList).1).toArray, .int .i64 ((gotH s.data.toList).2 : Nat)]) ∧ Below w.heap.size w w' := by
  by_cases h0 : s.data.toList.length < 64
  · exact ggotH_mark s hs 4 (by decide) (by rw [markL, if_pos h0]) (gotH_no (errH_few h0) (by decide)) w
  by_cases h1 : s.data.toList.headD 0 = 72
  · by_cases h2 : piece s.data.toList 60 4 = fx (sumOf (s.data.toList.take 60)) 4
    · by_cases h3 : piece s.data.toList 49 11 = z11
      · exact ggotH_ok s hs (by omega) h1 h2 h3 w
      · exact ggotH_zero s hs (by omega) h1 h2 h3 w
    · exact ggotH_sum s hs (by omega) h1 h2 w
  · exact ggotH_mark s hs 3 (by decide) (by rw [markL, if_neg h0, if_pos h1]) (gotH_no (errH_mark (by omega) h1) (by decide)) w

set_option maxHeartbeats 2000000 in
set_option maxRecDepth 100000 in
theorem ggotS_sum (s : ByteArray) (hs : s.size ≤ maxLen) (h0 : 226 ≤ s.data.toList.length) (h1 : s.data.toList.headD 0 = 83) (h2 : s.data.toList.take 113 ≠ piece s.data.toList 113 113) (w : World) :
    Calls Try.prog 14 #[.string s] w fun e w' => e = .returned (.tuple #[.agg (spc (gotS s.data.toList).1).toArray, .int .i64 ((gotS s.data.toList).2 : Nat)]) ∧ Below w.heap.size w w' := by
  have hz : (spc noS).length = 70 := spc_length noS_fits
  have hzo := spc_one noS
  have hi := info_super
  have zv := zero_super
  have hu := Try.underlying34
  have HX := Lib.hid (Has.make w 34 (spc noS))
  have B1 := Lib.hid (up_alloc (Below.refl w.heap.size w) (.cells (spc noS).toArray 34))
  have EB := Lib.hid (gotS_no (errS_sum h0 h1 h2) (by decide))
  have c : ∀ w, Calls Try.prog 19 #[.string s, .int .i64 226, .int .u8 83] w _ := fun w => marked_any s hs 226 (by omega) (by omega) 83 w
  rw [show markL s.data.toList 226 83 = (s.data.toList.take 226, 0) by rw [markL, if_neg (by omega), if_neg (by simpa using h1)]] at c
  obtain ⟨T, hT⟩ : ∃ T : ByteArray, T = ⟨(s.data.toList.take 226).toArray⟩ := ⟨_, rfl⟩
  obtain ⟨r, hr⟩ : ∃ r, r = (s.data.toList.drop 1).take 112 := ⟨_, rfl⟩
  have zT : T.size = 226 := by rw [hT, text_list, List.length_take]; omega
  have zr : r.length = 112 := by rw [hr, List.length_take, List.length_drop]; omega
  have t1 : T.extract 0 113 = ⟨(s.data.toList.take 113).toArray⟩ := by
    rw [head_of, hT]
    show (⟨((s.data.toList.take 226).take 113).toArray⟩ : ByteArray) = _
    rw [List.take_take]
    rfl
  have t2 : T.extract 113 226 = ⟨(piece s.data.toList 113 113).toArray⟩ := by
    rw [extract_mid, hT]
    show (⟨(((s.data.toList.take 226).drop 113).take (226 - 113)).toArray⟩ : ByteArray) = _
    rw [take_piece (by omega)]
  have E1 := Lib.hid (show T.extract 1 113 = ⟨r.toArray⟩ by
    rw [extract_mid, hT, hr]
    show (⟨(((s.data.toList.take 226).drop 1).take (113 - 1)).toArray⟩ : ByteArray) = _
    rw [take_piece (by omega)]
    rfl)
  have FL := Lib.hid (filledS s.data.toList r hr h0)
  have d1 : ((T.extract 0 113).toList == (T.extract 113 226).toList) = false := other_text (by rw [t1, t2]; exact text_inj h2)
  rw [← hT] at c
  have hcl := spc_length (decS_fits h0)
  have C := Lib.hid c
  clear c hT t1 t2 h0 h1 h2 hr
  go_enter Try.func14, Try.ntmps14
  go_wp2_with fail
  generalize hw1 : w.alloc (Obj.cells _ _) = w1
  replace HX : Hid (Has w1 w.heap.size 34 (spc noS)) := by rw [← hw1]; exact HX
  replace B1 : Hid (Below w.heap.size w w1) := by rw [← hw1]; exact B1
  clear hw1
  refine (C.out _).mono ?_; rintro e w2 ⟨rfl, rfl⟩
  go_wp2_with fail
  refine wp_region_held_drew (S := fun _ => True) (by kernel_rfl) (trivial) (fun hHeld => ?_)
  refine wpAnyH_take (i := 0) (v := ?_) rfl (by kernel_rfl) (by kernel_rfl) (by kernel_rfl) (fun _ _ _ h => h) (Or.inl ⟨by rfl, ?_⟩) (by assumption) ?_
  rotate_left
  · intro w hSw; (try dsimp only at hSw); go_simp; try with_reducible rfl
  try simp only [Act.put, List.getElem_toArray, List.getElem_cons_zero, List.setIfInBounds_toArray, List.set_cons_zero, List.set_cons_succ]
  refine wpAnyH_take (i := 1) (v := ?_) rfl (by kernel_rfl) (by kernel_rfl) (by kernel_rfl) (fun _ _ _ h => h) (Or.inl ⟨by rfl, ?_⟩) (by assumption) ?_
  rotate_left
  · intro w hSw; (try dsimp only at hSw); go_simp; try with_reducible rfl
  try simp only [Act.put, List.getElem_toArray, List.getElem_cons_zero, List.getElem_cons_succ, List.setIfInBounds_toArray, List.set_cons_zero, List.set_cons_succ]
  refine wpAnyH_take (i := 2) (v := ?_) rfl (by kernel_rfl) (by kernel_rfl) (by kernel_rfl) (fun _ _ _ h => h) (Or.inl ⟨by rfl, ?_⟩) (by assumption) ?_
  rotate_left
  · intro w hSw; (try dsimp only at hSw); go_simp; try with_reducible rfl
  try simp only [Act.put, List.getElem_toArray, List.getElem_cons_zero, List.getElem_cons_succ, List.setIfInBounds_toArray, List.set_cons_zero, List.set_cons_succ]
  refine wpAnyH_take (i := 3) (v := ?_) rfl (by kernel_rfl) (by kernel_rfl) (by kernel_rfl) (fun _ _ _ h => h) (Or.inl ⟨by rfl, ?_⟩) (by assumption) ?_
  rotate_left
  · intro w hSw; (try dsimp only at hSw); go_simp; try with_reducible rfl
  try simp only [Act.put, List.getElem_toArray, List.getElem_cons_zero, List.getElem_cons_succ, List.setIfInBounds_toArray, List.set_cons_zero, List.set_cons_succ]
  refine wpAnyH_take (i := 4) (v := ?_) rfl (by kernel_rfl) (by kernel_rfl) (by kernel_rfl) (fun _ _ _ h => h) (Or.inl ⟨by rfl, ?_⟩) (by assumption) ?_
  rotate_left
  · intro w hSw; (try dsimp only at hSw); go_simp; try with_reducible rfl
  try simp only [Act.put, List.getElem_toArray, List.getElem_cons_zero, List.getElem_cons_succ, List.setIfInBounds_toArray, List.set_cons_zero, List.set_cons_succ]
  refine wpAnyH_done (by kernel_rfl) ?_ _
  replace HX := Lib.hid HX.out.drew
  replace B1 := Lib.hid (up_trans B1.out (Below.refl w1.heap.size w1).drew)
  go_wp2_with (refine wpList_store_whole rfl 34 _ _ rfl w.heap.size 34 (spc noS) (spc noS) (by rfl) (by rfl) HX.out rfl (by rw [hi, hz]) hzo ?_; intro w9 hF9 hO9)
  refine bodyPost_ret_by (results_super Try.results14 _ _ w.heap.size _ _ hz (by rfl) hF9 (by rfl)) rfl ⟨by rw [EB.out]; rfl, hO9.below (Nat.le_refl _) B1.out⟩

set_option maxHeartbeats 2000000 in
set_option maxRecDepth 100000 in
theorem ggotS_ok (s : ByteArray) (hs : s.size ≤ maxLen) (h0 : 226 ≤ s.data.toList.length) (h1 : s.data.toList.headD 0 = 83) (h2 : s.data.toList.take 113 = piece s.data.toList 113 113) (w : World) :
    Calls Try.prog 14 #[.string s] w fun e w' => e = .returned (.tuple #[.agg (spc (gotS s.data.toList).1).toArray, .int .i64 ((gotS s.data.toList).2 : Nat)]) ∧ Below w.heap.size w w' := by
  have hz : (spc noS).length = 70 := spc_length noS_fits
  have hzo := spc_one noS
  have hi := info_super
  have zv := zero_super
  have hu := Try.underlying34
  have HX := Lib.hid (Has.make w 34 (spc noS))
  have B1 := Lib.hid (up_alloc (Below.refl w.heap.size w) (.cells (spc noS).toArray 34))
  have EB := Lib.hid (gotS_ok (errS_ok h0 h1 h2))
  have c : ∀ w, Calls Try.prog 19 #[.string s, .int .i64 226, .int .u8 83] w _ := fun w => marked_any s hs 226 (by omega) (by omega) 83 w
  rw [show markL s.data.toList 226 83 = (s.data.toList.take 226, 0) by rw [markL, if_neg (by omega), if_neg (by simpa using h1)]] at c
  obtain ⟨T, hT⟩ : ∃ T : ByteArray, T = ⟨(s.data.toList.take 226).toArray⟩ := ⟨_, rfl⟩
  obtain ⟨r, hr⟩ : ∃ r, r = (s.data.toList.drop 1).take 112 := ⟨_, rfl⟩
  have zT : T.size = 226 := by rw [hT, text_list, List.length_take]; omega
  have zr : r.length = 112 := by rw [hr, List.length_take, List.length_drop]; omega
  have t1 : T.extract 0 113 = ⟨(s.data.toList.take 113).toArray⟩ := by
    rw [head_of, hT]
    show (⟨((s.data.toList.take 226).take 113).toArray⟩ : ByteArray) = _
    rw [List.take_take]
    rfl
  have t2 : T.extract 113 226 = ⟨(piece s.data.toList 113 113).toArray⟩ := by
    rw [extract_mid, hT]
    show (⟨(((s.data.toList.take 226).drop 113).take (226 - 113)).toArray⟩ : ByteArray) = _
    rw [take_piece (by omega)]
  have E1 := Lib.hid (show T.extract 1 113 = ⟨r.toArray⟩ by
    rw [extract_mid, hT, hr]
    show (⟨(((s.data.toList.take 226).drop 1).take (113 - 1)).toArray⟩ : ByteArray) = _
    rw [take_piece (by omega)]
    rfl)
  have FL := Lib.hid (filledS s.data.toList r hr h0)
  have d1 : ((T.extract 0 113).toList == (T.extract 113 226).toList) = true := same_text (by rw [t1, t2, h2])
  rw [← hT] at c
  have hcl := spc_length (decS_fits h0)
  have C := Lib.hid c
  clear c hT t1 t2 h0 h1 h2 hr
  go_enter Try.func14, Try.ntmps14
  go_wp2_with fail
  generalize hw1 : w.alloc (Obj.cells _ _) = w1
  replace HX : Hid (Has w1 w.heap.size 34 (spc noS)) := by rw [← hw1]; exact HX
  replace B1 : Hid (Below w.heap.size w w1) := by rw [← hw1]; exact B1
  clear hw1
  refine (C.out _).mono ?_; rintro e w2 ⟨rfl, rfl⟩
  go_wp2_with fail
  refine wp_region_held_drew (S := fun _ => True) (by kernel_rfl) (trivial) (fun hHeld => ?_)
  refine wpAnyH_take (i := 0) (v := ?_) rfl (by kernel_rfl) (by kernel_rfl) (by kernel_rfl) (fun _ _ _ h => h) (Or.inl ⟨by rfl, ?_⟩) (by assumption) ?_
  rotate_left
  · intro w hSw; (try dsimp only at hSw); go_simp; try with_reducible rfl
  try simp only [Act.put, List.getElem_toArray, List.getElem_cons_zero, List.setIfInBounds_toArray, List.set_cons_zero, List.set_cons_succ]
  refine wpAnyH_take (i := 1) (v := ?_) rfl (by kernel_rfl) (by kernel_rfl) (by kernel_rfl) (fun _ _ _ h => h) (Or.inl ⟨by rfl, ?_⟩) (by assumption) ?_
  rotate_left
  · intro w hSw; (try dsimp only at hSw); go_simp; try with_reducible rfl
  try simp only [Act.put, List.getElem_toArray, List.getElem_cons_zero, List.getElem_cons_succ, List.setIfInBounds_toArray, List.set_cons_zero, List.set_cons_succ]
  refine wpAnyH_take (i := 2) (v := ?_) rfl (by kernel_rfl) (by kernel_rfl) (by kernel_rfl) (fun _ _ _ h => h) (Or.inl ⟨by rfl, ?_⟩) (by assumption) ?_
  rotate_left
  · intro w hSw; (try dsimp only at hSw); go_simp; try with_reducible rfl
  try simp only [Act.put, List.getElem_toArray, List.getElem_cons_zero, List.getElem_cons_succ, List.setIfInBounds_toArray, List.set_cons_zero, List.set_cons_succ]
  refine wpAnyH_take (i := 3) (v := ?_) rfl (by kernel_rfl) (by kernel_rfl) (by kernel_rfl) (fun _ _ _ h => h) (Or.inl ⟨by rfl, ?_⟩) (by assumption) ?_
  rotate_left
  · intro w hSw; (try dsimp only at hSw); go_simp; try with_reducible rfl
  try simp only [Act.put, List.getElem_toArray, List.getElem_cons_zero, List.getElem_cons_succ, List.setIfInBounds_toArray, List.set_cons_zero, List.set_cons_succ]
  refine wpAnyH_take (i := 4) (v := ?_) rfl (by kernel_rfl) (by kernel_rfl) (by kernel_rfl) (fun _ _ _ h => h) (Or.inl ⟨by rfl, ?_⟩) (by assumption) ?_
  rotate_left
  · intro w hSw; (try dsimp only at hSw); go_simp; try with_reducible rfl
  try simp only [Act.put, List.getElem_toArray, List.getElem_cons_zero, List.getElem_cons_succ, List.setIfInBounds_toArray, List.set_cons_zero, List.set_cons_succ]
  refine wpAnyH_done (by kernel_rfl) ?_ _
  have hbn := (Below.refl w1.heap.size w1).drew
  generalize w1.drew = wn at *
  replace HX := Lib.hid (HX.out.up hbn)
  replace B1 := Lib.hid (up_trans B1.out hbn)
  have hlt := HX.out.lt
  clear hbn
  go_wp2_with fail
  generalize hW3 : ((wn.alloc _).alloc _).alloc _ = W3
  have hb0 : W3.heap.size = wn.heap.size + 1 + 1 + 1 := by rw [← hW3]; simp
  have HB3 : Hid (Has W3 wn.heap.size 34 (spc noS)) := Lib.hid (by rw [← hW3]; exact ((Has.make wn 34 (spc noS)).alloc _).alloc _)
  have HR3 : Hid (Has W3 (wn.heap.size + 1) 50 [.string ⟨r.toArray⟩]) := Lib.hid (by rw [← hW3, ← E1.out]; exact (Has.make2 wn _ 50 [.string (T.extract 1 113)]).alloc _)
  have HP3 : Hid (Has W3 (wn.heap.size + 1 + 1) 55 (ptrs wn.heap.size [0, 1, 2, 35, 36, 37])) := Lib.hid (by rw [← hW3]; exact Has.make3 wn _ _ 55 (ptrs wn.heap.size [0, 1, 2, 35, 36, 37]))
  replace HX : Hid (Has W3 w.heap.size 34 (spc noS)) := Lib.hid (by rw [← hW3]; exact ((HX.out.alloc _).alloc _).alloc _)
  replace B1 : Hid (Below w.heap.size w W3) := Lib.hid (by rw [← hW3]; exact up_alloc (up_alloc (up_alloc B1.out _) _) _)
  clear hW3
  generalize wn.heap.size = b at *
  refine (read64_any (b + 1) b (b + 1 + 1) 6 [0, 1, 2, 35, 36, 37] r 34 (spc noS) (by omega) (by simp; omega) (by rw [hz]; simp) (by omega) (by omega) (by omega) W3 HR3.out HB3.out HP3.out).mono ?_; rintro e W4 ⟨rfl, F4⟩
  replace HX := Lib.hid (F4.only.keep (by omega) (by omega) HX.out)
  replace B1 := Lib.hid (F4.only.below (by omega) (by omega) (by omega) B1.out)
  have hs4 := F4.only.size
  have HB4 := Lib.hid F4.cells
  have HR4 := Lib.hid F4.rest
  clear F4 HB3 HR3 HP3
  have hsl := setN_length [0, 1, 2, 35, 36, 37] (spc noS) r
  rw [hz] at hsl
  go_wp2_with fail
  generalize hW5 : W4.alloc _ = W5
  have HP5 : Hid (Has W5 W4.heap.size 59 (ptrs b [3, 38])) := Lib.hid (by rw [← hW5]; exact Has.make W4 59 (ptrs b [3, 38]))
  replace HB4 := Lib.hid (show Has W5 b _ _ by rw [← hW5]; exact HB4.out.alloc _)
  replace HR4 := Lib.hid (show Has W5 (b + 1) _ _ by rw [← hW5]; exact HR4.out.alloc _)
  replace HX := Lib.hid (show Has W5 w.heap.size _ _ by rw [← hW5]; exact HX.out.alloc _)
  replace B1 : Hid (Below w.heap.size w W5) := Lib.hid (by rw [← hW5]; exact up_alloc B1.out _)
  have hs5 : W5.heap.size = W4.heap.size + 1 := by rw [← hW5]; simp
  clear hW5
  refine (read32_any (b + 1) b W4.heap.size 2 [3, 38] (r.drop (8 * ([0, 1, 2, 35, 36, 37] : List Nat).length)) 34 _ (by rw [List.length_drop]; omega) (by rw [List.length_drop]; simp; omega) (by rw [hsl]; simp) (by omega) (by omega) (by omega) W5 HR4.out HB4.out HP5.out).mono ?_; rintro e W6 ⟨rfl, F6⟩
  replace HX := Lib.hid (F6.only.keep (by omega) (by omega) HX.out)
  replace B1 := Lib.hid (F6.only.below (by omega) (by omega) (by omega) B1.out)
  have hs6 := F6.only.size
  have HB6 : Hid (Has W6 b 34 (spc (decS s.data.toList))) := Lib.hid (by have h := F6.cells; rwa [show (8 * ([0, 1, 2, 35, 36, 37] : List Nat).length) = 48 from rfl, FL.out] at h)
  clear F6 HB4 HR4 HP5
  go_wp2_with (first
    | (refine wpList_load_row rfl 34 _ rfl b (by rfl) _ _ _ _ HB6.out hu rfl (by rw [hi, List.size_toArray, hcl]) ?_)
    | (refine wpList_store_whole rfl 34 _ _ rfl w.heap.size 34 (spc noS) (spc (decS s.data.toList)) (by rfl) (by rfl) HX.out (by rw [hcl, hz]) (by rw [hi, hcl]) (spc_one _) ?_; intro w9 hF9 hO9))
  refine bodyPost_ret_by (results_super Try.results14 _ _ w.heap.size _ _ hcl (by rfl) hF9 (by rfl)) rfl ⟨by rw [EB.out]; rfl, hO9.below (Nat.le_refl _) B1.out⟩

theorem gsuper_any (s : ByteArray) (hs : s.size ≤ maxLen) (w : World) :
    Calls Try.prog 14 #[.string s] w fun e w' => e = .returned (.tuple #[.agg (spc (gotS s.data.toList).1).toArray, .int .i64 ((gotS s.data.toList).2 : Nat)]) ∧ Below w.heap.size w w' := by
  by_cases h0 : s.data.toList.length < 226
  · exact ggotS_mark s hs 4 (by decide) (by rw [markL, if_pos h0]) (gotS_no (errS_few h0) (by decide)) w
  by_cases h1 : s.data.toList.headD 0 = 83
  · by_cases h2 : s.data.toList.take 113 = piece s.data.toList 113 113
    · exact ggotS_ok s hs (by omega) h1 h2 w
    · exact ggotS_sum s hs (by omega) h1 h2 w
  · exact ggotS_mark s hs 3 (by decide) (by rw [markL, if_neg h0, if_pos h1]) (gotS_no (errS_mark (by omega) h1) (by decide)) w

end Go.Proofs.Ytfnjegjieglbbaa
