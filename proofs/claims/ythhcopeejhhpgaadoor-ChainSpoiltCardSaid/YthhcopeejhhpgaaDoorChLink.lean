/- The document's Link. -/
import Derived.Test.YthhcopeejhhpgaaDoorChCheck
import Derived.Test.YthhcopeejhhpgaaDoorBats5
import Derived.Laws.Tables
namespace Go.Proofs.YthhcopeejhhpgaaDoor
open Go.RowKit Wire Evt Bat Crc Chn

/-- A value that is put together, taken in its turn. -/
theorem wpList_build {ops : Array Oper} {rest : List Oper} {op : Oper} {a : Act} {w : World} {Q : Exit → Act → World → Prop} (hgd : op.guard = none) (t : TypeId) (parts : Array (Nat × Operand)) (ho : op.op = .build t parts)
    (cells : List Value) (hc : Tryd.prog.built t (parts.toList.map fun p => (p.1, a.eval p.2)) = some cells.toArray)
    (h : wpList Tryd.prog ops Q rest (a.put op.dst (.agg cells.toArray)) w) : wpList Tryd.prog ops Q (op :: rest) a w :=
  wpList_plain hgd fun K hK => by
    have hc' : Tryd.prog.built t (parts.map fun (i, x) => (i, a.eval x)).toList = some cells.toArray := by rw [Array.toList_map]; exact hc
    unfold Oper.wp execOp
    simp only [ho, Sem.run_bind, run_build w t _ cells.toArray hc', Result.andThen_ok]
    exact hK _ _ h

theorem fold_puts : ∀ (xs : List Value) (k off : Nat) (cs : List Value), off + k + xs.length ≤ cs.length →
    (xs.zipIdx k).foldl (fun (c : Array Value) (p : Value × Nat) => c.setIfInBounds (off + p.2) p.1) cs.toArray = (cs.take (off + k) ++ xs ++ cs.drop (off + k + xs.length)).toArray
  | [], k, off, cs, _ => by simp
  | x :: xs, k, off, cs, h => by
    have h' : off + k + (xs.length + 1) ≤ cs.length := h
    have e : cs.toArray.setIfInBounds (off + k) x = (cs.set (off + k) x).toArray := by simp
    rw [List.zipIdx_cons, List.foldl_cons, e, fold_puts xs (k + 1) off (cs.set (off + k) x) (by rw [List.length_set]; omega)]
    have e1 : (cs.set (off + k) x).take (off + (k + 1)) = cs.take (off + k) ++ [x] := by
      rw [show off + (k + 1) = off + k + 1 by omega, List.take_succ_eq_append_getElem (by rw [List.length_set]; omega), List.take_set]
      rw [List.set_eq_of_length_le (by rw [List.length_take]; omega)]
      simp
    have e2 : (cs.set (off + k) x).drop (off + (k + 1) + xs.length) = cs.drop (off + k + (x :: xs).length) := by
      rw [List.drop_set_of_lt (by omega)]
      congr 1
      simp; omega
    rw [e1, e2]
    simp

theorem zero_batch : (Tryd.prog.info? 27).map (·.zero) = some (some (.agg zbt.toArray)) := by kernel_rfl

/-- A batch, put together of its events and the sum ahead. -/
theorem built_bat (v : Value) (hv : v.cells = #[v]) (p : List UInt8) (hp : p.length = 32) : Tryd.prog.built 27 [(2, .agg (bys p).toArray), (1, v)] = some (btc 0 v p).toArray := by
  obtain ⟨it, hit, hz⟩ := Option.map_eq_some_iff.1 zero_batch
  obtain ⟨fs, hu, hf⟩ : ∃ fs : Array Field, Tryd.prog.underlying 27 = some (.struct fs) ∧ fs.toList.mapM (fun f => (Tryd.prog.info? f.type).map fun i => (f.offset, i.size)) = some [(0, 1), (1, 1), (2, 32)] := ⟨_, Tryd.underlying27, by kernel_rfl⟩
  unfold Program.built
  simp only [hit, hu, hz, hf]
  have hbl : (bys p).toArray.size = 32 := by rw [List.size_toArray, bys_length, hp]
  have hbl2 : (bys p).length = 32 := by rw [bys_length, hp]
  have hzl : zbt.length = 34 := btc_length _ _ (by simp)
  show Instr.fill ([(0, 1), (1, 1), (2, 32)].toArray[·]?) zbt.toArray [(2, .agg (bys p).toArray), (1, v)] = _
  unfold Instr.fill
  have hpl : ([(0, 1), (1, 1), (2, 32)] : List (Nat × Nat)).toArray[2]? = some (2, 32) := rfl
  simp only [hpl]
  have hcs : (Value.agg (bys p).toArray).cells = (bys p).toArray := rfl
  rw [hcs, hbl, if_neg (by simp [hzl])]
  have hf1 := fold_puts (bys p) 0 2 zbt (by rw [hbl2, hzl]; decide)
  have hf2 : (bys p).toArray.zipIdx.foldl (fun (c : Array Value) (p : Value × Nat) => c.setIfInBounds (2 + p.2) p.1) zbt.toArray = (btc 0 (.slice none 0 0) p).toArray := by
    rw [← Array.foldl_toList, Array.toList_zipIdx, hf1, hbl2]
    have : zbt.drop 34 = [] := by rw [List.drop_eq_nil_iff]; omega
    show ([_, _] ++ bys p ++ zbt.drop 34).toArray = _
    rw [this, List.append_nil]
    rfl
  rw [hf2]
  unfold Instr.fill
  have hpl1 : ([(0, 1), (1, 1), (2, 32)] : List (Nat × Nat)).toArray[1]? = some (1, 1) := rfl
  simp only [hpl1, hv]
  rw [if_neg (by simp [btc])]
  unfold Instr.fill
  simp [btc]

theorem built_none : Tryd.prog.built 27 [] = some zbt.toArray := by
  obtain ⟨it, hit, hz⟩ := Option.map_eq_some_iff.1 zero_batch
  obtain ⟨fs, hu, hf⟩ : ∃ fs : Array Field, Tryd.prog.underlying 27 = some (.struct fs) ∧ fs.toList.mapM (fun f => (Tryd.prog.info? f.type).map fun i => (f.offset, i.size)) = some [(0, 1), (1, 1), (2, 32)] := ⟨_, Tryd.underlying27, by kernel_rfl⟩
  unfold Program.built
  simp only [hit, hu, hz, hf]
  rfl

/-- What Link gives. -/
def LinkPost (p : List UInt8) (l : List Ev) (v : Value) (e : Ending) : Prop :=
  e = .returned (.tuple #[.agg (if isB (headSeq l) l = true then btc (headSeq l) v p else zbt).toArray, .string ⟨(putB (lnk p l)).1.toArray⟩, .int .i64 ((putB (lnk p l)).2 : Nat)])

theorem link_yes (p : List UInt8) (l : List Ev) (v : Value) (h : isB (headSeq l) l = true) : LinkPost p l v (.returned (.tuple #[.agg (btc (headSeq l) v p).toArray, .string ⟨(whole (lnk p l)).toArray⟩, .int .i64 0])) := by
  unfold LinkPost
  rw [if_pos h, putB_yes (show isB (lnk p l).first (lnk p l).evs = true from h)]
  rfl
theorem link_no (p : List UInt8) (l : List Ev) (v : Value) (h : isB (headSeq l) l = false) : LinkPost p l v (.returned (.tuple #[.agg zbt.toArray, .string ⟨#[]⟩, .int .i64 1])) := by
  unfold LinkPost
  rw [if_neg (by rw [h]; simp), putB_no (show isB (lnk p l).first (lnk p l).evs = false from h)]
  rfl

/-- Where a link stands. -/
structure Lkd (w wr : World) (L : List Value) : Prop where
  res : Has wr (w.heap.size + 1) 27 zbt
  bat : Has wr (w.heap.size + 1 + 1) 27 L
  below : Below w.heap.size w wr
theorem Lkd.up {w wr w' : World} {L : List Value} (h : Lkd w wr L) (b : Below wr.heap.size wr w') : Lkd w w' L := ⟨h.res.up b, h.bat.up b, up_trans h.below b⟩
theorem Lkd.store {w wr w' : World} {L L' : List Value} (h : Lkd w wr L) (hF : Has w' (w.heap.size + 1 + 1) 27 L') (s : Save (fun k => k = w.heap.size + 1 + 1) wr w') : Lkd w w' L' :=
  ⟨s.has h.res (fun e => by omega), hF, h.below.trans (s.below (fun k e => by omega) h.below.size)⟩
theorem Lkd.first {w wr : World} {v : Value} {p : List UInt8} (h : Lkd w wr (btc 0 v p)) (q : Nat) : Lkd w (wr.setCell ⟨w.heap.size + 1 + 1, 0, none⟩ (.int .u64 (q : Nat))) (btc q v p) :=
  ⟨h.res.other (p := ⟨w.heap.size + 1 + 1, 0, none⟩) (by simp) _, h.bat.set 0 (.int .u64 (q : Nat)), h.below.setCell (p := ⟨w.heap.size + 1 + 1, 0, none⟩) (by simp; omega) (.int .u64 (q : Nat))⟩

set_option maxHeartbeats 2000000 in
set_option maxRecDepth 100000 in
theorem rlink_none (p : List UInt8) (hp : p.length = 32) (A : Option Addr) (cap : Nat) (w : World) :
    Calls Tryd.prog 10 #[.agg (bys p).toArray, .slice A 0 cap] w fun e w' => LinkPost p [] (.slice A 0 cap) e ∧ Below w.heap.size w w' := by
  have hz : zbt.length = 34 := btc_length _ _ (by simp)
  have hzo : ∀ v ∈ zbt, v.oneCell' = true := btc_one 0 none 0 0 _
  have hi := info_batch
  have hu := Tryd.underlying27
  have hdi := info_digest
  have hdu := Tryd.underlying23
  have hpl : (bys p).length = 32 := by rw [bys_length, hp]
  have HB := Lib.hid (built_bat (.slice A 0 cap) rfl p hp)
  have HN := Lib.hid built_none
  have hbl : (btc 0 (.slice A 0 cap) p).length = 34 := btc_length _ _ hp
  have hbo := btc_one 0 A 0 cap p
  have HE := Lib.hid (link_no p [] (.slice A 0 cap) rfl)
  have cp := fun w => rbput_any (lnk p []) ⟨show (0 : Nat) < _ by decide, hp, fun _ h => by cases h⟩ (Nat.zero_le _) A 0 cap rfl w (fun h => by cases h)
  rw [putB_no (show isB (lnk p []).first (lnk p []).evs = false from rfl)] at cp
  have CP : Hid (∀ w, Calls Tryd.prog 25 #[.agg (btc 0 (.slice A 0 cap) p).toArray] w fun e w' => e = .returned (.tuple #[.string ⟨#[]⟩, .int .i64 1]) ∧ Below w.heap.size w w') := Lib.hid cp
  clear cp hp
  have HP : Hid (Has ((w.alloc (.cells (bys p).toArray 23)).alloc (.cells zbt.toArray 27)) w.heap.size 23 (bys p)) := Lib.hid ((Has.make w 23 (bys p)).alloc _)
  have HL : Hid (Lkd w (((w.alloc (.cells (bys p).toArray 23)).alloc (.cells zbt.toArray 27)).alloc (.cells zbt.toArray 27)) zbt) := Lib.hid ⟨(Has.make2 w _ _ zbt).alloc _, Has.make3 w _ _ _ zbt, up_alloc (up_alloc (up_alloc (Below.refl w.heap.size w) _) _) _⟩
  go_enter Tryd.func10, Tryd.ntmps10
  go_wp2_with (first | (refine wpList_load_row rfl 23 _ rfl w.heap.size (by rfl) _ _ _ _ HP.out hdu rfl (by rw [hdi, List.size_toArray, hpl]) ?_) | (refine wpList_build rfl 27 _ rfl _ HB.out ?_) | (refine wpList_store_save rfl 27 _ _ rfl (w.heap.size + 1 + 1) 27 zbt (btc 0 (.slice A 0 cap) p) (by rfl) (by rfl) HL.out.bat (by rw [hbl, hz]) (by rw [hi, hbl]) hbo ?_; intro w3 hF3 s3; have HL3 := Lib.hid (HL.out.store hF3 s3); clear hF3 s3) | (refine wpList_load_row rfl 27 _ rfl (w.heap.size + 1 + 1) (by rfl) _ _ _ _ HL3.out.bat hu rfl (by rw [hi, List.size_toArray, hbl]) ?_))
  refine (CP.out _).mono ?_; rintro e w5 ⟨rfl, b5⟩
  have HL5 := Lib.hid (HL3.out.up b5)
  clear b5
  go_wp2_with (first | (refine wpList_build rfl 27 _ rfl _ HN.out ?_) | (refine wpList_store_save rfl 27 _ _ rfl (w.heap.size + 1) 27 zbt zbt (by rfl) (by rfl) HL5.out.res (by rw [hz]) (by rw [hi, hz]) hzo ?_; intro w6 hF6 s6; have HR6 := Lib.hid hF6; have B6 := Lib.hid (HL5.out.below.trans (s6.below (fun k e => by omega) HL5.out.below.size)); clear hF6 s6))
  refine bodyPost_ret_by (results_got Tryd.results10 _ _ (w.heap.size + 1) zbt (.string ⟨#[]⟩) (.int .i64 1) (by rfl) HR6.out hz (by rfl) (by rfl)) rfl ⟨HE.out, B6.out⟩

set_option maxHeartbeats 2000000 in
set_option maxRecDepth 100000 in
theorem rlink_yes (p : List UInt8) (hp : p.length = 32) (x : Ev) (m : List Ev) (hs : ∀ y ∈ x :: m, y.seq < 18446744073709551616) (h : isB x.seq (x :: m) = true) (g o n cap : Nat) (hn : n = (x :: m).length) (hm : (x :: m).length ≤ 140737488355327) (w : World) (hA : EvSl w (some ⟨g, o, none⟩) (x :: m)) :
    Calls Tryd.prog 10 #[.agg (bys p).toArray, .slice (some ⟨g, o, none⟩) n cap] w fun e w' => LinkPost p (x :: m) (.slice (some ⟨g, o, none⟩) n cap) e ∧ Below w.heap.size w w' := by
  have hz : zbt.length = 34 := btc_length _ _ (by simp)
  have hzo : ∀ v ∈ zbt, v.oneCell' = true := btc_one 0 none 0 0 _
  have hi := info_batch
  have hu := Tryd.underlying27
  have hdi := info_digest
  have hdu := Tryd.underlying23
  have hpl : (bys p).length = 32 := by rw [bys_length, hp]
  have HB := Lib.hid (built_bat (.slice (some ⟨g, o, none⟩) n cap) rfl p hp)
  have HN := Lib.hid built_none
  have hbl : (btc 0 (.slice (some ⟨g, o, none⟩) n cap) p).length = 34 := btc_length _ _ hp
  have hbl2 : (btc x.seq (.slice (some ⟨g, o, none⟩) n cap) p).length = 34 := btc_length _ _ hp
  have hbo := btc_one 0 (some ⟨g, o, none⟩) n cap p
  have hbo2 := btc_one x.seq (some ⟨g, o, none⟩) n cap p
  have HE : Hid (LinkPost p (x :: m) (.slice (some ⟨g, o, none⟩) n cap) (.returned (.tuple #[.agg (btc x.seq (.slice (some ⟨g, o, none⟩) n cap) p).toArray, .string ⟨(whole (lnk p (x :: m))).toArray⟩, .int .i64 0]))) := Lib.hid (link_yes p (x :: m) (.slice (some ⟨g, o, none⟩) n cap) h)
  have cp := fun w hA => rbput_any (lnk p (x :: m)) ⟨hs x (List.mem_cons_self ..), hp, hs⟩ hm (some ⟨g, o, none⟩) n cap hn w hA
  rw [putB_yes (show isB (lnk p (x :: m)).first (lnk p (x :: m)).evs = true from h)] at cp
  have CP : Hid (∀ w, EvSl w (some ⟨g, o, none⟩) (x :: m) → Calls Tryd.prog 25 #[.agg (btc x.seq (.slice (some ⟨g, o, none⟩) n cap) p).toArray] w fun e w' => e = .returned (.tuple #[.string ⟨(whole (lnk p (x :: m))).toArray⟩, .int .i64 0]) ∧ Below w.heap.size w w') := Lib.hid cp
  have n1 : 0 < n := by rw [hn]; simp
  have e0 : ∀ W, Below w.heap.size w W → W.cell? ⟨g, o, none⟩ = some (.int .u64 (x.seq : Nat)) := fun W hb => by
    obtain ⟨g', o', e1, hev⟩ := (hA.up hb) (by simp)
    cases e1
    simpa using hev 0 x rfl 0 (.int .u64 (x.seq : Nat)) rfl
  have E0 := Lib.hid e0
  have HA := Lib.hid hA
  clear cp hp hn hm hs h hA e0
  generalize x.seq = q at *
  have HP : Hid (Has ((w.alloc (.cells (bys p).toArray 23)).alloc (.cells zbt.toArray 27)) w.heap.size 23 (bys p)) := Lib.hid ((Has.make w 23 (bys p)).alloc _)
  have HL : Hid (Lkd w (((w.alloc (.cells (bys p).toArray 23)).alloc (.cells zbt.toArray 27)).alloc (.cells zbt.toArray 27)) zbt) := Lib.hid ⟨(Has.make2 w _ _ zbt).alloc _, Has.make3 w _ _ _ zbt, up_alloc (up_alloc (up_alloc (Below.refl w.heap.size w) _) _) _⟩
  go_enter Tryd.func10, Tryd.ntmps10
  go_wp2_with (first | (refine wpList_load_row rfl 23 _ rfl w.heap.size (by rfl) _ _ _ _ HP.out hdu rfl (by rw [hdi, List.size_toArray, hpl]) ?_) | (refine wpList_build rfl 27 _ rfl _ HB.out ?_) | (refine wpList_store_save rfl 27 _ _ rfl (w.heap.size + 1 + 1) 27 zbt (btc 0 (.slice (some ⟨g, o, none⟩) n cap) p) (by rfl) (by rfl) HL.out.bat (by rw [hbl, hz]) (by rw [hi, hbl]) hbo ?_; intro w3 hF3 s3; have HL3 := Lib.hid (HL.out.store hF3 s3); clear hF3 s3; have ce := E0.out _ HL3.out.below; have cb := HL3.out.bat.at (i := 0) rfl; have cf := HL3.out.bat.free 0; have HL4 := Lib.hid (HL3.out.first q)) | (refine wpList_load_row rfl 27 _ rfl (w.heap.size + 1 + 1) (by rfl) _ _ _ _ HL4.out.bat hu rfl (by rw [hi, List.size_toArray, hbl2]) ?_))
  refine (CP.out _ (HA.out.up HL4.out.below)).mono ?_; rintro e w5 ⟨rfl, b5⟩
  have HL5 := Lib.hid (HL4.out.up b5)
  clear b5 ce cb cf
  go_wp2_with (first | (refine wpList_load_row rfl 27 _ rfl (w.heap.size + 1 + 1) (by rfl) _ _ _ _ HL5.out.bat hu rfl (by rw [hi, List.size_toArray, hbl2]) ?_) | (refine wpList_store_save rfl 27 _ _ rfl (w.heap.size + 1) 27 zbt (btc q (.slice (some ⟨g, o, none⟩) n cap) p) (by rfl) (by rfl) HL5.out.res (by rw [hbl2, hz]) (by rw [hi, hbl2]) hbo2 ?_; intro w6 hF6 s6; have HR6 := Lib.hid hF6; have B6 := Lib.hid (HL5.out.below.trans (s6.below (fun k e => by omega) HL5.out.below.size)); clear hF6 s6))
  refine bodyPost_ret_by (results_got Tryd.results10 _ _ (w.heap.size + 1) _ (.string ⟨(whole (lnk p (x :: m))).toArray⟩) (.int .i64 0) (by rfl) HR6.out hbl2 (by rfl) (by rfl)) rfl ⟨HE.out, B6.out⟩

set_option maxHeartbeats 2000000 in
set_option maxRecDepth 100000 in
theorem rlink_no (p : List UInt8) (hp : p.length = 32) (x : Ev) (m : List Ev) (hs : ∀ y ∈ x :: m, y.seq < 18446744073709551616) (h : isB x.seq (x :: m) = false) (g o n cap : Nat) (hn : n = (x :: m).length) (hm : (x :: m).length ≤ 140737488355327) (w : World) (hA : EvSl w (some ⟨g, o, none⟩) (x :: m)) :
    Calls Tryd.prog 10 #[.agg (bys p).toArray, .slice (some ⟨g, o, none⟩) n cap] w fun e w' => LinkPost p (x :: m) (.slice (some ⟨g, o, none⟩) n cap) e ∧ Below w.heap.size w w' := by
  have hz : zbt.length = 34 := btc_length _ _ (by simp)
  have hzo : ∀ v ∈ zbt, v.oneCell' = true := btc_one 0 none 0 0 _
  have hi := info_batch
  have hu := Tryd.underlying27
  have hdi := info_digest
  have hdu := Tryd.underlying23
  have hpl : (bys p).length = 32 := by rw [bys_length, hp]
  have HB := Lib.hid (built_bat (.slice (some ⟨g, o, none⟩) n cap) rfl p hp)
  have HN := Lib.hid built_none
  have hbl : (btc 0 (.slice (some ⟨g, o, none⟩) n cap) p).length = 34 := btc_length _ _ hp
  have hbl2 : (btc x.seq (.slice (some ⟨g, o, none⟩) n cap) p).length = 34 := btc_length _ _ hp
  have hbo := btc_one 0 (some ⟨g, o, none⟩) n cap p
  have hbo2 := btc_one x.seq (some ⟨g, o, none⟩) n cap p
  have HE : Hid (LinkPost p (x :: m) (.slice (some ⟨g, o, none⟩) n cap) (.returned (.tuple #[.agg (zbt).toArray, .string ⟨#[]⟩, .int .i64 1]))) := Lib.hid (link_no p (x :: m) (.slice (some ⟨g, o, none⟩) n cap) h)
  have cp := fun w hA => rbput_any (lnk p (x :: m)) ⟨hs x (List.mem_cons_self ..), hp, hs⟩ hm (some ⟨g, o, none⟩) n cap hn w hA
  rw [putB_no (show isB (lnk p (x :: m)).first (lnk p (x :: m)).evs = false from h)] at cp
  have CP : Hid (∀ w, EvSl w (some ⟨g, o, none⟩) (x :: m) → Calls Tryd.prog 25 #[.agg (btc x.seq (.slice (some ⟨g, o, none⟩) n cap) p).toArray] w fun e w' => e = .returned (.tuple #[.string ⟨#[]⟩, .int .i64 1]) ∧ Below w.heap.size w w') := Lib.hid cp
  have n1 : 0 < n := by rw [hn]; simp
  have e0 : ∀ W, Below w.heap.size w W → W.cell? ⟨g, o, none⟩ = some (.int .u64 (x.seq : Nat)) := fun W hb => by
    obtain ⟨g', o', e1, hev⟩ := (hA.up hb) (by simp)
    cases e1
    simpa using hev 0 x rfl 0 (.int .u64 (x.seq : Nat)) rfl
  have E0 := Lib.hid e0
  have HA := Lib.hid hA
  clear cp hp hn hm hs h hA e0
  generalize x.seq = q at *
  have HP : Hid (Has ((w.alloc (.cells (bys p).toArray 23)).alloc (.cells zbt.toArray 27)) w.heap.size 23 (bys p)) := Lib.hid ((Has.make w 23 (bys p)).alloc _)
  have HL : Hid (Lkd w (((w.alloc (.cells (bys p).toArray 23)).alloc (.cells zbt.toArray 27)).alloc (.cells zbt.toArray 27)) zbt) := Lib.hid ⟨(Has.make2 w _ _ zbt).alloc _, Has.make3 w _ _ _ zbt, up_alloc (up_alloc (up_alloc (Below.refl w.heap.size w) _) _) _⟩
  go_enter Tryd.func10, Tryd.ntmps10
  go_wp2_with (first | (refine wpList_load_row rfl 23 _ rfl w.heap.size (by rfl) _ _ _ _ HP.out hdu rfl (by rw [hdi, List.size_toArray, hpl]) ?_) | (refine wpList_build rfl 27 _ rfl _ HB.out ?_) | (refine wpList_store_save rfl 27 _ _ rfl (w.heap.size + 1 + 1) 27 zbt (btc 0 (.slice (some ⟨g, o, none⟩) n cap) p) (by rfl) (by rfl) HL.out.bat (by rw [hbl, hz]) (by rw [hi, hbl]) hbo ?_; intro w3 hF3 s3; have HL3 := Lib.hid (HL.out.store hF3 s3); clear hF3 s3; have ce := E0.out _ HL3.out.below; have cb := HL3.out.bat.at (i := 0) rfl; have cf := HL3.out.bat.free 0; have HL4 := Lib.hid (HL3.out.first q)) | (refine wpList_load_row rfl 27 _ rfl (w.heap.size + 1 + 1) (by rfl) _ _ _ _ HL4.out.bat hu rfl (by rw [hi, List.size_toArray, hbl2]) ?_))
  refine (CP.out _ (HA.out.up HL4.out.below)).mono ?_; rintro e w5 ⟨rfl, b5⟩
  have HL5 := Lib.hid (HL4.out.up b5)
  clear b5 ce cb cf
  go_wp2_with (first | (refine wpList_build rfl 27 _ rfl _ HN.out ?_) | (refine wpList_store_save rfl 27 _ _ rfl (w.heap.size + 1) 27 zbt zbt (by rfl) (by rfl) HL5.out.res (by rw [hz]) (by rw [hi, hz]) hzo ?_; intro w6 hF6 s6; have HR6 := Lib.hid hF6; have B6 := Lib.hid (HL5.out.below.trans (s6.below (fun k e => by omega) HL5.out.below.size)); clear hF6 s6))
  refine bodyPost_ret_by (results_got Tryd.results10 _ _ (w.heap.size + 1) zbt (.string ⟨#[]⟩) (.int .i64 1) (by rfl) HR6.out hz (by rfl) (by rfl)) rfl ⟨HE.out, B6.out⟩

theorem rlink_any (p : List UInt8) (hp : p.length = 32) (l : List Ev) (hs : ∀ x ∈ l, x.seq < 18446744073709551616) (A : Option Addr) (n cap : Nat) (hn : n = l.length) (hm : l.length ≤ 140737488355327) (w : World) (hA : EvSl w A l) :
    Calls Tryd.prog 10 #[.agg (bys p).toArray, .slice A n cap] w fun e w' => LinkPost p l (.slice A n cap) e ∧ Below w.heap.size w w' := by
  cases l with
  | nil => subst hn; exact rlink_none p hp A cap w
  | cons x m =>
    obtain ⟨g, o, rfl, _⟩ := hA (by simp)
    cases h : isB x.seq (x :: m) with
    | true => exact rlink_yes p hp x m hs h g o n cap hn hm w hA
    | false => exact rlink_no p hp x m hs h g o n cap hn hm w hA

end Go.Proofs.YthhcopeejhhpgaaDoor
