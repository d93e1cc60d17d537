/- A body, read by the document's own answer: the contract of blackboxref05.body. -/
import Derived.Test.YthhcopeejhhpgaaDoorBats3
import Derived.Test.YthhcopeejhhpgaaDoorBats2
import Derived.Test.YthhcopeejhhpgaaDoorWires
import Derived.Test.YthhcopeejhhpgaaDoorEvGets
import Derived.Test.YthhcopeejhhpgaaDoorCrcs
namespace Go.Proofs.YthhcopeejhhpgaaDoor
open Go.RowKit Wire Evt Bat

theorem results_one {fn : Func} {p u : Tmp} (h : fn.results = #[.cell p 27, .tmp u]) (tmps : Array Value) (w : World) (g : Nat) (L : List Value) (v : Value)
    (hp : tmps.getD p undef = .pointer (some ⟨g, 0, none⟩)) (hg : Has w g 27 L) (hL : L.length = 34) (hv : tmps.getD u undef = v) :
    (results fn tmps).run Tryd.prog w = .ok (.tuple #[.agg L.toArray, v]) w := by
  have hi : (Tryd.prog.info? 27).map (·.size) = some L.toArray.size := by rw [List.size_toArray, hL, info_batch]
  rw [results_cell_tmp h, hp, hv]
  have := run_loadVar_row (P := Tryd.prog) w g 27 27 L.toArray (0, 0) _ hg Tryd.underlying27 rfl hi
  simp [asAddr, this]

theorem wp_store_whole {P : Program} {op : Oper} {a : Act} {w : World} {K : Act → World → Prop} {Q : Exit → Act → World → Prop} (ty : TypeId) (x y : Operand) (ho : op.op = .store ty x y)
    (g : Nat) (t : TypeId) (l vs : List Value) (hx : a.eval x = .pointer (some ⟨g, 0, none⟩)) (hy : a.eval y = .agg vs.toArray) (hg : Has w g t l) (hl : vs.length = l.length)
    (hi : (P.info? ty).map (·.size) = some vs.length) (h1 : ∀ v ∈ vs, v.oneCell' = true)
    (h : ∀ w', Has w' g t vs → Only w w' g → K (a.put op.dst undef) w') : op.wp P a w K Q :=
  wp_store_mid ty x y ho g 0 vs.toArray hx hy (hg.there 0 _ (by simp; omega)) (by simpa using hi) (all_oneCell_toArray h1)
    (h _ (hg.setWhole hl) ⟨size_setCells _ _ _ _, fun hne hk => hk.setOther hne vs 0, fun hB hb => below_setCells hB _ _ hb⟩)

/-- Where the document's body stands: the result, still empty, and the batch. -/
structure Rb (w w1 : World) (L : List Value) : Prop where
  Z : Has w1 w.heap.size 27 zbt
  B : Has w1 (w.heap.size + 1) 27 L
  below : Below w.heap.size w w1
theorem Rb.up {w w1 w2 : World} {L : List Value} (h : Rb w w1 L) (hb : Below w1.heap.size w1 w2) : Rb w w2 L := ⟨h.Z.up hb, h.B.up hb, up_trans h.below hb⟩
theorem Rb.set {w w1 : World} {L : List Value} (h : Rb w w1 L) (i : Nat) (v : Value) : Rb w (w1.setCell ⟨w.heap.size + 1, i, none⟩ v) (L.set i v) :=
  ⟨h.Z.other (p := ⟨w.heap.size + 1, i, none⟩) (by simp) v, h.B.set i v, h.below.setCell (p := ⟨w.heap.size + 1, i, none⟩) (by simp) v⟩
theorem Rb.over {w w1 w2 : World} {L : List Value} (h : Rb w w1 L) (hb : Below (w.heap.size + 2) w1 w2) : Rb w w2 L :=
  ⟨h.Z.below hb (by omega), h.B.below hb (by omega), h.below.trans (hb.mono (by omega))⟩
theorem Rb.only {w w1 w2 : World} {L : List Value} {g : Nat} (h : Rb w w1 L) (ho : Only w1 w2 g) (hg : w.heap.size + 2 ≤ g) : Rb w w2 L :=
  ⟨ho.keep (by omega) h.Z, ho.keep (by omega) h.B, ho.below (by omega) h.below⟩
theorem Rb.start (w : World) : Rb w ((w.alloc (.cells zbt.toArray 27)).alloc (.cells zbt.toArray 27)) zbt :=
  ⟨(Has.make w _ _).alloc _, Has.make2 w _ _ _, up_alloc (up_alloc (Below.refl _ _) _) _⟩

/-- What the document's body gives. -/
def RbodyPost (l : List UInt8) (w : World) (e : Ending) (w' : World) : Prop :=
  Below w.heap.size w w' ∧ match rdB l with
    | none => ∃ first A n cap p, p.length = 32 ∧ e = .returned (.tuple #[.agg (btc first (.slice A n cap) p).toArray, .bool false])
    | some b => ∃ v, e = .returned (.tuple #[.agg (btc b.first v b.prev).toArray, .bool true]) ∧ OwnE w.heap.size v b.evs w'
theorem rbody_bad {l : List UInt8} (h : rdB l = none) {first n cap : Nat} {A : Option Addr} {p : List UInt8} (hp : p.length = 32) {w w' : World} (hb : Below w.heap.size w w') :
    RbodyPost l w (.returned (.tuple #[.agg (btc first (.slice A n cap) p).toArray, .bool false])) w' := by
  unfold RbodyPost
  rw [h]
  exact ⟨hb, first, A, n, cap, p, hp, rfl⟩
theorem rbody_good {l : List UInt8} {b : Bt} (h : rdB l = some b) {v : Value} {w w' : World} (ho : OwnE w.heap.size v b.evs w') (hb : Below w.heap.size w w') :
    RbodyPost l w (.returned (.tuple #[.agg (btc b.first v b.prev).toArray, .bool true])) w' := by
  unfold RbodyPost
  rw [h]
  exact ⟨hb, v, rfl, ho⟩

theorem btc_set (first : Nat) (v : Value) (q : List UInt8) (k : Nat) (x : Value) (q' : List UInt8) (h : (bys q).set k x = bys q') : (btc first v q).set (2 + k) x = btc first v q' := by
  rw [show 2 + k = k + 2 by omega]
  show _ :: _ :: (bys q).set k x = _
  rw [h]
  rfl
theorem btc_at (first : Nat) (v : Value) (q : List UInt8) (k : Nat) : (btc first v q)[2 + k]? = (bys q)[k]? := by
  rw [show 2 + k = k + 2 by omega]
  rfl

theorem OwnE.fresh {B : Nat} {v : Value} {l : List Ev} {w w' : World} {o : Obj} (h : OwnE B v l w) (ho : Only (w.alloc o) w' w.heap.size) : OwnE B v l w' := by
  obtain ⟨h0, h1 | ⟨b, cap, cur, hv, hb, hh, hr⟩⟩ := h.out
  · exact ⟨⟨h0, Or.inl h1⟩⟩
  · refine ⟨⟨h0, Or.inr ⟨b, cap, cur, hv, hb, ?_, hr⟩⟩⟩
    have hlt : b < w.heap.size := lt_of_block hh
    have hk : Has w b 47 cur.toList := by show _ = _; rw [hh]
    have := ho.keep (by omega) (hk.alloc o)
    have h2 : w'.heap[b]? = some (.cells cur.toList.toArray 47 (0, 0)) := this
    rwa [Array.toArray_toList] at h2

theorem rtake_num (l : List UInt8) (hl : l.length ≤ 20000) (w : World) :
    Calls Tryd.prog 73 #[.string ⟨l.toArray⟩] w fun e w' => e = .returned (.tuple #[.int .u64 ((tk l).1 : Nat), .string ⟨(tk l).2.1.toArray⟩, .int .i64 ((tk l).2.2 : Nat)]) ∧ Below w.heap.size w w' :=
  rtake_any ⟨l.toArray⟩ (num_str l hl) w
theorem rtake_txt (l : List UInt8) (hl : l.length ≤ 20000) (w : World) :
    Calls Tryd.prog 74 #[.string ⟨l.toArray⟩] w fun e w' => e = .returned (.tuple #[.string ⟨(tkt l).1.toArray⟩, .string ⟨(tkt l).2.1.toArray⟩, .int .i64 ((tkt l).2.2 : Nat)]) ∧ Below w.heap.size w w' :=
  rtakeText_any ⟨l.toArray⟩ (num_str l hl) w
theorem rget_ev (t : List UInt8) (ht : t.length ≤ 20000) (w : World) :
    Calls Tryd.prog 75 #[.string ⟨t.toArray⟩] w fun e w' => e = .returned (.tuple #[.agg (evc (evOf (got t))).toArray, .int .i64 ((got t).err : Nat)]) ∧ Below w.heap.size w w' :=
  rget_any ⟨t.toArray⟩ (by rw [text_list]; omega) w

set_option maxHeartbeats 4000000 in
set_option maxRecDepth 100000 in
theorem rbody_any (s : ByteArray) (hs : s.size ≤ 20000) (w : World) :
    Calls Tryd.prog 49 #[.string s] w fun e w' => RbodyPost s.data.toList w e w' := by
  have hz : zbt.length = 34 := btc_length _ _ (by simp)
  have hi := info_batch
  have hu := Tryd.underlying27
  have RB := Lib.hid (Rb.start w)
  have hls := list_size s
  by_cases h32 : s.size < 32
  · have d0 : (s.size : Int) < 32 := by omega
    have HN := Lib.hid (rdB_short (l := s.data.toList) (by omega))
    have hz' : (btc 0 (.slice none 0 0) (List.replicate 32 0)).length = 34 := hz
    clear hls h32
    go_enter Tryd.func49, Tryd.ntmps49
    go_wp2_with (first
      | (refine wpList_load_row rfl 27 _ rfl (w.heap.size + 1) (by rfl) _ _ _ _ (Has.make2 w _ 27 zbt) hu rfl (by rw [hi, List.size_toArray, hz]) ?_)
      | (refine wpList_store_whole rfl 27 _ _ rfl w.heap.size 27 zbt zbt (by rfl) (by rfl) ((Has.make w _ zbt).alloc _) rfl (by rw [hi, hz]) (btc_one 0 none 0 0 _) ?_; intro wz hF hO))
    refine bodyPost_ret_by (results_one Tryd.results49 _ _ w.heap.size _ (.bool false) (by rfl) hF hz (by rfl)) rfl ?_
    exact rbody_bad HN.out (p := List.replicate 32 0) (by simp) (hO.below (Nat.le_refl _) RB.out.below)
  have d0 : ¬ (s.size : Int) < 32 := by omega
  obtain ⟨p, hp⟩ : ∃ p, p = s.data.toList.take 32 := ⟨_, rfl⟩
  have hpl : p.length = 32 := by rw [hp, List.length_take]; omega
  have h32' : 32 ≤ s.data.toList.length := by omega
  have sI : (s.size : Int) ≤ 20000 := by omega
  have sJ : (32 : Int) ≤ (s.size : Int) := by omega
  have HL := Lib.hid hls
  have HPP := Lib.hid hp
  clear hls hp
  go_enter Tryd.func49, Tryd.ntmps49
  go_wp2_with fail
  generalize hw1 : (w.alloc (Obj.cells _ _)).alloc _ = w1
  replace RB : Hid (Rb w w1 zbt) := by rw [← hw1]; exact RB
  clear hw1
  go_loopw [5] (fun i wr => ∃ k : Nat, k ≤ 32 ∧ i = .int .i64 (k : Nat) ∧ Rb w wr (btc 0 (.slice none 0 0) (p.take k ++ List.replicate (32 - k) 0))) (fun i _ => 32 - (intOf i).toNat)
  case atStart => exact ⟨0, by omega, rfl, RB.out⟩
  case round =>
    clear RB
    obtain ⟨k, hk, rfl, hRB⟩ := hrel
    have RB := Lib.hid hRB
    clear hRB
    by_cases hlt : k < 32
    · have x2 := RB.out.B.at (i := 2 + k) (v := .int .u8 0) (by rw [btc_at]; exact fill_at p 32 k hpl hlt)
      have x1 := RB.out.B.free (2 + k)
      have k0 : (0 : Int) ≤ (k : Int) := by omega
      have k1 : (k : Int) < (s.size : Int) := by omega
      have k2 : (k : Int) < 32 := by omega
      have hpk : p[k]? = some (s[k]'(by omega)) := by
        rw [HPP.out, List.getElem?_take_of_lt hlt, List.getElem?_eq_getElem (by omega)]
        rfl
      have RN := Lib.hid (RB.out.set (2 + k) (.int .u8 ((s[k]'(by omega)).toNat : Int)))
      rw [btc_set 0 (.slice none 0 0) _ k _ _ (fill_set p 32 k hpl hlt _ hpk)] at RN
      clear hpk
      go_wp2_with fail
      go_roundw
      case rel => exact ⟨k + 1, by omega, by go_num, RN.out⟩
      case measure => simp [intOf]; omega
    · obtain rfl : k = 32 := by omega
      have HT := Lib.hid (show p.take 32 ++ List.replicate (32 - 32) 0 = p by rw [List.take_of_length_le (by omega)]; simp)
      rw [HT.out] at RB
      have B := back_of s 32
      have hdl : (s.data.toList.drop 32).length ≤ 20000 := by rw [List.length_drop, HL.out]; omega
      have T1 := Lib.hid (fun w => rtake_num (s.data.toList.drop 32) hdl w)
      have hb0 := btc_length 0 (.slice none 0 0) hpl
      cases hn1 : numO (s.data.toList.drop 32) with
      | none =>
        have h0 := numO_no hn1
        have HN := Lib.hid (rdB_first h32' hn1)
        obtain ⟨v, r, e, hv⟩ : ∃ v r e, tk (s.data.toList.drop 32) = (v, r, e) := ⟨_, _, _, rfl⟩
        rw [hv] at T1 h0
        simp only at T1 h0
        have e0 : ((e : Int) != 0) = true := by rw [bne_iff_ne]; omega
        have HB := Lib.hid B
        clear hv hn1 h0 B
        go_wp2_with fail
        rw [HB.out]
        refine (T1.out _).mono ?_; rintro e w2 ⟨rfl, b2⟩
        replace RB := Lib.hid (RB.out.up b2)
        clear b2
        go_wp2_with (first
          | (refine wpList_load_row rfl 27 _ rfl (w.heap.size + 1) (by rfl) _ _ _ _ RB.out.B hu rfl (by rw [hi, List.size_toArray, hb0]) ?_)
          | (refine wpList_store_whole rfl 27 _ _ rfl w.heap.size 27 zbt _ (by rfl) (by rfl) RB.out.Z (by rw [hb0, hz]) (by rw [hi, hb0]) (btc_one _ _ _ _ _) ?_; intro wz hF hO))
        refine bodyPost_ret_by (results_one Tryd.results49 _ _ w.heap.size _ (.bool false) (by rfl) hF hb0 (by rfl)) rfl ?_
        exact rbody_bad (HN.out) hpl (hO.below (Nat.le_refl _) RB.out.below)
      | some q =>
      obtain ⟨first, l1⟩ := q
      obtain ⟨_, hf64, h1, h2, h3⟩ := numO_back hn1
      have hl1 := Nat.le_trans (numO_len hn1) hdl
      rw [h1, h2, h3] at T1
      have T2 := Lib.hid (fun w => rtake_num l1 hl1 w)
      have HB := Lib.hid B
      have hb1 := btc_length first (.slice none 0 0) hpl
      clear h1 h2 h3 B
      go_wp2_with fail
      rw [HB.out]
      refine (T1.out _).mono ?_; rintro e w2 ⟨rfl, b2⟩
      replace RB := Lib.hid (RB.out.up b2)
      clear b2
      have q0 := RB.out.B.at (i := 0) rfl
      have q1 := RB.out.B.free 0
      go_wp2_with fail
      clear q0 q1
      have RC : Hid (Rb w _ (btc first (.slice none 0 0) p)) := Lib.hid (RB.out.set 0 (.int .u64 (first : Nat)))
      generalize w2.setCell ⟨w.heap.size + 1, 0, none⟩ (.int .u64 (first : Nat)) = w3 at *
      clear RB
      cases hn2 : numO l1 with
      | none =>
        have h0 := numO_no hn2
        have HN := Lib.hid (rdB_num h32' hn1 hn2)
        obtain ⟨v, r, e, hv⟩ : ∃ v r e, tk l1 = (v, r, e) := ⟨_, _, _, rfl⟩
        rw [hv] at T2 h0
        simp only at T2 h0
        have e0 : ((e : Int) != 0) = true := by rw [bne_iff_ne]; omega
        clear hv hn1 hn2 h0
        refine (T2.out _).mono ?_; rintro e w4 ⟨rfl, b4⟩
        replace RC := Lib.hid (RC.out.up b4)
        clear b4
        go_wp2_with (first
          | (refine wpList_load_row rfl 27 _ rfl (w.heap.size + 1) (by rfl) _ _ _ _ RC.out.B hu rfl (by rw [hi, List.size_toArray, hb1]) ?_)
          | (refine wpList_store_whole rfl 27 _ _ rfl w.heap.size 27 zbt _ (by rfl) (by rfl) RC.out.Z (by rw [hb1, hz]) (by rw [hi, hb1]) (btc_one _ _ _ _ _) ?_; intro wz hF hO))
        refine bodyPost_ret_by (results_one Tryd.results49 _ _ w.heap.size _ (.bool false) (by rfl) hF hb1 (by rfl)) rfl ?_
        exact rbody_bad (HN.out) hpl (hO.below (Nat.le_refl _) RC.out.below)
      | some q =>
      obtain ⟨many, l2⟩ := q
      obtain ⟨_, hm64, h1, h2, h3⟩ := numO_back hn2
      have hl2 := Nat.le_trans (numO_len hn2) hl1
      rw [h1, h2, h3] at T2
      clear h1 h2 h3
      by_cases h256 : 256 < many
      · have HN := Lib.hid (rdB_many h32' hn1 hn2 h256)
        have d1 : (256 : Int) < (many : Int) := by omega
        have d2 : decide ((256 : Int) < (many : Int)) = true := by simpa using d1
        clear hn1 hn2
        refine (T2.out _).mono ?_; rintro e w4 ⟨rfl, b4⟩
        replace RC := Lib.hid (RC.out.up b4)
        clear b4
        go_wp2_with (first
          | (refine wpList_load_row rfl 27 _ rfl (w.heap.size + 1) (by rfl) _ _ _ _ RC.out.B hu rfl (by rw [hi, List.size_toArray, hb1]) ?_)
          | (refine wpList_store_whole rfl 27 _ _ rfl w.heap.size 27 zbt _ (by rfl) (by rfl) RC.out.Z (by rw [hb1, hz]) (by rw [hi, hb1]) (btc_one _ _ _ _ _) ?_; intro wz hF hO))
        refine bodyPost_ret_by (results_one Tryd.results49 _ _ w.heap.size _ (.bool false) (by rfl) hF hb1 (by rfl)) rfl ?_
        exact rbody_bad (HN.out) hpl (hO.below (Nat.le_refl _) RC.out.below)
      have h256' : many ≤ 256 := by omega
      have d1 : ¬ (256 : Int) < (many : Int) := by omega
      have d2 : decide ((256 : Int) < (many : Int)) = false := by simpa using d1
      have m64 := IntWalk.i64_in (many : Int) (by omega)
      refine (T2.out _).mono ?_; rintro e w4 ⟨rfl, b4⟩
      replace RC := Lib.hid (RC.out.up b4)
      have hsz : w.heap.size + 2 ≤ w4.heap.size := by have := RC.out.B.lt; omega
      clear b4
      go_wp2_with fail
      have H0 := Lib.hid (show evK 0 l2 = some ([], l2) from rfl)
      have O0 := Lib.hid (OwnE.nil (w.heap.size + 2) w4)
      have HN1 := Lib.hid hn1
      have HN2 := Lib.hid hn2
      have M64 := Lib.hid m64
      clear hn1 hn2 d1 d2 T1 T2 hb0 hb1 hdl hl1 HT HB
      go_loopw [10, 12] (fun left i wr => ∃ (k : Nat) (acc : List Ev) (r : List UInt8) (A : Option Addr) (n cap : Nat), k ≤ many ∧ i = .int .i64 (k : Nat) ∧ left = .string ⟨r.toArray⟩ ∧ Hid (evK k l2 = some (acc, r)) ∧ Rb w wr (btc first (.slice A n cap) p) ∧ OwnE (w.heap.size + 2) (.slice A n cap) acc wr ∧ w4.heap.size ≤ wr.heap.size) (fun _ i _ => many - (intOf i).toNat)
      case atStart => exact ⟨0, [], l2, none, 0, 0, by omega, rfl, rfl, H0, RC.out, O0.out, Nat.le_refl _⟩
      case round =>
        clear RC H0 O0
        obtain ⟨k, acc, r, A, n, cap, hk, rfl, rfl, hE, hRB, hO, hsz2⟩ := hrel
        have RB := Lib.hid hRB
        have RO := Lib.hid hO
        have hb3 := btc_length first (.slice A n cap) hpl
        have hal := evK_length hE.out
        have hrl := evK_len hE.out
        clear hRB hO
        by_cases hlt : k < many
        · have k1 : (k : Int) < (many : Int) := by omega
          have T := Lib.hid (fun w => rtake_txt r (by omega) w)
          by_cases ht : (tkt r).2.2 = 0
          · rw [ht] at T
            have hone := fun h => oneO_no (l := r) h
            have hok := fun x r' h => oneO_back (l := r) (r := r') (x := x) h
            obtain ⟨txl, htxl⟩ : ∃ t, t = (tkt r).1 := ⟨_, rfl⟩
            have htl := tkt_len (l := r) (by omega)
            have G := Lib.hid (fun w => rget_ev (tkt r).1 htl w)
            cases h1 : oneO r with
            | none =>
              have hge : (got (tkt r).1).err ≠ 0 := by
                rcases oneO_no h1 with h | h
                · exact absurd ht h
                · exact h.2
              have hnn := evK_stop hE.out h1 (many - k - 1)
              rw [show k + 1 + (many - k - 1) = many by omega] at hnn
              have HN := Lib.hid (rdB_row h32' HN1.out HN2.out h256' hnn)
              have e0 : (((got (tkt r).1).err : Int) != 0) = true := by rw [bne_iff_ne]; omega
              generalize (got (tkt r).1).err = ge at *
              generalize evOf (got (tkt r).1) = x at *
              generalize (tkt r).1 = t at *
              generalize (tkt r).2.1 = r' at *
              have hxo := evc_one x
              clear hone hok htxl h1 hnn hge ht htl
              go_wp2_with fail
              refine (T.out _).mono ?_; rintro e w5 ⟨rfl, b5⟩
              replace RB := Lib.hid (RB.out.up b5)
              have s5 := b5.size
              clear b5
              go_wp2_with fail
              refine (G.out _).mono ?_; rintro e w6 ⟨rfl, b6⟩
              replace RB := Lib.hid (RB.out.up b6)
              have s6 := b6.size
              clear b6
              go_wp2_with (first
                | (refine wpList_store_whole rfl 47 _ _ rfl w6.heap.size 47 zev (evc x) (by rfl) (by rfl) (Has.make w6 _ zev) rfl (by rw [info_event]; rfl) hxo ?_; intro w7 hF7 hO7; replace RB := Lib.hid ((RB.out.up (up_alloc (Below.refl _ _) _)).only hO7 (by omega)))
                | (refine wpList_load_row rfl 27 _ rfl (w.heap.size + 1) (by rfl) _ _ _ _ RB.out.B hu rfl (by rw [hi, List.size_toArray, hb3]) ?_)
                | (refine wpList_store_whole rfl 27 _ _ rfl w.heap.size 27 zbt _ (by rfl) (by rfl) RB.out.Z (by rw [hb3, hz]) (by rw [hi, hb3]) (btc_one _ _ _ _ _) ?_; intro wz hF hO))
              refine bodyPost_ret_by (results_one Tryd.results49 _ _ w.heap.size _ (.bool false) (by rfl) hF hb3 (by rfl)) rfl ?_
              exact rbody_bad HN.out hpl (hO.below (Nat.le_refl _) RB.out.below)
            | some q =>
            obtain ⟨x, r'⟩ := q
            obtain ⟨_, _, hx64, _, g0, g1, g2⟩ := oneO_back h1
            rw [g1, g0] at G
            rw [g2] at T
            have HNX := Lib.hid (evK_next hE.out h1)
            generalize (tkt r).1 = t at *
            have hxo := evc_one x
            clear hone hok htxl h1 ht htl g0 g1 g2
            go_wp2_with fail
            refine (T.out _).mono ?_; rintro e w5 ⟨rfl, b5⟩
            replace RB := Lib.hid (RB.out.up b5)
            replace RO := Lib.hid (RO.out.up b5)
            have s5 := b5.size
            clear b5
            go_wp2_with fail
            refine (G.out _).mono ?_; rintro e w6 ⟨rfl, b6⟩
            replace RB := Lib.hid (RB.out.up b6)
            replace RO := Lib.hid (RO.out.up b6)
            have s6 := b6.size
            clear b6
            go_wp2_with (first
              | (refine wpList_store_whole rfl 47 _ _ rfl w6.heap.size 47 zev (evc x) (by rfl) (by rfl) (Has.make w6 _ zev) rfl (by rw [info_event]; rfl) hxo ?_; intro w7 hF7 hO7; replace RB := Lib.hid ((RB.out.up (up_alloc (Below.refl _ _) _)).only hO7 (by omega)); replace RO := Lib.hid (RO.out.fresh hO7); have q1 := RB.out.B.at (i := 1) rfl; have c0 := hF7.at (i := 0) (v := .int .u64 (x.seq : Nat)) rfl; have c1 := hF7.at (i := 1) (v := .int .i64 x.tick) rfl; have c2 := hF7.at (i := 2) (v := .int .i64 x.part) rfl; have c3 := hF7.at (i := 3) (v := .int .i64 x.kind) rfl; have c4 := hF7.at (i := 4) (v := .int .i64 x.a) rfl; have c5 := hF7.at (i := 5) (v := .int .i64 x.b) rfl)
              | (refine wpList_pushE rfl _ _ rfl (w.heap.size + 2) _ acc (by rfl) ⟨RO.out.out.alloc _⟩ (some ⟨w7.heap.size, 0, none⟩) 1 1 [x] (by rfl) rfl (evSl_one (Has.make w7 _ (evc x))) (by simp) (by omega) (by have := RB.out.below.size; have := hO7.size; simp at *; omega) ?_; intro v8 w8 hO8 hB8; obtain ⟨A8, n8, cap8, rfl, hn8, hc8, hs8⟩ := hO8.opened; clear hn8 hc8 hs8; replace RO := Lib.hid hO8; replace RB := Lib.hid ((RB.out.up (up_alloc (Below.refl _ _) _)).over hB8); have q3 := RB.out.B.at (i := 1) rfl; have q4 := RB.out.B.free 1; have s8 := hB8.size; clear hO8 hB8))
            have RN := Lib.hid (RB.out.set 1 (.slice A8 n8 cap8))
            have RP := Lib.hid ((RO.out).set (i := 1) (x := .slice A8 n8 cap8) RB.out.B (by omega))
            go_roundw
            case rel => exact ⟨k + 1, acc ++ [x], r', A8, n8, cap8, by omega, by go_num, rfl, HNX, RN.out, RP.out, by have := hO7.size; simp at *; omega⟩
            case measure => simp [intOf]; omega
          · have h1 : oneO r = none := by rw [oneO, if_neg (fun h => ht h.1)]
            have hnn := evK_stop hE.out h1 (many - k - 1)
            rw [show k + 1 + (many - k - 1) = many by omega] at hnn
            have HN := Lib.hid (rdB_row h32' HN1.out HN2.out h256' hnn)
            have e0 : (((tkt r).2.2 : Int) != 0) = true := by rw [bne_iff_ne]; omega
            generalize (tkt r).2.2 = te at *
            generalize (tkt r).1 = t at *
            generalize (tkt r).2.1 = r' at *
            clear h1 hnn ht
            go_wp2_with fail
            refine (T.out _).mono ?_; rintro e w5 ⟨rfl, b5⟩
            replace RB := Lib.hid (RB.out.up b5)
            clear b5
            go_wp2_with (first
              | (refine wpList_load_row rfl 27 _ rfl (w.heap.size + 1) (by rfl) _ _ _ _ RB.out.B hu rfl (by rw [hi, List.size_toArray, hb3]) ?_)
              | (refine wpList_store_whole rfl 27 _ _ rfl w.heap.size 27 zbt _ (by rfl) (by rfl) RB.out.Z (by rw [hb3, hz]) (by rw [hi, hb3]) (btc_one _ _ _ _ _) ?_; intro wz hF hO))
            refine bodyPost_ret_by (results_one Tryd.results49 _ _ w.heap.size _ (.bool false) (by rfl) hF hb3 (by rfl)) rfl ?_
            exact rbody_bad (HN.out) hpl (hO.below (Nat.le_refl _) RB.out.below)
        · obtain rfl : k = many := by omega
          obtain ⟨hn, hcap, _⟩ := RO.out.slice
          have hend := rdB_end h32' HN1.out HN2.out h256' hE.out
          rw [← HPP.out] at hend
          have i1 := fun w hA => rbis_any first acc p (evK_back hE.out).2 A n cap hn (by omega) w hA
          have m64' := M64.out
          have hzl := RB.out.B.lt
          by_cases hleft : r = []
          · subst hleft
            have z := text_yes (s := ⟨([] : List UInt8).toArray⟩) rfl
            cases hB : isB first acc with
            | true =>
              rw [hB, if_pos ⟨rfl, rfl⟩] at hend
              rw [hB] at i1
              have RS := Lib.hid hend
              have I := Lib.hid i1
              clear hend i1 hB hn hal
              go_wp2_with fail
              refine wp_region_held_drew (S := fun W => W.rangeAt (w.heap.size + 1) 0 (btc first (.slice A n cap) p)) (by kernel_rfl) (RB.out.B.drew.whole) (fun hHeld => ?_)
              refine wpAnyH_take (i := 0) rfl (by kernel_rfl) (by kernel_rfl) (by kernel_rfl) (fun _ _ _ h => h) (yieldsIf_load_mid (by rfl) _ _ rfl (w.heap.size + 1) 0 rfl (btc first (.slice A n cap) p) _ (fun W h => h) hu rfl (by rw [hi, hb3])) (by assumption) ?_
              try simp only [Act.put, List.getElem_toArray, List.getElem_cons_zero, List.setIfInBounds_toArray, List.set_cons_zero, List.set_cons_succ]
              refine wpAnyH_take (i := 1) (v := ?_) rfl (by kernel_rfl) (by kernel_rfl) (by kernel_rfl) (fun _ _ _ h => h) (Or.inl ⟨by rfl, ?_⟩) (by assumption) ?_
              rotate_left
              · intro w hSw; (try dsimp only at hSw); go_simp; try with_reducible rfl
              try simp only [Act.put, List.getElem_toArray, List.getElem_cons_zero, List.getElem_cons_succ, List.setIfInBounds_toArray, List.set_cons_zero, List.set_cons_succ]
              refine wpAnyH_take (i := 2) (v := ?_) rfl (by kernel_rfl) (by kernel_rfl) (by kernel_rfl) (fun _ _ _ h => h) (Or.inl ⟨by rfl, ?_⟩) (by assumption) ?_
              rotate_left
              · intro w hSw; (try dsimp only at hSw); go_simp; try with_reducible rfl
              try simp only [Act.put, List.getElem_toArray, List.getElem_cons_zero, List.getElem_cons_succ, List.setIfInBounds_toArray, List.set_cons_zero, List.set_cons_succ]
              refine wpAnyH_take (i := 3) (v := ?_) rfl (by kernel_rfl) (by kernel_rfl) (by kernel_rfl) (fun _ _ _ h => h) (Or.inl ⟨by rfl, ?_⟩) (by assumption) ?_
              rotate_left
              · intro w hSw; (try dsimp only at hSw); go_simp; try with_reducible rfl
              try simp only [Act.put, List.getElem_toArray, List.getElem_cons_zero, List.getElem_cons_succ, List.setIfInBounds_toArray, List.set_cons_zero, List.set_cons_succ]
              refine wpAnyH_take (i := 4) rfl (by kernel_rfl) (by kernel_rfl) (by kernel_rfl) (fun _ _ _ h => h) (yieldsIf_load_mid (by rfl) _ _ rfl (w.heap.size + 1) 0 rfl (btc first (.slice A n cap) p) _ (fun W h => h) hu rfl (by rw [hi, hb3])) (by assumption) ?_
              try simp only [Act.put, List.getElem_toArray, List.getElem_cons_zero, List.getElem_cons_succ, List.setIfInBounds_toArray, List.set_cons_zero, List.set_cons_succ]
              refine wpAnyH_ready (rs := [5]) (by kernel_rfl) (by simp) (AllReadyH.cons rfl (fun K hK => ?_) AllReadyH.nil)
              go_simp
              refine (I.out _ ((RO.out.up (Below.refl _ _).drew).slice.2.2)).mono ?_; rintro e wn ⟨rfl, hbn'⟩
              have hbn : Below wr.heap.size wr wn := up_trans (Below.refl _ _).drew hbn'
              clear hbn'
              go_wp2_with fail
              refine hK.out _ _ ((RB.out.B.up hbn).whole) (fun hHeld => ?_)
              clear hK K
              try simp only [Act.put, List.getElem_toArray, List.getElem_cons_zero, List.getElem_cons_succ, List.setIfInBounds_toArray, List.set_cons_zero, List.set_cons_succ]
              refine wpAnyH_take (i := 6) (v := ?_) rfl (by kernel_rfl) (by kernel_rfl) (by kernel_rfl) (fun _ _ _ h => h) (Or.inl ⟨by rfl, ?_⟩) (by assumption) ?_
              rotate_left
              · intro w hSw; (try dsimp only at hSw); go_simp; try with_reducible rfl
              try simp only [Act.put, List.getElem_toArray, List.getElem_cons_zero, List.getElem_cons_succ, List.setIfInBounds_toArray, List.set_cons_zero, List.set_cons_succ]
              refine wpAnyH_ready (rs := [7]) (by kernel_rfl) (by simp) (AllReadyH.cons rfl (fun K hK => ?_) AllReadyH.nil)
              refine wp_store_whole 27 _ _ rfl w.heap.size 27 zbt (btc first (.slice A n cap) p) (by rfl) (by rfl) (RB.out.Z.up hbn) (by rw [hb3, hz]) (by rw [hi, hb3]) (btc_one _ _ _ _ _) ?_
              intro wz hF hO
              have hBz := hO.keep (by omega) (RB.out.B.up hbn)
              refine hK.out _ _ (hBz.whole) (fun hHeld => ?_)
              clear hK K
              try simp only [Act.put, List.getElem_toArray, List.getElem_cons_zero, List.getElem_cons_succ]
              refine wpAnyH_take (i := 8) (v := ?_) rfl (by kernel_rfl) (by kernel_rfl) (by kernel_rfl) (fun _ _ _ h => h) (Or.inl ⟨by rfl, ?_⟩) (by assumption) ?_
              rotate_left
              · intro w hSw; (try dsimp only at hSw); go_simp; try with_reducible rfl
              try simp only [Act.put, List.getElem_toArray, List.getElem_cons_zero, List.getElem_cons_succ, List.setIfInBounds_toArray, List.set_cons_zero, List.set_cons_succ]
              refine wpAnyH_done (by kernel_rfl) ?_ _
              go_wp2_with fail
              refine bodyPost_ret_by (results_one Tryd.results49 _ _ w.heap.size _ (.bool true) (by rfl) hF hb3 (by rfl)) rfl ?_
              exact rbody_good RS.out (((RO.out.up hbn).over (RB.out.Z.up hbn) (by decide) hO).mono_base (by omega)) (hO.below (Nat.le_refl _) (up_trans RB.out.below hbn))
            | false =>
              rw [hB, if_neg (by simp)] at hend
              rw [hB] at i1
              have RS := Lib.hid hend
              have I := Lib.hid i1
              clear hend i1 hB hn hal
              go_wp2_with fail
              refine wp_region_held_drew (S := fun W => W.rangeAt (w.heap.size + 1) 0 (btc first (.slice A n cap) p)) (by kernel_rfl) (RB.out.B.drew.whole) (fun hHeld => ?_)
              refine wpAnyH_take (i := 0) rfl (by kernel_rfl) (by kernel_rfl) (by kernel_rfl) (fun _ _ _ h => h) (yieldsIf_load_mid (by rfl) _ _ rfl (w.heap.size + 1) 0 rfl (btc first (.slice A n cap) p) _ (fun W h => h) hu rfl (by rw [hi, hb3])) (by assumption) ?_
              try simp only [Act.put, List.getElem_toArray, List.getElem_cons_zero, List.setIfInBounds_toArray, List.set_cons_zero, List.set_cons_succ]
              refine wpAnyH_take (i := 1) (v := ?_) rfl (by kernel_rfl) (by kernel_rfl) (by kernel_rfl) (fun _ _ _ h => h) (Or.inl ⟨by rfl, ?_⟩) (by assumption) ?_
              rotate_left
              · intro w hSw; (try dsimp only at hSw); go_simp; try with_reducible rfl
              try simp only [Act.put, List.getElem_toArray, List.getElem_cons_zero, List.getElem_cons_succ, List.setIfInBounds_toArray, List.set_cons_zero, List.set_cons_succ]
              refine wpAnyH_take (i := 2) (v := ?_) rfl (by kernel_rfl) (by kernel_rfl) (by kernel_rfl) (fun _ _ _ h => h) (Or.inl ⟨by rfl, ?_⟩) (by assumption) ?_
              rotate_left
              · intro w hSw; (try dsimp only at hSw); go_simp; try with_reducible rfl
              try simp only [Act.put, List.getElem_toArray, List.getElem_cons_zero, List.getElem_cons_succ, List.setIfInBounds_toArray, List.set_cons_zero, List.set_cons_succ]
              refine wpAnyH_take (i := 3) (v := ?_) rfl (by kernel_rfl) (by kernel_rfl) (by kernel_rfl) (fun _ _ _ h => h) (Or.inl ⟨by rfl, ?_⟩) (by assumption) ?_
              rotate_left
              · intro w hSw; (try dsimp only at hSw); go_simp; try with_reducible rfl
              try simp only [Act.put, List.getElem_toArray, List.getElem_cons_zero, List.getElem_cons_succ, List.setIfInBounds_toArray, List.set_cons_zero, List.set_cons_succ]
              refine wpAnyH_take (i := 4) rfl (by kernel_rfl) (by kernel_rfl) (by kernel_rfl) (fun _ _ _ h => h) (yieldsIf_load_mid (by rfl) _ _ rfl (w.heap.size + 1) 0 rfl (btc first (.slice A n cap) p) _ (fun W h => h) hu rfl (by rw [hi, hb3])) (by assumption) ?_
              try simp only [Act.put, List.getElem_toArray, List.getElem_cons_zero, List.getElem_cons_succ, List.setIfInBounds_toArray, List.set_cons_zero, List.set_cons_succ]
              refine wpAnyH_ready (rs := [5]) (by kernel_rfl) (by simp) (AllReadyH.cons rfl (fun K hK => ?_) AllReadyH.nil)
              go_simp
              refine (I.out _ ((RO.out.up (Below.refl _ _).drew).slice.2.2)).mono ?_; rintro e wn ⟨rfl, hbn'⟩
              have hbn : Below wr.heap.size wr wn := up_trans (Below.refl _ _).drew hbn'
              clear hbn'
              go_wp2_with fail
              refine hK.out _ _ ((RB.out.B.up hbn).whole) (fun hHeld => ?_)
              clear hK K
              try simp only [Act.put, List.getElem_toArray, List.getElem_cons_zero, List.getElem_cons_succ, List.setIfInBounds_toArray, List.set_cons_zero, List.set_cons_succ]
              refine wpAnyH_take (i := 6) (v := ?_) rfl (by kernel_rfl) (by kernel_rfl) (by kernel_rfl) (fun _ _ _ h => h) (Or.inl ⟨by rfl, ?_⟩) (by assumption) ?_
              rotate_left
              · intro w hSw; (try dsimp only at hSw); go_simp; try with_reducible rfl
              try simp only [Act.put, List.getElem_toArray, List.getElem_cons_zero, List.getElem_cons_succ, List.setIfInBounds_toArray, List.set_cons_zero, List.set_cons_succ]
              refine wpAnyH_ready (rs := [7]) (by kernel_rfl) (by simp) (AllReadyH.cons rfl (fun K hK => ?_) AllReadyH.nil)
              refine wp_store_whole 27 _ _ rfl w.heap.size 27 zbt (btc first (.slice A n cap) p) (by rfl) (by rfl) (RB.out.Z.up hbn) (by rw [hb3, hz]) (by rw [hi, hb3]) (btc_one _ _ _ _ _) ?_
              intro wz hF hO
              have hBz := hO.keep (by omega) (RB.out.B.up hbn)
              refine hK.out _ _ (hBz.whole) (fun hHeld => ?_)
              clear hK K
              try simp only [Act.put, List.getElem_toArray, List.getElem_cons_zero, List.getElem_cons_succ]
              refine wpAnyH_take (i := 8) (v := ?_) rfl (by kernel_rfl) (by kernel_rfl) (by kernel_rfl) (fun _ _ _ h => h) (Or.inl ⟨by rfl, ?_⟩) (by assumption) ?_
              rotate_left
              · intro w hSw; (try dsimp only at hSw); go_simp; try with_reducible rfl
              try simp only [Act.put, List.getElem_toArray, List.getElem_cons_zero, List.getElem_cons_succ, List.setIfInBounds_toArray, List.set_cons_zero, List.set_cons_succ]
              refine wpAnyH_done (by kernel_rfl) ?_ _
              go_wp2_with fail
              refine bodyPost_ret_by (results_one Tryd.results49 _ _ w.heap.size _ (.bool false) (by rfl) hF hb3 (by rfl)) rfl ?_
              exact rbody_bad RS.out hpl (hO.below (Nat.le_refl _) (up_trans RB.out.below hbn))
          · rw [if_neg (fun h => hleft h.1)] at hend
            have RS := Lib.hid hend
            have z := text_no (s := ⟨r.toArray⟩) (by rw [text_list]; exact List.length_pos_iff.2 hleft)
            have z2 : r.isEmpty = false := by simpa using hleft
            clear hend i1 hn hal
            go_wp2_with fail
            refine wp_region_held_drew (S := fun W => W.rangeAt (w.heap.size + 1) 0 (btc first (.slice A n cap) p)) (by kernel_rfl) (RB.out.B.drew.whole) (fun hHeld => ?_)
            refine wpAnyH_take (i := 0) rfl (by kernel_rfl) (by kernel_rfl) (by kernel_rfl) (fun _ _ _ h => h) (yieldsIf_load_mid (by rfl) _ _ rfl (w.heap.size + 1) 0 rfl (btc first (.slice A n cap) p) _ (fun W h => h) hu rfl (by rw [hi, hb3])) (by assumption) ?_
            try simp only [Act.put, List.getElem_toArray, List.getElem_cons_zero, List.setIfInBounds_toArray, List.set_cons_zero, List.set_cons_succ]
            refine wpAnyH_take (i := 1) (v := ?_) rfl (by kernel_rfl) (by kernel_rfl) (by kernel_rfl) (fun _ _ _ h => h) (Or.inl ⟨by rfl, ?_⟩) (by assumption) ?_
            rotate_left
            · intro w hSw; (try dsimp only at hSw); go_simp; try with_reducible rfl
            try simp only [Act.put, List.getElem_toArray, List.getElem_cons_zero, List.getElem_cons_succ, List.setIfInBounds_toArray, List.set_cons_zero, List.set_cons_succ]
            refine wpAnyH_take (i := 2) (v := .bool false) rfl (by kernel_rfl) (by kernel_rfl) (by kernel_rfl) (fun _ _ _ h => h) (Or.inl ⟨by rfl, by intro w hSw; (try dsimp only at hSw); go_simp⟩) (by assumption) ?_
            try simp only [Act.put, List.getElem_toArray, List.getElem_cons_zero, List.getElem_cons_succ, List.setIfInBounds_toArray, List.set_cons_zero, List.set_cons_succ]
            refine wpAnyH_take (i := 3) (v := ?_) rfl (by kernel_rfl) (by kernel_rfl) (by kernel_rfl) (fun _ _ _ h => h) (Or.inl ⟨by rfl, ?_⟩) (by assumption) ?_
            rotate_left
            · intro w hSw; (try dsimp only at hSw); go_simp; try with_reducible rfl
            try simp only [Act.put, List.getElem_toArray, List.getElem_cons_zero, List.getElem_cons_succ, List.setIfInBounds_toArray, List.set_cons_zero, List.set_cons_succ]
            refine wpAnyH_take (i := 4) (v := undef) rfl (by kernel_rfl) (by kernel_rfl) (by kernel_rfl) (fun _ _ _ h => h) (Or.inr ⟨by rfl, rfl⟩) (by assumption) ?_
            try simp only [Act.put, List.getElem_toArray, List.getElem_cons_zero, List.getElem_cons_succ, List.setIfInBounds_toArray, List.set_cons_zero, List.set_cons_succ]
            refine wpAnyH_take (i := 5) (v := undef) rfl (by kernel_rfl) (by kernel_rfl) (by kernel_rfl) (fun _ _ _ h => h) (Or.inr ⟨by rfl, rfl⟩) (by assumption) ?_
            try simp only [Act.put, List.getElem_toArray, List.getElem_cons_zero, List.getElem_cons_succ, List.setIfInBounds_toArray, List.set_cons_zero, List.set_cons_succ]
            refine wpAnyH_take (i := 6) (v := ?_) rfl (by kernel_rfl) (by kernel_rfl) (by kernel_rfl) (fun _ _ _ h => h) (Or.inl ⟨by rfl, ?_⟩) (by assumption) ?_
            rotate_left
            · intro w hSw; (try dsimp only at hSw); go_simp; try with_reducible rfl
            try simp only [Act.put, List.getElem_toArray, List.getElem_cons_zero, List.getElem_cons_succ, List.setIfInBounds_toArray, List.set_cons_zero, List.set_cons_succ]
            refine wpAnyH_ready (rs := [7]) (by kernel_rfl) (by simp) (AllReadyH.cons rfl (fun K hK => ?_) AllReadyH.nil)
            refine wp_store_whole 27 _ _ rfl w.heap.size 27 zbt (btc first (.slice A n cap) p) (by rfl) (by rfl) (RB.out.Z.up (Below.refl _ _).drew) (by rw [hb3, hz]) (by rw [hi, hb3]) (btc_one _ _ _ _ _) ?_
            intro wz hF hO
            have hBz := hO.keep (by omega) (RB.out.B.up (Below.refl _ _).drew)
            refine hK.out _ _ (hBz.whole) (fun hHeld => ?_)
            clear hK K
            try simp only [Act.put, List.getElem_toArray, List.getElem_cons_zero, List.getElem_cons_succ]
            refine wpAnyH_take (i := 8) (v := ?_) rfl (by kernel_rfl) (by kernel_rfl) (by kernel_rfl) (fun _ _ _ h => h) (Or.inl ⟨by rfl, ?_⟩) (by assumption) ?_
            rotate_left
            · intro w hSw; (try dsimp only at hSw); go_simp; try with_reducible rfl
            try simp only [Act.put, List.getElem_toArray, List.getElem_cons_zero, List.getElem_cons_succ, List.setIfInBounds_toArray, List.set_cons_zero, List.set_cons_succ]
            refine wpAnyH_done (by kernel_rfl) ?_ _
            go_wp2_with fail
            refine bodyPost_ret_by (results_one Tryd.results49 _ _ w.heap.size _ (.bool false) (by rfl) hF hb3 (by rfl)) rfl ?_
            exact rbody_bad RS.out hpl (hO.below (Nat.le_refl _) (up_trans RB.out.below (Below.refl _ _).drew))

end Go.Proofs.YthhcopeejhhpgaaDoor

/- Bytes, read as a batch by the document's own answer: the contract of blackboxref05.Get. -/
namespace Go.Proofs.YthhcopeejhhpgaaDoor
open Go.RowKit Wire Evt Bat Crc

theorem rtake4_few (s : ByteArray) (h : s.size < 4) (w : World) :
    Calls Tryd.prog 48 #[.string s, .int .i64 4] w fun e w' => e = .returned (.tuple #[.int .u64 0, .string ⟨#[]⟩, .int .i64 4]) ∧ Below w.heap.size w w' := by
  have c := rtakeFixed_any s (by unfold maxLen; omega) 4 w
  have e : tkf s.data.toList 4 = (0, [], 4) := tkf_short (d := 4) (by omega) (by omega) (by rw [list_size]; exact h)
  rw [e] at c
  exact c
theorem rtake4_more (s : ByteArray) (h : 4 ≤ s.size) (hm : s.size ≤ 100000) (w : World) :
    Calls Tryd.prog 48 #[.string s, .int .i64 4] w fun e w' => e = .returned (.tuple #[.int .u64 (be (s.data.toList.take 4) : Nat), .string ⟨(s.data.toList.drop 4).toArray⟩, .int .i64 0]) ∧ Below w.heap.size w w' := by
  have c := rtakeFixed_any s (by unfold maxLen; omega) 4 w
  have e : tkf s.data.toList 4 = (be (s.data.toList.take 4), s.data.toList.drop 4, 0) := tkf_long (d := 4) (by omega) (by omega) (by rw [list_size]; exact h)
  rw [e] at c
  exact c
theorem rcrc_of (s : ByteArray) (hs : s.size ≤ maxLen) (w : World) : Calls Tryd.prog 46 #[.string s] w fun e w' => e = .returned (.int .u32 (sumOf s.data.toList : Nat)) ∧ Below w.heap.size w w' := by
  refine (refOf_any s hs w).mono ?_; rintro e w' ⟨rfl, rfl⟩
  exact ⟨rfl, Below.refl _ _⟩

set_option maxHeartbeats 4000000 in
set_option maxRecDepth 100000 in
theorem rbget_any (s : ByteArray) (hs : s.size ≤ 100000) (w : World) :
    Calls Tryd.prog 28 #[.string s] w fun e w' => BgetPost s.data.toList w e w' := by
  have hz : zbt.length = 34 := btc_length _ _ (by simp)
  have hzo : ∀ v ∈ zbt, v.oneCell' = true := btc_one 0 none 0 0 _
  have hi := info_batch
  have hu := Tryd.underlying27
  have HX := Lib.hid (Has.make w 27 zbt)
  have B1 := Lib.hid (up_alloc (Below.refl w.heap.size w) (.cells zbt.toArray 27))
  by_cases h0 : s.size = 0
  · have z := text_yes h0
    have HR := Lib.hid (show gotB s.data.toList = noB 4 by rw [gotB_err (show frO s.data.toList = ([], 4) by rw [← ByteArray.toList_eq, z]; rfl) (by omega)])
    go_enter Tryd.func28, Tryd.ntmps28
    go_wp2_with (refine wpList_store_whole rfl 27 _ _ rfl w.heap.size 27 zbt zbt (by rfl) (by rfl) (Has.make w _ zbt) rfl (by rw [hi, hz]) hzo ?_; intro wz hF hO)
    refine bodyPost_ret_by (results_got Tryd.results28 _ _ w.heap.size _ _ _ (by rfl) hF hz (by rfl) (by rfl)) rfl ?_
    exact bget_bad HR.out (hO.below (Nat.le_refl _) B1.out)
  have hp : 0 < s.size := by omega
  have hzz := text_no hp
  have k0 : (0 : Int) < (s.size : Int) := by omega
  have hl1 := list_cons s hp
  by_cases hc : (s[0]'hp).toNat = 66
  · have d1 : (((s[0]'hp).toNat : Int) != 66) = false := by rw [hc]; rfl
    have k1 : (1 : Int) ≤ (s.size : Int) := by omega
    have F := front_of s 1
    have hxs : (s.extract 1 s.size).size = s.size - 1 := by rw [F, text_list, List.length_drop, list_size]
    have hxl : (s.extract 1 s.size).data.toList = s.data.toList.drop 1 := by rw [F]
    have hrl : (s.data.toList.drop 1).length = s.size - 1 := by rw [List.length_drop, list_size]
    by_cases h4 : s.size < 5
    · have HR := Lib.hid (show gotB s.data.toList = noB 4 by rw [gotB_err (show frO s.data.toList = ([], 4) by rw [hl1, fr_few hc (by omega)]) (by omega)])
      have HC := Lib.hid (fun w => rtake4_few (s.extract 1 s.size) (by omega) w)
      clear hl1 hc F hxs hxl hrl
      go_enter Tryd.func28, Tryd.ntmps28
      go_wp2_with fail
      generalize hw1 : w.alloc (Obj.cells _ _) = w1
      replace HX : Hid (Has w1 w.heap.size 27 zbt) := by rw [← hw1]; exact HX
      replace B1 : Hid (Below w.heap.size w w1) := by rw [← hw1]; exact B1
      clear hw1
      refine (HC.out _).mono ?_; rintro e w2 ⟨rfl, b2⟩
      replace HX := Lib.hid (HX.out.up b2)
      replace B1 := Lib.hid (up_trans B1.out b2)
      clear b2
      go_wp2_with (refine wpList_store_whole rfl 27 _ _ rfl w.heap.size 27 zbt zbt (by rfl) (by rfl) HX.out rfl (by rw [hi, hz]) hzo ?_; intro wz hF hO)
      refine bodyPost_ret_by (results_got Tryd.results28 _ _ w.heap.size _ _ _ (by rfl) hF hz (by rfl) (by rfl)) rfl ?_
      exact bget_bad HR.out (hO.below (Nat.le_refl _) B1.out)
    have hC := fun w => rtake4_more (s.extract 1 s.size) (by omega) (by omega) w
    rw [hxl] at hC
    obtain ⟨r, hr⟩ : ∃ r, r = s.data.toList.drop 1 := ⟨_, rfl⟩
    rw [← hr] at hC hl1 hrl
    have hbe := be_lt (r.take 4)
    rw [show (r.take 4).length = 4 by rw [List.length_take]; omega] at hbe
    obtain ⟨n, hn⟩ : ∃ n, n = be (r.take 4) := ⟨_, rfl⟩
    rw [← hn] at hC hbe
    obtain ⟨R, hR⟩ : ∃ R : ByteArray, R = ⟨(r.drop 4).toArray⟩ := ⟨_, rfl⟩
    rw [← hR] at hC
    have hRs : R.size = s.size - 5 := by rw [hR, text_list, List.length_drop, hrl]; omega
    have HC := Lib.hid hC
    clear hC hxs hxl F
    by_cases hbig : 16384 < n
    · have HR := Lib.hid (show gotB s.data.toList = noB 2 by rw [gotB_err (show frO s.data.toList = ([], 2) by rw [hl1, fr_big hc (by omega) (by omega)]) (by omega)])
      have d2 : (16384 : Int) < (n : Int) := by omega
      clear hl1 hc hn hR hr hrl hRs hbe
      go_enter Tryd.func28, Tryd.ntmps28
      go_wp2_with fail
      generalize hw1 : w.alloc (Obj.cells _ _) = w1
      replace HX : Hid (Has w1 w.heap.size 27 zbt) := by rw [← hw1]; exact HX
      replace B1 : Hid (Below w.heap.size w w1) := by rw [← hw1]; exact B1
      clear hw1
      refine (HC.out _).mono ?_; rintro e w2 ⟨rfl, b2⟩
      replace HX := Lib.hid (HX.out.up b2)
      replace B1 := Lib.hid (up_trans B1.out b2)
      clear b2
      go_wp2_with (refine wpList_store_whole rfl 27 _ _ rfl w.heap.size 27 zbt zbt (by rfl) (by rfl) HX.out rfl (by rw [hi, hz]) hzo ?_; intro wz hF hO)
      refine bodyPost_ret_by (results_got Tryd.results28 _ _ w.heap.size _ _ _ (by rfl) hF hz (by rfl) (by rfl)) rfl ?_
      exact bget_bad HR.out (hO.below (Nat.le_refl _) B1.out)
    have d2 : ¬ (16384 : Int) < (n : Int) := by omega
    have n64 := IntWalk.i64_in (n : Int) (by omega)
    by_cases hmore : R.size < n + 4
    · have HR := Lib.hid (show gotB s.data.toList = noB 4 by rw [gotB_err (show frO s.data.toList = ([], 4) by rw [hl1, fr_more hc (by omega) (by omega) (by omega)]) (by omega)])
      have d3 : (R.size : Int) < (n : Int) + 4 := by omega
      have d4 : (R.size : Int) ≤ 100000 := by omega
      clear hl1 hc hn hR hr hrl hRs hbe
      go_enter Tryd.func28, Tryd.ntmps28
      go_wp2_with fail
      generalize hw1 : w.alloc (Obj.cells _ _) = w1
      replace HX : Hid (Has w1 w.heap.size 27 zbt) := by rw [← hw1]; exact HX
      replace B1 : Hid (Below w.heap.size w w1) := by rw [← hw1]; exact B1
      clear hw1
      refine (HC.out _).mono ?_; rintro e w2 ⟨rfl, b2⟩
      replace HX := Lib.hid (HX.out.up b2)
      replace B1 := Lib.hid (up_trans B1.out b2)
      clear b2
      go_wp2_with (refine wpList_store_whole rfl 27 _ _ rfl w.heap.size 27 zbt zbt (by rfl) (by rfl) HX.out rfl (by rw [hi, hz]) hzo ?_; intro wz hF hO)
      refine bodyPost_ret_by (results_got Tryd.results28 _ _ w.heap.size _ _ _ (by rfl) hF hz (by rfl) (by rfl)) rfl ?_
      exact bget_bad HR.out (hO.below (Nat.le_refl _) B1.out)
    have d3 : ¬ (R.size : Int) < (n : Int) + 4 := by omega
    have d4 : (R.size : Int) ≤ 100000 := by omega
    have e0 : (0 : Int) ≤ (n : Int) := by omega
    have e5 : 5 + (n : Int) ≤ (s.size : Int) := by omega
    have e6 : (n : Int) ≤ (R.size : Int) := by omega
    have hRl : R.data.toList = r.drop 4 := by rw [hR]
    have hbs : (R.extract n R.size).size = R.size - n := by rw [back_of, text_list, List.length_drop, list_size]
    have hbl : (R.extract n R.size).data.toList = r.drop (4 + n) := by rw [back_of, hRl, List.drop_drop]
    obtain ⟨X, hX⟩ : ∃ X, X = (r.drop (4 + n)).take 4 := ⟨_, rfl⟩
    have hXl : X.length = 4 := by rw [hX, List.length_take, List.length_drop]; omega
    have hC2 := fun w => rtake4_more (R.extract n R.size) (by omega) (by omega) w
    rw [hbl, ← hX] at hC2
    have hAl : (s.extract 0 (5 + n)).data.toList = s.data.toList.take (5 + n) := by rw [head_of]
    have hAs : (s.extract 0 (5 + n)).size ≤ maxLen := by
      have : (s.extract 0 (5 + n)).data.toList.length = (s.extract 0 (5 + n)).size := list_size _
      rw [hAl, List.length_take, list_size] at this
      unfold maxLen; omega
    have hO := fun w => rcrc_of (s.extract 0 (5 + n)) hAs w
    have hq := sumOf_lt (s.extract 0 (5 + n)).data.toList
    rw [hAl] at hO hq
    obtain ⟨q, hqe⟩ : ∃ q, q = sumOf (s.data.toList.take (5 + n)) := ⟨_, rfl⟩
    rw [← hqe] at hO hq
    have HO := Lib.hid hO
    have HC2 := Lib.hid hC2
    have q64 : IntKind.u64.wrap (q : Int) = (q : Int) := by rw [IntKind.wrap_u64]; omega
    have Q64 := Lib.hid q64
    by_cases heq : be X = q
    · have hfr : frO s.data.toList = ((r.drop 4).take n, 0) := by
        rw [hl1, fr_fine hc (by omega) (by omega) (by rw [← hn, ← hl1, ← hqe, ← hX, ← heq, fx_be4 hXl]), ← hn]
      have d5 : ((be X : Int) != (q : Int)) = false := by rw [bne_eq_false_iff_eq]; omega
      have hBs : (R.extract 0 n).size ≤ 20000 := by rw [head_of, text_list, List.length_take]; omega
      have hBl : (R.extract 0 n).data.toList = (r.drop 4).take n := by rw [head_of, hRl]
      have hG := fun w => rbody_any (R.extract 0 n) hBs w
      rw [hBl] at hG
      have HG := Lib.hid hG
      have HFR := Lib.hid hfr
      have hln : ((r.drop 4).take n).length = n := by rw [List.length_take, List.length_drop]; omega
      have HLN := Lib.hid hln
      generalize (r.drop 4).take n = l at *
      generalize be X = x at *
      clear hl1 hc hn hr hrl hRs hRl hbs hbl hX hXl hC2 hAl hAs hO hq hqe q64 hbe hR heq hfr hBs hBl hG hln hmore hbig h4
      go_enter Tryd.func28, Tryd.ntmps28
      go_wp2_with fail
      generalize hw1 : w.alloc (Obj.cells _ _) = w1
      replace HX : Hid (Has w1 w.heap.size 27 zbt) := by rw [← hw1]; exact HX
      replace B1 : Hid (Below w.heap.size w w1) := by rw [← hw1]; exact B1
      clear hw1
      refine (HC.out _).mono ?_; rintro e w2 ⟨rfl, b2⟩
      replace HX := Lib.hid (HX.out.up b2)
      replace B1 := Lib.hid (up_trans B1.out b2)
      clear b2
      go_wp2_with fail
      refine (HC2.out _).mono ?_; rintro e w3 ⟨rfl, b3⟩
      replace HX := Lib.hid (HX.out.up b3)
      replace B1 := Lib.hid (up_trans B1.out b3)
      clear b3
      go_wp2_with fail
      refine (HO.out _).mono ?_; rintro e w4 ⟨rfl, b4⟩
      replace HX := Lib.hid (HX.out.up b4)
      replace B1 := Lib.hid (up_trans B1.out b4)
      clear b4
      have q64 := Q64.out
      go_wp2_with fail
      refine (HG.out _).mono ?_; intro e w5 h5
      obtain ⟨b5, h5⟩ := h5
      have hs4 := B1.out.size
      replace HX := Lib.hid (HX.out.up b5)
      replace B1 := Lib.hid (up_trans B1.out b5)
      clear b5
      have hlx : w.heap.size < w5.heap.size := HX.out.lt
      cases hrd : rdB l with
      | none =>
        rw [hrd] at h5
        obtain ⟨f6, A6, n6, cap6, p6, hp6, rfl⟩ := h5
        have HR := Lib.hid (gotB_none HFR.out hrd)
        have hl6 := btc_length f6 (.slice A6 n6 cap6) hp6
        go_wp2_with (first
          | (refine wpList_store_whole rfl 27 _ _ rfl w5.heap.size 27 zbt (btc f6 (.slice A6 n6 cap6) p6) (by rfl) (by rfl) (Has.make w5 _ zbt) (by rw [hl6, hz]) (by rw [hi, hl6]) (btc_one _ _ _ _ _) ?_; intro w6 hF6 hO6)
          | (refine wpList_store_whole rfl 27 _ _ rfl w.heap.size 27 zbt zbt (by rfl) (by rfl) (hO6.keep (by omega) (HX.out.alloc _)) rfl (by rw [hi, hz]) hzo ?_; intro wz hF hO))
        refine bodyPost_ret_by (results_got Tryd.results28 _ _ w.heap.size _ _ _ (by rfl) hF hz (by rfl) (by rfl)) rfl ?_
        exact bget_bad HR.out (hO.below (Nat.le_refl _) (hO6.below (by omega) (B1.out.alloc B1.out.size _)))
      | some b =>
        rw [hrd] at h5
        obtain ⟨v, rfl, hO5⟩ := h5
        obtain ⟨A, m, cap, rfl, hn1, hn2, hn3⟩ := hO5.opened
        clear hn1 hn2 hn3
        have HR := Lib.hid (gotB_some HFR.out hrd)
        rw [HLN.out] at HR
        have hbf := (rdB_back hrd).2.2
        have hb3 := btc_length b.first (.slice A m cap) hbf.prev
        have RO := Lib.hid ((hO5.alloc (.cells zbt.toArray 27)).mono_base hs4)
        clear hO5
        go_wp2_with (first
          | (refine wpList_store_whole rfl 27 _ _ rfl w5.heap.size 27 zbt (btc b.first (.slice A m cap) b.prev) (by rfl) (by rfl) (Has.make w5 _ zbt) (by rw [hb3, hz]) (by rw [hi, hb3]) (btc_one _ _ _ _ _) ?_; intro w6 hF6 hO6)
          | (refine wpList_load_row rfl 27 _ rfl w5.heap.size (by rfl) _ _ _ _ hF6 hu rfl (by rw [hi, List.size_toArray, hb3]) ?_)
          | (refine wpList_store_whole rfl 27 _ _ rfl w.heap.size 27 zbt (btc b.first (.slice A m cap) b.prev) (by rfl) (by rfl) (hO6.keep (by omega) (HX.out.alloc _)) (by rw [hb3, hz]) (by rw [hi, hb3]) (btc_one _ _ _ _ _) ?_; intro wz hF hO))
        have O6 := RO.out.over (Has.make w5 27 zbt) (by decide) hO6
        have O7 := O6.over (hO6.keep (by omega) (HX.out.alloc _)) (by decide) hO
        refine bodyPost_ret_by (results_got Tryd.results28 _ _ w.heap.size _ (.int .i64 ((n + 9 : Nat) : Int)) (.int .i64 0) (by rfl) hF hb3 (by rfl) (by rfl)) rfl ?_
        exact bget_good HR.out O7 (hO.below (Nat.le_refl _) (hO6.below (by omega) (B1.out.alloc B1.out.size _)))
    · have HR := Lib.hid (show gotB s.data.toList = noB 10 by
        refine gotB_err (l := []) ?_ (by omega)
        rw [hl1, fr_sum hc (by omega) (by omega) (by
          rw [← hn, ← hl1, ← hqe, ← hX]
          intro h
          exact heq (by rw [h, be_four _ hq]))])
      have d5 : ((be X : Int) != (q : Int)) = true := by rw [bne_iff_ne]; omega
      generalize be X = x at *
      clear hl1 hc hn hr hrl hRs hRl hbs hbl hX hXl hC2 hAl hAs hO hq hqe q64 hbe hR heq hmore hbig h4
      go_enter Tryd.func28, Tryd.ntmps28
      go_wp2_with fail
      generalize hw1 : w.alloc (Obj.cells _ _) = w1
      replace HX : Hid (Has w1 w.heap.size 27 zbt) := by rw [← hw1]; exact HX
      replace B1 : Hid (Below w.heap.size w w1) := by rw [← hw1]; exact B1
      clear hw1
      refine (HC.out _).mono ?_; rintro e w2 ⟨rfl, b2⟩
      replace HX := Lib.hid (HX.out.up b2)
      replace B1 := Lib.hid (up_trans B1.out b2)
      clear b2
      go_wp2_with fail
      refine (HC2.out _).mono ?_; rintro e w3 ⟨rfl, b3⟩
      replace HX := Lib.hid (HX.out.up b3)
      replace B1 := Lib.hid (up_trans B1.out b3)
      clear b3
      go_wp2_with fail
      refine (HO.out _).mono ?_; rintro e w4 ⟨rfl, b4⟩
      replace HX := Lib.hid (HX.out.up b4)
      replace B1 := Lib.hid (up_trans B1.out b4)
      clear b4
      have q64 := Q64.out
      go_wp2_with (refine wpList_store_whole rfl 27 _ _ rfl w.heap.size 27 zbt zbt (by rfl) (by rfl) HX.out rfl (by rw [hi, hz]) hzo ?_; intro wz hF hO)
      refine bodyPost_ret_by (results_got Tryd.results28 _ _ w.heap.size _ _ _ (by rfl) hF hz (by rfl) (by rfl)) rfl ?_
      exact bget_bad HR.out (hO.below (Nat.le_refl _) B1.out)
  · have d1 : (((s[0]'hp).toNat : Int) != 66) = true := by rw [bne_iff_ne]; omega
    have HR := Lib.hid (show gotB s.data.toList = noB 3 by rw [gotB_err (show frO s.data.toList = ([], 3) by rw [hl1, fr_mark hc]) (by omega)])
    clear hl1 hc
    go_enter Tryd.func28, Tryd.ntmps28
    go_wp2_with (refine wpList_store_whole rfl 27 _ _ rfl w.heap.size 27 zbt zbt (by rfl) (by rfl) (Has.make w _ zbt) rfl (by rw [hi, hz]) hzo ?_; intro wz hF hO)
    refine bodyPost_ret_by (results_got Tryd.results28 _ _ w.heap.size _ _ _ (by rfl) hF hz (by rfl) (by rfl)) rfl ?_
    exact bget_bad HR.out (hO.below (Nat.le_refl _) B1.out)

end Go.Proofs.YthhcopeejhhpgaaDoor
