/- A batch's body: the contract of batch.bodyOf. -/
import Derived.Test.YthhcopeejhhpgaaDoorText
import Derived.Test.YthhcopeejhhpgaaDoorBatE
import Derived.Test.YthhcopeejhhpgaaDoorBuilds
import Derived.Test.YthhcopeejhhpgaaDoorEvPut
import Derived.Test.YthhcopeejhhpgaaDoorWires
import Derived.Test.YthhcopeejhhpgaaDoorEvGets
import Derived.Test.YthhcopeejhhpgaaDoorBats2
import Derived.Test.YthhcopeejhhpgaaDoorBase
import Derived.Test.YthhcopeejhhpgaaDoorEvRuns
import Derived.Laws.StructEq
namespace Go.Proofs.YthhcopeejhhpgaaDoor
open Go.RowKit Wire Evt Bat

theorem btc_range {w : World} {g : Nat} {t : TypeId} {first : Nat} {v : Value} {p : List UInt8} (h : Has w g t (btc first v p)) : w.rangeAt g 2 (bys p) := fun j x hx => by
  rw [h.cell]
  rw [show (btc first v p)[2 + j]? = (bys p)[j]? from by rw [show 2 + j = j + 2 by omega]; rfl]
  exact hx

/-- Where batch.bodyOf stands: the batch, and the builder with what it holds. -/
structure Bo (w w1 : World) (L : List Value) (acc : List UInt8) : Prop where
  X : Has w1 w.heap.size 27 L
  D : Bld (w.heap.size + 1) (w.heap.size + 1) acc w1
  below : Below w.heap.size w w1
  size : w.heap.size + 1 ≤ w1.heap.size
theorem Bo.up {w w1 w2 : World} {L : List Value} {acc : List UInt8} (h : Bo w w1 L acc) (hb : Below w1.heap.size w1 w2) : Bo w w2 L acc :=
  ⟨h.X.up hb, h.D.up hb, up_trans h.below hb, Nat.le_trans h.size hb.size⟩
theorem Bo.wrote {w w1 w2 : World} {L : List Value} {acc acc' : List UInt8} (h : Bo w w1 L acc) (hd : Bld (w.heap.size + 1) (w.heap.size + 1) acc' w2) (hb : Below (w.heap.size + 1) w1 w2) : Bo w w2 L acc' :=
  ⟨h.X.below hb (by omega), hd, h.below.trans (hb.mono (by omega)), Nat.le_trans h.size hb.size⟩

theorem put_ev (x : Ev) (hs : x.seq < 18446744073709551616) (h : x.ok = true) (w : World) :
    Calls Tryd.prog 61 #[.agg #[.int .u64 (x.seq : Nat), .int .i64 x.tick, .int .i64 x.part, .int .i64 x.kind, .int .i64 x.a, .int .i64 x.b]] w fun e w' => e = .returned (.tuple #[.string ⟨(enc x).toArray⟩, .int .i64 0]) ∧ Below w.heap.size w w' := by
  have c := eput_any x.seq x.tick x.part x.kind x.a x.b hs w
  rw [putR_yes h] at c
  exact c
theorem text_ev (x : Ev) (hs : x.seq < 18446744073709551616) (h : x.ok = true) (w : World) :
    Calls Tryd.prog 62 #[.string ⟨(enc x).toArray⟩] w fun e w' => e = .returned (.tuple #[.string ⟨(evB x).toArray⟩, .int .i64 0]) ∧ Below w.heap.size w w' := by
  have hl := (putE_len hs (isE_yes.1 h)).2
  have hl' : (enc x).length ≤ 65536 := by unfold enc; omega
  have c := text_any ⟨(enc x).toArray⟩ (by rw [text_list]; unfold maxLen; omega) w
  rw [show (⟨(enc x).toArray⟩ : ByteArray).data.toList = enc x from rfl, txt_yes hl'] at c
  exact c

set_option maxHeartbeats 2000000 in
set_option maxRecDepth 100000 in
theorem body_any (b : Bt) (hf : b.Fits) (h : isB b.first b.evs = true) (A : Option Addr) (n cap : Nat) (hn : n = b.evs.length) (hcap : b.evs.length ≤ cap) (w : World) (hA : EvSl w A b.evs) :
    Calls Tryd.prog 37 #[.agg (btc b.first (.slice A n cap) b.prev).toArray] w fun e w' => e = .returned (.string ⟨(bodyB b).toArray⟩) ∧ Below w.heap.size w w' := by
  obtain ⟨h1, h2, _, h4⟩ := isB_yes.1 h
  have hok := run_ok h4
  have hbl := body_len hf h
  obtain ⟨first, l, p⟩ := b
  obtain ⟨hf1, hf2, hf3⟩ := hf
  simp only at h1 h2 h4 hok hf1 hf2 hf3 hn hcap hA ⊢
  have HX := Lib.hid ((Has.make w 27 (btc first (.slice A n cap) p)).alloc (.cells #[.pointer none, .slice none 0 0] 90))
  have hcv := bytes_text _ w.heap.size 2 32 p (btc_range HX.out)
  rw [hf2] at hcv
  have HN := Lib.hid hn
  have n0 : n ≤ 256 := by omega
  have n1 : 1 ≤ n := by omega
  have hlb : (bodyB ⟨first, l, p⟩).length = 32 + ((putL first).length + ((putL n).length + (l.flatMap evB).length)) := by
    rw [hn]; simp only [bodyB, List.length_append, hf2]
  have HLB := Lib.hid hlb
  have HEQ := Lib.hid (show bodyB ⟨first, l, p⟩ = p ++ (putL first ++ (putL n ++ l.flatMap evB)) by rw [hn]; rfl)
  clear hn hlb
  have L0 : (btc first (.slice A n cap) p)[0]? = some (.int .u64 (first : Nat)) := rfl
  have L1 : (btc first (.slice A n cap) p)[1]? = some (.slice A n cap) := rfl
  generalize btc first (.slice A n cap) p = L at *
  have hb0 := Bld.fresh (w.alloc (.cells L.toArray 27))
  rw [show (w.alloc (.cells L.toArray 27)).heap.size = w.heap.size + 1 by simp] at hb0
  have HB := Lib.hid hb0
  have B1 := Lib.hid (up_alloc (up_alloc (Below.refl w.heap.size w) (.cells L.toArray 27)) (.cells #[.pointer none, .slice none 0 0] 90))
  have hsz : w.heap.size + 1 + 1 = ((w.alloc (.cells L.toArray 27)).alloc (.cells #[.pointer none, .slice none 0 0] 90)).heap.size := by simp
  have HS := Lib.hid hsz
  clear hb0 hsz
  go_enter Tryd.func37, Tryd.ntmps37
  go_wp2_with fail
  generalize hw1 : (w.alloc (Obj.cells L.toArray 27)).alloc _ = w1
  rw [hw1] at HX HB B1 HS
  have hBo : Bo w w1 L [] := ⟨HX.out, HB.out, B1.out, by rw [← HS.out]; omega⟩
  have BO := Lib.hid hBo
  clear hw1 hBo HX HB B1 HS hcv
  have hp1 := putL_ten hf1
  have hp2 := putL_ten (n := n) (by omega)
  refine (bwrite_any _ _ [] ⟨p.toArray⟩ w1 BO.out.D (by rw [text_list]; simp; omega) BO.out.size).mono ?_; rintro e w2 ⟨rfl, hd, hb⟩
  replace BO := Lib.hid (BO.out.wrote hd hb)
  clear hd hb
  have q0 := BO.out.X.at L0
  go_wp2_with fail
  refine (put_any first hf1 _).mono ?_; rintro e w3 ⟨rfl, hb⟩
  replace BO := Lib.hid (BO.out.up hb)
  clear hb q0
  go_wp2_with fail
  refine (bwrite_any _ _ _ ⟨(putL first).toArray⟩ w3 BO.out.D (by rw [text_list]; simp; omega) BO.out.size).mono ?_; rintro e w4 ⟨rfl, hd, hb⟩
  replace BO := Lib.hid (BO.out.wrote hd hb)
  clear hd hb
  have q1 := BO.out.X.at L1
  have hn64 : IntKind.u64.wrap (n : Int) = (n : Int) := by rw [IntKind.wrap_u64]; omega
  go_wp2_with fail
  refine (put_any n (by omega) _).mono ?_; rintro e w5 ⟨rfl, hb⟩
  replace BO := Lib.hid (BO.out.up hb)
  clear hb q1
  go_wp2_with fail
  refine (bwrite_any _ _ _ ⟨(putL n).toArray⟩ w5 BO.out.D (by rw [text_list]; simp; omega) BO.out.size).mono ?_; rintro e w6 ⟨rfl, hd, hb⟩
  replace BO := Lib.hid (BO.out.wrote hd hb)
  clear hd hb
  have q1 := BO.out.X.at L1
  go_wp2_with fail
  have hpre : ([] ++ p ++ putL first ++ putL n).length ≤ 52 := by simp only [List.nil_append, List.length_append, hf2]; omega
  have HEQ2 : Hid (bodyB ⟨first, l, p⟩ = ([] ++ p ++ putL first ++ putL n) ++ l.flatMap evB) := Lib.hid (by rw [HEQ.out]; simp)
  generalize [] ++ p ++ putL first ++ putL n = pre at *
  have HV := Lib.hid hf3
  have HOK := Lib.hid hok
  have hfl := evB_row hf3 hok
  clear hbl HLB HEQ hp1 hp2 q1 hn64 h h4 h1 hf1 hf3 hok
  go_loopw [27] (fun i wr => ∃ k : Nat, k ≤ n ∧ i = .int .i64 (k : Nat) ∧ Bo w wr L (pre ++ (l.take k).flatMap evB)) (fun i _ => n - (intOf i).toNat)
  case atStart => exact ⟨0, by omega, rfl, by simpa using BO.out⟩
  case round =>
    clear BO
    obtain ⟨k, hk, rfl, hBo⟩ := hrel
    have BO := Lib.hid hBo
    clear hBo
    by_cases hlt : k < n
    · obtain ⟨x, hx⟩ : ∃ x, l[k]? = some x := ⟨_, List.getElem?_eq_getElem (by rw [← HN.out]; exact hlt)⟩
      have hxm := List.mem_of_getElem? hx
      obtain ⟨g, o, rfl, hev⟩ := (hA.up BO.out.below) (by rw [← HN.out]; omega)
      obtain ⟨c0, c1, c2, c3, c4, c5⟩ := ev_at hev hx
      have hk0 : (0 : Int) ≤ (k : Int) := by omega
      have hk1 : (k : Int) < (n : Int) := by omega
      have hN : (l.take (k + 1)).flatMap evB = (l.take k).flatMap evB ++ evB x := by
        have hkl : k < l.length := (List.getElem?_eq_some_iff.1 hx).1
        rw [List.take_succ_eq_append_getElem hkl, (List.getElem?_eq_some_iff.1 hx).2, List.flatMap_append]
        simp
      have HNX := Lib.hid hN
      have P1 := Lib.hid (fun w => put_ev x (HV.out x hxm) (HOK.out x hxm) w)
      have T1 := Lib.hid (fun w => text_ev x (HV.out x hxm) (HOK.out x hxm) w)
      have hel := evB_len (HV.out x hxm) (HOK.out x hxm)
      have htl : ((l.take k).flatMap evB).length ≤ 40 * 256 := by
        have h5 := evB_row (l := l.take k) (fun y hy => HV.out y (List.mem_of_mem_take hy)) (fun y hy => HOK.out y (List.mem_of_mem_take hy))
        rw [List.length_take] at h5
        omega
      clear hx hxm hev hN
      go_wp2_with fail
      refine (P1.out _).mono ?_; rintro e w7 ⟨rfl, hb⟩
      replace BO := Lib.hid (BO.out.up ((up_alloc (Below.refl _ _) _).trans (hb.mono (by simp))))
      clear hb c0 c1 c2 c3 c4 c5
      go_wp2_with fail
      refine (T1.out _).mono ?_; rintro e w8 ⟨rfl, hb⟩
      replace BO := Lib.hid (BO.out.up hb)
      clear hb
      go_wp2_with fail
      refine (bwrite_any _ _ _ ⟨(evB x).toArray⟩ w8 BO.out.D (by rw [text_list, List.length_append]; omega) BO.out.size).mono ?_; rintro e w9 ⟨rfl, hd, hb⟩
      replace BO := BO.out.wrote hd hb
      clear hd hb
      rw [List.append_assoc, show (⟨(evB x).toArray⟩ : ByteArray).data.toList = evB x from rfl, ← HNX.out] at BO
      replace BO := Lib.hid BO
      go_wp2_with fail
      go_roundw
      case rel => exact ⟨k + 1, by omega, by go_num, BO.out⟩
      case measure => simp [intOf]; omega
    · obtain rfl : k = n := by omega
      have HT := Lib.hid (show l.take k = l by rw [HN.out]; exact List.take_length)
      go_wp2_with fail
      refine (bstring_any _ _ _ wr BO.out.D BO.out.size).mono ?_; rintro e w7 ⟨rfl, hb⟩
      go_wp2_with fail
      go_ret
      exact ⟨by rw [HEQ2.out, HT.out]; rfl, BO.out.below.trans (hb.mono (by omega))⟩

end Go.Proofs.YthhcopeejhhpgaaDoor

/- A batch as bytes: the contract of batch.Put. -/
namespace Go.Proofs.YthhcopeejhhpgaaDoor
open Go.RowKit Wire Evt Bat Crc

set_option maxHeartbeats 1000000 in
set_option maxRecDepth 100000 in
theorem bput_yes (b : Bt) (hf : b.Fits) (h : isB b.first b.evs = true) (A : Option Addr) (n cap : Nat) (hn : n = b.evs.length) (hcap : b.evs.length ≤ cap) (w : World) (hA : EvSl w A b.evs) :
    Calls Tryd.prog 24 #[.agg (btc b.first (.slice A n cap) b.prev).toArray] w fun e w' => e = .returned (.tuple #[.string ⟨(whole b).toArray⟩, .int .i64 0]) ∧ Below w.heap.size w w' := by
  obtain ⟨h1, h2, _, h4⟩ := isB_yes.1 h
  have i1 := fun w hA => bis_any b.first b.evs b.prev hf.seqs A n cap hn hcap (by omega) w hA
  rw [h] at i1
  have I := Lib.hid i1
  have C := Lib.hid (fun w hA => body_any b hf h A n cap hn hcap w hA)
  have hlen := btc_length b.first (.slice A n cap) hf.prev
  have hbl := body_len hf h
  have hi := info_batch
  have hu := Tryd.underlying27
  have HA := Lib.hid hA
  have HX := Lib.hid (Has.make w 27 (btc b.first (.slice A n cap) b.prev))
  generalize btc b.first (.slice A n cap) b.prev = L at *
  have B1 := Lib.hid (up_alloc (Below.refl w.heap.size w) (.cells L.toArray 27))
  obtain ⟨m, hm⟩ : ∃ m, m = (bodyB b).length := ⟨_, rfl⟩
  obtain ⟨Y, hY⟩ : ∃ Y : ByteArray, Y = ⟨(bodyB b).toArray⟩ := ⟨_, rfl⟩
  obtain ⟨F, hF⟩ : ∃ F : ByteArray, F = ⟨(fx m 4).toArray⟩ := ⟨_, rfl⟩
  have zY : Y.size = m := by rw [hY, text_list, hm]
  have zF : F.size = 4 := by rw [hF, text_list, fx_length]
  have c1 := fun w => fixed4 m w
  rw [← hF] at c1
  have C1 := Lib.hid c1
  rw [← hY] at C
  obtain ⟨T, hT⟩ : ∃ T : ByteArray, T = (⟨#[66]⟩ : ByteArray) ++ F ++ Y := ⟨_, rfl⟩
  have hTl : T.data.toList = framedB b := by
    rw [hT, hF, hY, hm]
    simp [framedB]
  have zT : T.size = m + 5 := by
    have := list_size T
    rw [← this, hTl, framed_len, hm]
  have c2 := fun w => crc_of T (by rw [zT]; unfold maxLen; omega) w
  have hq := sumOf_lt T.data.toList
  obtain ⟨q, hqe⟩ : ∃ q, q = sumOf T.data.toList := ⟨_, rfl⟩
  rw [← hqe] at c2 hq
  have hq64 := Lib.hid (show IntKind.u64.wrap (q : Int) = (q : Int) by rw [IntKind.wrap_u64]; omega)
  obtain ⟨G, hG⟩ : ∃ G : ByteArray, G = ⟨(fx q 4).toArray⟩ := ⟨_, rfl⟩
  have zG : G.size = 4 := by rw [hG, text_list, fx_length]
  have c3 := fun w => fixed4 q w
  rw [← hG] at c3
  have C3 := Lib.hid c3
  have E : Hid (T ++ G = ⟨(whole b).toArray⟩) := Lib.hid (by
    apply ByteArray.ext
    apply Array.toList_inj.1
    rw [ByteArray.data_append, Array.toList_append, hTl, hG, hqe, hTl]
    rfl)
  rw [hT] at c2 E
  have C2 := Lib.hid c2
  have v1 : IntKind.u64.wrap (m : Int) = (m : Int) := by rw [IntKind.wrap_u64]; omega
  have yb : Y.size ≤ 10400 := by omega
  have fb : F.size ≤ 4 := by omega
  have gb : G.size ≤ 4 := by omega
  have j1 : ¬ 9223372036854775807 < 1 + F.size := by omega
  have j2 : ¬ 9223372036854775807 < 1 + F.size + m := by omega
  have j3 : ¬ 9223372036854775807 < 1 + F.size + m + G.size := by omega
  have v2 : IntKind.u64.wrap (Y.size : Int) = (m : Int) := by rw [IntKind.wrap_u64]; omega
  have hst := fun (W : World) (h : Below w.heap.size w W) => HA.out.up h
  have HST := Lib.hid hst
  clear i1 h hbl hA hm hY hF zF c1 hT hTl zT c2 hq hqe hG zG c3 hst hn hcap h1 h2 h4
  go_enter Tryd.func24, Tryd.ntmps24
  go_wp2_with (refine wpList_load_row rfl 27 _ rfl w.heap.size (by rfl) _ _ _ _ HX.out hu rfl (by rw [hi, List.size_toArray, hlen]) ?_)
  generalize hw1 : w.alloc (Obj.cells L.toArray 27) = w1
  rw [hw1] at HX B1
  clear hw1
  refine (I.out _ (HST.out _ B1.out)).mono ?_; rintro e w2 ⟨rfl, b2⟩
  replace HX := Lib.hid (HX.out.up b2)
  replace B1 := Lib.hid (up_trans B1.out b2)
  clear b2
  go_wp2_with (refine wpList_load_row rfl 27 _ rfl w.heap.size (by rfl) _ _ _ _ HX.out hu rfl (by rw [hi, List.size_toArray, hlen]) ?_)
  refine (C.out _ (HST.out _ B1.out)).mono ?_; rintro e w3 ⟨rfl, b3⟩
  replace B1 := Lib.hid (up_trans B1.out b3)
  clear b3 HX I C
  go_wp2_with fail
  refine wp_region_held_drew (S := fun _ => True) (by kernel_rfl) (trivial) (fun hHeld => ?_)
  refine wpAnyH_take (i := 2) (v := ?_) rfl (by kernel_rfl) (by kernel_rfl) (by kernel_rfl) (fun _ _ _ h => h) (Or.inl ⟨by rfl, ?_⟩) (by assumption) ?_
  rotate_left
  · intro w hSw; (try dsimp only at hSw); go_simp; try with_reducible rfl
  try simp only [Act.put, List.getElem_toArray, List.getElem_cons_zero, List.getElem_cons_succ, List.setIfInBounds_toArray, List.set_cons_zero, List.set_cons_succ]
  refine wpAnyH_take (i := 3) (v := ?_) rfl (by kernel_rfl) (by kernel_rfl) (by kernel_rfl) (fun _ _ _ h => h) (Or.inl ⟨by rfl, ?_⟩) (by assumption) ?_
  rotate_left
  · intro w hSw; (try dsimp only at hSw); go_simp; try with_reducible rfl
  try simp only [Act.put, List.getElem_toArray, List.getElem_cons_zero, List.getElem_cons_succ, List.setIfInBounds_toArray, List.set_cons_zero, List.set_cons_succ]
  refine wpAnyH_take (i := 4) (v := ?_) rfl (by kernel_rfl) (by kernel_rfl) (by kernel_rfl) (fun _ _ _ h => h) (Or.inl ⟨by rfl, ?_⟩) (by assumption) ?_
  rotate_left
  · intro w hSw; (try dsimp only at hSw); go_simp; try with_reducible rfl
  try simp only [Act.put, List.getElem_toArray, List.getElem_cons_zero, List.getElem_cons_succ, List.setIfInBounds_toArray, List.set_cons_zero, List.set_cons_succ]
  refine wpAnyH_take (i := 7) (v := ?_) rfl (by kernel_rfl) (by kernel_rfl) (by kernel_rfl) (fun _ _ _ h => h) (Or.inl ⟨by rfl, ?_⟩) (by assumption) ?_
  rotate_left
  · intro w hSw; (try dsimp only at hSw); go_simp; try with_reducible rfl
  try simp only [Act.put, List.getElem_toArray, List.getElem_cons_zero, List.getElem_cons_succ, List.setIfInBounds_toArray, List.set_cons_zero, List.set_cons_succ]
  refine wpAnyH_ready (rs := [0, 5]) (by kernel_rfl) (by simp) (AllReadyH.cons rfl (fun K hK => ?_) (AllReadyH.cons rfl (fun K hK => ?_) AllReadyH.nil))
  · skip
    go_simp
    refine hK.out _ _ (trivial) (fun hHeld => ?_)
    clear hK K
    try simp only [Act.put, List.getElem_toArray, List.getElem_cons_zero, List.getElem_cons_succ, List.setIfInBounds_toArray, List.set_cons_zero, List.set_cons_succ]
    refine wpAnyH_turn (fun W => Has W w3.heap.size 5 (bys [66])) (fun _ _ => trivial) (by first | exact Has.make _ 5 (bys [66]) | exact (Has.make _ 5 (bys [66])).drew) (fun hHeld => ?_)
    refine wpAnyH_take (i := 1) (v := .string ⟨#[66]⟩) rfl (by kernel_rfl) (by kernel_rfl) (by kernel_rfl) (fun _ _ _ h => h) (Or.inl ⟨by rfl, by intro w hSw; have ht := has_text (n := 1) hSw rfl; go_simp⟩) (by assumption) ?_
    try simp only [Act.put, List.getElem_toArray, List.getElem_cons_zero, List.getElem_cons_succ, List.setIfInBounds_toArray, List.set_cons_zero, List.set_cons_succ]
    refine wpAnyH_ready (rs := [5]) (by kernel_rfl) (by simp) (AllReadyH.cons rfl (fun K hK => ?_) AllReadyH.nil)
    go_simp
    refine (C1.out _).mono ?_; rintro e wn ⟨rfl, hbn'⟩; have hbn'' := hbn'
    replace hbn : Below w3.heap.size w3 wn := up_trans (up_alloc (Below.refl _ _).drew _) hbn'
    clear hbn'
    go_wp2_with fail
    refine hK.out _ _ (hHeld.up hbn'') (fun hHeld => ?_)
    clear hK K
    try simp only [Act.put, List.getElem_toArray, List.getElem_cons_zero, List.getElem_cons_succ, List.setIfInBounds_toArray, List.set_cons_zero, List.set_cons_succ]
    refine wpAnyH_take (i := 6) (v := ?_) rfl (by kernel_rfl) (by kernel_rfl) (by kernel_rfl) (fun _ _ _ h => h) (Or.inl ⟨by rfl, ?_⟩) (by assumption) ?_
    rotate_left
    · intro w hSw; (try dsimp only at hSw); go_simp; try with_reducible rfl
    try simp only [Act.put, List.getElem_toArray, List.getElem_cons_zero, List.getElem_cons_succ, List.setIfInBounds_toArray, List.set_cons_zero, List.set_cons_succ]
    refine wpAnyH_take (i := 8) (v := ?_) rfl (by kernel_rfl) (by kernel_rfl) (by kernel_rfl) (fun _ _ _ h => h) (Or.inl ⟨by rfl, ?_⟩) (by assumption) ?_
    rotate_left
    · intro w hSw; (try dsimp only at hSw); go_simp; try with_reducible rfl
    try simp only [Act.put, List.getElem_toArray, List.getElem_cons_zero, List.getElem_cons_succ, List.setIfInBounds_toArray, List.set_cons_zero, List.set_cons_succ]
    refine wpAnyH_take (i := 9) (v := ?_) rfl (by kernel_rfl) (by kernel_rfl) (by kernel_rfl) (fun _ _ _ h => h) (Or.inl ⟨by rfl, ?_⟩) (by assumption) ?_
    rotate_left
    · intro w hSw; (try dsimp only at hSw); go_simp; try with_reducible rfl
    try simp only [Act.put, List.getElem_toArray, List.getElem_cons_zero, List.getElem_cons_succ, List.setIfInBounds_toArray, List.set_cons_zero, List.set_cons_succ]
    refine wpAnyH_done (by kernel_rfl) ?_ _
    go_wp2_with fail
    refine (C2.out _).mono ?_; rintro e w5 ⟨rfl, b5⟩
    have q1 := hq64.out
    go_wp2_with fail
    refine (C3.out _).mono ?_; rintro e w6 ⟨rfl, b6⟩
    go_wp2_with fail
    go_ret2
    exact ⟨by rw [← E.out]; rfl, up_trans (up_trans (up_trans B1.out hbn) b5) b6⟩
  · skip
    go_simp
    refine (C1.out _).mono ?_; rintro e wn ⟨rfl, hbn'⟩; have hbn'' := hbn'
    have hbn : Below w3.heap.size w3 wn := up_trans (Below.refl _ _).drew hbn'
    clear hbn'
    go_wp2_with fail
    refine hK.out _ _ (trivial) (fun hHeld => ?_)
    clear hK K
    try simp only [Act.put, List.getElem_toArray, List.getElem_cons_zero, List.getElem_cons_succ, List.setIfInBounds_toArray, List.set_cons_zero, List.set_cons_succ]
    refine wpAnyH_ready (rs := [0]) (by kernel_rfl) (by simp) (AllReadyH.cons rfl (fun K hK => ?_) AllReadyH.nil)
    go_simp
    refine hK.out _ _ (trivial) (fun hHeld => ?_)
    clear hK K
    try simp only [Act.put, List.getElem_toArray, List.getElem_cons_zero, List.getElem_cons_succ, List.setIfInBounds_toArray, List.set_cons_zero, List.set_cons_succ]
    refine wpAnyH_turn (fun W => Has W wn.heap.size 5 (bys [66])) (fun _ _ => trivial) (by first | exact Has.make _ 5 (bys [66]) | exact (Has.make _ 5 (bys [66])).drew) (fun hHeld => ?_)
    refine wpAnyH_take (i := 1) (v := .string ⟨#[66]⟩) rfl (by kernel_rfl) (by kernel_rfl) (by kernel_rfl) (fun _ _ _ h => h) (Or.inl ⟨by rfl, by intro w hSw; have ht := has_text (n := 1) hSw rfl; go_simp⟩) (by assumption) ?_
    try simp only [Act.put, List.getElem_toArray, List.getElem_cons_zero, List.getElem_cons_succ, List.setIfInBounds_toArray, List.set_cons_zero, List.set_cons_succ]
    refine wpAnyH_take (i := 6) (v := ?_) rfl (by kernel_rfl) (by kernel_rfl) (by kernel_rfl) (fun _ _ _ h => h) (Or.inl ⟨by rfl, ?_⟩) (by assumption) ?_
    rotate_left
    · intro w hSw; (try dsimp only at hSw); go_simp; try with_reducible rfl
    try simp only [Act.put, List.getElem_toArray, List.getElem_cons_zero, List.getElem_cons_succ, List.setIfInBounds_toArray, List.set_cons_zero, List.set_cons_succ]
    refine wpAnyH_take (i := 8) (v := ?_) rfl (by kernel_rfl) (by kernel_rfl) (by kernel_rfl) (fun _ _ _ h => h) (Or.inl ⟨by rfl, ?_⟩) (by assumption) ?_
    rotate_left
    · intro w hSw; (try dsimp only at hSw); go_simp; try with_reducible rfl
    try simp only [Act.put, List.getElem_toArray, List.getElem_cons_zero, List.getElem_cons_succ, List.setIfInBounds_toArray, List.set_cons_zero, List.set_cons_succ]
    refine wpAnyH_take (i := 9) (v := ?_) rfl (by kernel_rfl) (by kernel_rfl) (by kernel_rfl) (fun _ _ _ h => h) (Or.inl ⟨by rfl, ?_⟩) (by assumption) ?_
    rotate_left
    · intro w hSw; (try dsimp only at hSw); go_simp; try with_reducible rfl
    try simp only [Act.put, List.getElem_toArray, List.getElem_cons_zero, List.getElem_cons_succ, List.setIfInBounds_toArray, List.set_cons_zero, List.set_cons_succ]
    refine wpAnyH_done (by kernel_rfl) ?_ _
    go_wp2_with fail
    refine (C2.out _).mono ?_; rintro e w5 ⟨rfl, b5⟩
    have q1 := hq64.out
    go_wp2_with fail
    refine (C3.out _).mono ?_; rintro e w6 ⟨rfl, b6⟩
    go_wp2_with fail
    go_ret2
    exact ⟨by rw [← E.out]; rfl, up_trans (up_trans (up_trans B1.out (up_alloc hbn _)) b5) b6⟩

end Go.Proofs.YthhcopeejhhpgaaDoor

/- Rows and batches that are the same: contracts of the document's own Same, at what is the same; batch.Put at what is not right; batch.Last. -/
namespace Go.Proofs.YthhcopeejhhpgaaDoor
open Go.RowKit Wire Evt Bat

set_option maxHeartbeats 1000000 in
set_option maxRecDepth 100000 in
theorem esame_any (A A' : Option Addr) (l : List Ev) (n cap cap' : Nat) (hn : n = l.length) (hcap : n ≤ cap) (hcap' : n ≤ cap') (hm : l.length ≤ 100000) (w : World) (hA : EvSl w A l) (hA' : EvSl w A' l) :
    Calls Tryd.prog 16 #[.slice A n cap, .slice A' n cap'] w fun e w' => e = .returned (.bool true) ∧ Below w.heap.size w w' := by
  have HN := Lib.hid hn
  have HA := Lib.hid hA
  have HA' := Lib.hid hA'
  have hm' : n ≤ 100000 := by omega
  clear hn hA hA' hm
  go_enter Tryd.func16, Tryd.ntmps16
  go_wp2_with fail
  go_loopw [5] (fun i wr => ∃ k : Nat, k ≤ n ∧ i = .int .i64 (k : Nat) ∧ Hid (Below w.heap.size w wr)) (fun i _ => n - (intOf i).toNat)
  case atStart => exact ⟨0, by omega, rfl, Lib.hid (Below.refl _ _)⟩
  case round =>
    obtain ⟨k, hk, rfl, hB⟩ := hrel
    by_cases hlt : k < n
    · obtain ⟨x, hx⟩ : ∃ x, l[k]? = some x := ⟨_, List.getElem?_eq_getElem (by rw [← HN.out]; exact hlt)⟩
      obtain ⟨g, o, rfl, hev⟩ := (HA.out.up hB.out) (by rw [← HN.out]; omega)
      obtain ⟨g', o', rfl, hev'⟩ := (HA'.out.up hB.out) (by rw [← HN.out]; omega)
      have HK := Lib.hid (fun W (h : Below wr.heap.size wr W) => And.intro (ev_at (hev.up h) hx) (ev_at (hev'.up h) hx))
      have hk0 : (0 : Int) ≤ (k : Int) := by omega
      have hk1 : (k : Int) < (n : Int) := by omega
      have hk2 : (k : Int) ≤ 100000 := by omega
      obtain ⟨s, t, p, kd, a, b⟩ := x
      simp only at HK
      clear hev hev' hx
      go_wp2_with fail
      refine wp_region_held_drew (S := fun W => (W.cell? ⟨g, o + k * 6, none⟩ = some (.int .u64 (s : Nat)) ∧ W.cell? ⟨g, o + k * 6 + 1, none⟩ = some (.int .i64 t) ∧ W.cell? ⟨g, o + k * 6 + 2, none⟩ = some (.int .i64 p) ∧ W.cell? ⟨g, o + k * 6 + 3, none⟩ = some (.int .i64 kd) ∧ W.cell? ⟨g, o + k * 6 + 4, none⟩ = some (.int .i64 a) ∧ W.cell? ⟨g, o + k * 6 + 5, none⟩ = some (.int .i64 b)) ∧ (W.cell? ⟨g', o' + k * 6, none⟩ = some (.int .u64 (s : Nat)) ∧ W.cell? ⟨g', o' + k * 6 + 1, none⟩ = some (.int .i64 t) ∧ W.cell? ⟨g', o' + k * 6 + 2, none⟩ = some (.int .i64 p) ∧ W.cell? ⟨g', o' + k * 6 + 3, none⟩ = some (.int .i64 kd) ∧ W.cell? ⟨g', o' + k * 6 + 4, none⟩ = some (.int .i64 a) ∧ W.cell? ⟨g', o' + k * 6 + 5, none⟩ = some (.int .i64 b))) (by kernel_rfl) (HK.out _ (Below.refl _ _).drew) (fun hHeld => ?_)
      refine wpAnyH_take (i := 0) (v := ?_) rfl (by kernel_rfl) (by kernel_rfl) (by kernel_rfl) (fun _ _ _ h => h) (Or.inl ⟨by rfl, ?_⟩) (by assumption) ?_
      rotate_left
      · intro w hSw; (try dsimp only at hSw); go_simp; try with_reducible rfl
      try simp only [Act.put, List.getElem_toArray, List.getElem_cons_zero, List.setIfInBounds_toArray, List.set_cons_zero, List.set_cons_succ]
      refine wpAnyH_take (i := 1) (v := ?_) rfl (by kernel_rfl) (by kernel_rfl) (by kernel_rfl) (fun _ _ _ h => h) (Or.inl ⟨by rfl, ?_⟩) (by assumption) ?_
      rotate_left
      · intro w hSw; (try dsimp only at hSw); go_simp; try with_reducible rfl
      try simp only [Act.put, List.getElem_toArray, List.getElem_cons_zero, List.getElem_cons_succ, List.setIfInBounds_toArray, List.set_cons_zero, List.set_cons_succ]
      refine wpAnyH_take (i := 2) (v := ?_) rfl (by kernel_rfl) (by kernel_rfl) (by kernel_rfl) (fun _ _ _ h => h) (Or.inl ⟨by rfl, ?_⟩) (by assumption) ?_
      rotate_left
      · intro w hSw; (try dsimp only at hSw); go_simp; try with_reducible rfl
      try simp only [Act.put, List.getElem_toArray, List.getElem_cons_zero, List.getElem_cons_succ, List.setIfInBounds_toArray, List.set_cons_zero, List.set_cons_succ]
      refine wpAnyH_take (i := 3) (v := ?_) rfl (by kernel_rfl) (by kernel_rfl) (by kernel_rfl) (fun _ _ _ h => h) (Or.inl ⟨by rfl, ?_⟩) (by assumption) ?_
      rotate_left
      · intro w hSw; (try dsimp only at hSw); go_simp; try with_reducible rfl
      try simp only [Act.put, List.getElem_toArray, List.getElem_cons_zero, List.getElem_cons_succ, List.setIfInBounds_toArray, List.set_cons_zero, List.set_cons_succ]
      refine wpAnyH_take (i := 4) (v := ?_) rfl (by kernel_rfl) (by kernel_rfl) (by kernel_rfl) (fun _ _ _ h => h) (Or.inl ⟨by rfl, ?_⟩) (by assumption) ?_
      rotate_left
      · intro w hSw; (try dsimp only at hSw); go_simp; try with_reducible rfl
      try simp only [Act.put, List.getElem_toArray, List.getElem_cons_zero, List.getElem_cons_succ, List.setIfInBounds_toArray, List.set_cons_zero, List.set_cons_succ]
      refine wpAnyH_take (i := 5) (v := ?_) rfl (by kernel_rfl) (by kernel_rfl) (by kernel_rfl) (fun _ _ _ h => h) (Or.inl ⟨by rfl, ?_⟩) (by assumption) ?_
      rotate_left
      · intro w hSw; (try dsimp only at hSw); go_simp; try with_reducible rfl
      try simp only [Act.put, List.getElem_toArray, List.getElem_cons_zero, List.getElem_cons_succ, List.setIfInBounds_toArray, List.set_cons_zero, List.set_cons_succ]
      refine wpAnyH_take (i := 6) (v := ?_) rfl (by kernel_rfl) (by kernel_rfl) (by kernel_rfl) (fun _ _ _ h => h) (Or.inl ⟨by rfl, ?_⟩) (by assumption) ?_
      rotate_left
      · intro w hSw; (try dsimp only at hSw); go_simp; try with_reducible rfl
      try simp only [Act.put, List.getElem_toArray, List.getElem_cons_zero, List.getElem_cons_succ, List.setIfInBounds_toArray, List.set_cons_zero, List.set_cons_succ]
      refine wpAnyH_take (i := 7) (v := ?_) rfl (by kernel_rfl) (by kernel_rfl) (by kernel_rfl) (fun _ _ _ h => h) (Or.inl ⟨by rfl, ?_⟩) (by assumption) ?_
      rotate_left
      · intro w hSw; (try dsimp only at hSw); go_simp; try with_reducible rfl
      try simp only [Act.put, List.getElem_toArray, List.getElem_cons_zero, List.getElem_cons_succ, List.setIfInBounds_toArray, List.set_cons_zero, List.set_cons_succ]
      refine wpAnyH_take (i := 8) (v := ?_) rfl (by kernel_rfl) (by kernel_rfl) (by kernel_rfl) (fun _ _ _ h => h) (Or.inl ⟨by rfl, ?_⟩) (by assumption) ?_
      rotate_left
      · intro w hSw; (try dsimp only at hSw); go_simp; try with_reducible rfl
      try simp only [Act.put, List.getElem_toArray, List.getElem_cons_zero, List.getElem_cons_succ, List.setIfInBounds_toArray, List.set_cons_zero, List.set_cons_succ]
      refine wpAnyH_done (by kernel_rfl) ?_ _
      go_wp2_with fail
      go_roundw
      case rel => exact ⟨k + 1, by omega, by go_num, Lib.hid (up_trans hB.out (Below.refl _ _).drew)⟩
      case measure => simp [intOf]; omega
    · obtain rfl : k = n := by omega
      go_wp2_with fail
      go_ret
      exact ⟨rfl, hB.out⟩

theorem OwnE.slice {B : Nat} {A : Option Addr} {n cap : Nat} {l : List Ev} {w : World} (h : OwnE B (.slice A n cap) l w) : n = l.length ∧ l.length ≤ cap ∧ EvSl w A l := by
  obtain ⟨A', n', cap', he, h1, h2, h3⟩ := h.opened
  injection he with e1 e2 e3
  subst e1 e2 e3
  exact ⟨h1, h2, h3⟩

set_option maxHeartbeats 2000000 in
set_option maxRecDepth 100000 in
theorem same_any (first : Nat) (p : List UInt8) (hp : p.length = 32) (A A' : Option Addr) (l : List Ev) (n cap cap' : Nat) (hn : n = l.length) (hcap : n ≤ cap) (hcap' : n ≤ cap') (hm : l.length ≤ 100000) (w : World) (hA : EvSl w A l) (hA' : EvSl w A' l) :
    Calls Tryd.prog 12 #[.agg (btc first (.slice A n cap) p).toArray, .agg (btc first (.slice A' n cap') p).toArray] w fun e w' => e = .returned (.bool true) ∧ Below w.heap.size w w' := by
  have i1 := fun w hA hA' => esame_any A A' l n cap cap' hn hcap hcap' hm w hA hA'
  have I := Lib.hid i1
  have HX := Lib.hid ((Has.make w 27 (btc first (.slice A n cap) p)).alloc (.cells (btc first (.slice A' n cap') p).toArray 27))
  have HY := Lib.hid (Has.make2 w (.cells (btc first (.slice A n cap) p).toArray 27) 27 (btc first (.slice A' n cap') p))
  have R1 := Lib.hid (btc_range HX.out)
  have R2 := Lib.hid (btc_range HY.out)
  have x0 := HX.out.at (i := 0) (v := .int .u64 (first : Nat)) rfl
  have x1 := HX.out.at (i := 1) (v := .slice A n cap) rfl
  have y0 := HY.out.at (i := 0) (v := .int .u64 (first : Nat)) rfl
  have y1 := HY.out.at (i := 1) (v := .slice A' n cap') rfl
  have hbl : (bys p).length = 32 := by rw [bys_length, hp]
  have hi := info_digest
  have hu := Tryd.underlying23
  have heq : ∀ W, (binOp .eql 23 (.agg (bys p).toArray) (.agg (bys p).toArray)).run Tryd.prog W = .ok (.bool true) W := fun W => by
    rw [bys_nums]; exact eql_sums _ (by simp [hp]) W
  generalize btc first (.slice A n cap) p = L at *
  generalize btc first (.slice A' n cap') p = L' at *
  have B1 := Lib.hid (up_alloc (up_alloc (Below.refl w.heap.size w) (.cells L.toArray 27)) (.cells L'.toArray 27))
  have HA := Lib.hid hA
  have HA' := Lib.hid hA'
  clear i1 hA hA' hn hcap hcap' hm HX HY
  go_enter Tryd.func12, Tryd.ntmps12
  go_wp2_with (first
    | (refine wpList_load_mid_wanted (by rfl) 23 _ rfl w.heap.size 2 (by rfl) (bys p) _ R1.out hu rfl (by rw [hi, hbl]) ?_)
    | (refine wpList_load_mid_wanted (by rfl) 23 _ rfl (w.heap.size + 1) 2 (by rfl) (bys p) _ R2.out hu rfl (by rw [hi, hbl]) ?_))
  refine (I.out _ (HA.out.up B1.out) (HA'.out.up B1.out)).mono ?_; rintro e w2 ⟨rfl, b2⟩
  go_wp2_with fail
  go_ret
  exact ⟨rfl, up_trans B1.out b2⟩

set_option maxHeartbeats 1000000 in
set_option maxRecDepth 100000 in
theorem bput_no (b : Bt) (hf : b.Fits) (h : isB b.first b.evs = false) (hm : b.evs.length ≤ 140737488355327) (A : Option Addr) (n cap : Nat) (hn : n = b.evs.length) (hcap : b.evs.length ≤ cap) (w : World) (hA : EvSl w A b.evs) :
    Calls Tryd.prog 24 #[.agg (btc b.first (.slice A n cap) b.prev).toArray] w fun e w' => e = .returned (.tuple #[.string ⟨#[]⟩, .int .i64 1]) ∧ Below w.heap.size w w' := by
  have i1 := fun w hA => bis_any b.first b.evs b.prev hf.seqs A n cap hn hcap hm w hA
  rw [h] at i1
  have I := Lib.hid i1
  have hlen := btc_length b.first (.slice A n cap) hf.prev
  have hi := info_batch
  have hu := Tryd.underlying27
  have HA := Lib.hid hA
  have HX := Lib.hid (Has.make w 27 (btc b.first (.slice A n cap) b.prev))
  generalize btc b.first (.slice A n cap) b.prev = L at *
  have B1 := Lib.hid (up_alloc (Below.refl w.heap.size w) (.cells L.toArray 27))
  clear i1 h hA hn hcap hm
  go_enter Tryd.func24, Tryd.ntmps24
  go_wp2_with (refine wpList_load_row rfl 27 _ rfl w.heap.size (by rfl) _ _ _ _ HX.out hu rfl (by rw [hi, List.size_toArray, hlen]) ?_)
  refine (I.out _ (HA.out.up B1.out)).mono ?_; rintro e w2 ⟨rfl, b2⟩
  go_wp2_with fail
  go_ret2
  exact ⟨rfl, up_trans B1.out b2⟩

/-- What batch.Put gives. -/
theorem bput_any (b : Bt) (hf : b.Fits) (hm : b.evs.length ≤ 140737488355327) (A : Option Addr) (n cap : Nat) (hn : n = b.evs.length) (hcap : b.evs.length ≤ cap) (w : World) (hA : EvSl w A b.evs) :
    Calls Tryd.prog 24 #[.agg (btc b.first (.slice A n cap) b.prev).toArray] w fun e w' => e = .returned (.tuple #[.string ⟨(putB b).1.toArray⟩, .int .i64 ((putB b).2 : Nat)]) ∧ Below w.heap.size w w' := by
  cases h : isB b.first b.evs with
  | true =>
    rw [putB_yes h]
    exact bput_yes b hf h A n cap hn hcap w hA
  | false =>
    rw [putB_no h]
    exact bput_no b hf h hm A n cap hn hcap w hA

/-- The number that follows, less 1, in 64 bits. -/
def lastB (first n : Nat) : Nat := (first + n + 18446744073709551615) % 18446744073709551616
theorem blast_any (first n : Nat) (hn : n ≤ 140737488355327) (A : Option Addr) (cap : Nat) (p : List UInt8) (w : World) :
    Calls Tryd.prog 27 #[.agg (btc first (.slice A n cap) p).toArray] w fun e w' => e = .returned (.int .u64 (lastB first n : Nat)) ∧ Below w.heap.size w w' := by
  have L0 : (btc first (.slice A n cap) p)[0]? = some (.int .u64 (first : Nat)) := rfl
  have L1 : (btc first (.slice A n cap) p)[1]? = some (.slice A n cap) := rfl
  generalize btc first (.slice A n cap) p = L at *
  have B1 := Lib.hid (up_alloc (Below.refl w.heap.size w) (.cells L.toArray 27))
  have HR := Lib.hid (show IntKind.u64.wrap (IntKind.u64.wrap ((first : Int) + (n : Int)) - 1) = ((lastB first n : Nat) : Int) by
    simp only [IntKind.wrap_u64]; unfold lastB; omega)
  go_enter Tryd.func27, Tryd.ntmps27
  go_wp2_with fail
  go_ret
  exact ⟨by rw [← HR.out]; rfl, B1.out⟩

end Go.Proofs.YthhcopeejhhpgaaDoor

/- The document's rows for batches hold: what blackboxlaw05.batched returns. -/
namespace Go.Proofs.YthhcopeejhhpgaaDoor
open Go.RowKit Wire Evt Bat

def exEv : Ev := ⟨7, 0, -1, 1, 0, 0⟩
def exB : Bt := ⟨7, [exEv], List.replicate 32 0⟩
theorem exB_fits : exB.Fits := ⟨by decide, by decide, fun x hx => by
  obtain rfl : x = exEv := by simpa [exB] using hx
  decide⟩
theorem exB_is : isB exB.first exB.evs = true := by rfl
theorem exB_body : (bodyB exB).length = 41 := by
  have h0 : putL 0 = [0] := by rw [putL_lt (by omega)]; rfl
  have h1 : putL 1 = [1] := by rw [putL_lt (by omega)]; rfl
  have h7 : putL 7 = [7] := by rw [putL_lt (by omega)]; rfl
  have e : enc exEv = [1, 7, 0, 0, 0, 0] := by
    have e1 : (0 : Int).toNat = 0 := rfl
    have e2 : ((-1 : Int) + 1).toNat = 0 := rfl
    have e3 : (1 : Int).toNat = 1 := rfl
    simp only [enc, exEv, putE, e1, e2, e3, h0, h7]
    rfl
  have h6 : putL 6 = [6] := by rw [putL_lt (by omega)]; rfl
  have eb : evB exEv = [6, 1, 7, 0, 0, 0, 0] := by rw [evB, e]; show putL 6 ++ _ = _; rw [h6]; rfl
  simp only [bodyB, exB, List.length_append, List.flatMap_cons, List.flatMap_nil, eb, List.length_cons, List.length_nil, List.length_replicate, h7, h1]
theorem exB_len : (whole exB).length = 50 := by rw [whole_len, exB_body]
theorem exB_front : (whole exB).take 5 = [66, 0, 0, 0, 41] := by
  have h := whole_form exB []
  rw [List.append_nil] at h
  rw [h, exB_body, List.take_succ_cons, List.take_left' (fx_length _ _)]
  rfl

theorem got_x : gotB [120] = noB 3 := by
  have : frO [120] = ([], 3) := fr_mark (by decide)
  exact gotB_err this (by omega)

theorem exSl {w : World} {g : Nat} (h : Has w g 47 [.int .u64 7, .int .i64 0, .int .i64 (-1), .int .i64 1, .int .i64 0, .int .i64 0]) : EvSl w (some ⟨g, 0, none⟩) exB.evs := evSl_one (x := exEv) h

/-- Its bytes. -/
def exW : ByteArray := ⟨(whole exB).toArray⟩
theorem exW_size : exW.size = 50 := by rw [exW, text_list, exB_len]
theorem exW_front : exW.extract 0 5 = ⟨#[66, 0, 0, 0, 41]⟩ := by
  rw [head_of, show exW.data.toList = whole exB from rfl, exB_front]
theorem exW_more : gotB (exW ++ (⟨#[120]⟩ : ByteArray)).data.toList = ⟨exB, 50, 0⟩ := by
  have : (exW ++ (⟨#[120]⟩ : ByteArray)).data.toList = whole exB ++ [120] := by simp [exW]
  rw [this, gotB_put exB_fits exB_is, exB_len]

/-- The cells of that batch. -/
def exC (v : Value) : List Value := btc 7 v (List.replicate 32 0)
theorem exC_len (v : Value) : (exC v).length = 34 := btc_length _ _ (by simp)

theorem put_ex (A : Option Addr) (cap : Nat) (hcap : 1 ≤ cap) (w : World) (hA : EvSl w A exB.evs) :
    Calls Tryd.prog 24 #[.agg (exC (.slice A 1 cap)).toArray] w fun e w' => e = .returned (.tuple #[.string exW, .int .i64 0]) ∧ Below w.heap.size w w' :=
  bput_yes exB exB_fits exB_is A 1 cap rfl hcap w hA
theorem get_ex (w : World) : Calls Tryd.prog 47 #[.string (exW ++ (⟨#[120]⟩ : ByteArray))] w fun e w' =>
    ∃ v, e = .returned (.tuple #[.agg (exC v).toArray, .int .i64 50, .int .i64 0]) ∧ OwnE w.heap.size v exB.evs w' ∧ Below w.heap.size w w' := by
  have g := bget_any (exW ++ (⟨#[120]⟩ : ByteArray)) (by rw [ByteArray.size_append, exW_size]; decide) w
  unfold BgetPost at g
  rw [exW_more] at g
  exact g
theorem get_bad (w : World) : Calls Tryd.prog 47 #[.string ⟨#[120]⟩] w fun e w' => ∃ v, e = .returned (.tuple #[.agg (btc 0 v (List.replicate 32 0)).toArray, .int .i64 0, .int .i64 3]) ∧ OwnE w.heap.size v [] w' ∧ Below w.heap.size w w' := by
  have g := bget_any ⟨#[120]⟩ (by decide) w
  unfold BgetPost at g
  rw [show (⟨#[120]⟩ : ByteArray).data.toList = [120] from rfl, got_x] at g
  exact g
theorem put_bad (w : World) : Calls Tryd.prog 24 #[.agg zbt.toArray] w fun e w' => e = .returned (.tuple #[.string ⟨#[]⟩, .int .i64 1]) ∧ Below w.heap.size w w' :=
  bput_no ⟨0, [], List.replicate 32 0⟩ ⟨by simp, by simp, fun x hx => by cases hx⟩ rfl (by simp) none 0 0 rfl (by simp) w (fun h => by simp at h)
theorem same_ex (A A' : Option Addr) (cap cap' : Nat) (hcap : 1 ≤ cap) (hcap' : 1 ≤ cap') (w : World) (hA : EvSl w A exB.evs) (hA' : EvSl w A' exB.evs) :
    Calls Tryd.prog 12 #[.agg (exC (.slice A 1 cap)).toArray, .agg (exC (.slice A' 1 cap')).toArray] w fun e w' => e = .returned (.bool true) ∧ Below w.heap.size w w' :=
  same_any 7 (List.replicate 32 0) (by simp) A A' exB.evs 1 cap cap' rfl hcap hcap' (by simp [exB]) w hA hA'
theorem last_ex (A : Option Addr) (cap : Nat) (w : World) :
    Calls Tryd.prog 27 #[.agg (exC (.slice A 1 cap)).toArray] w fun e w' => e = .returned (.int .u64 7) ∧ Below w.heap.size w w' :=
  blast_any 7 1 (by omega) A cap (List.replicate 32 0) w

end Go.Proofs.YthhcopeejhhpgaaDoor
