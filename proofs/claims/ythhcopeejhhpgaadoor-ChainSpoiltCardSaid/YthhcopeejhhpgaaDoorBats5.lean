/- A sum's bytes, by the document's own answer: the contract of blackboxref05.Bytes. -/
import Derived.Test.YthhcopeejhhpgaaDoorText
import Derived.Test.YthhcopeejhhpgaaDoorBatE
import Derived.Test.YthhcopeejhhpgaaDoorBase
import Derived.Test.YthhcopeejhhpgaaDoorBats3
import Derived.Test.YthhcopeejhhpgaaDoorCrcs
import Derived.Test.YthhcopeejhhpgaaDoorSums
import Derived.Laws.ResultCell
namespace Go.Proofs.YthhcopeejhhpgaaDoor
open Go.RowKit Wire Evt Bat

end Go.Proofs.YthhcopeejhhpgaaDoor

/- A batch as bytes, by the document's own answer: the contract of blackboxref05.Put. -/
namespace Go.Proofs.YthhcopeejhhpgaaDoor
open Go.RowKit Wire Evt Bat Crc

theorem rput_ev (x : Ev) (hs : x.seq < 18446744073709551616) (h : x.ok = true) (w : World) :
    Calls Tryd.prog 43 #[.agg #[.int .u64 (x.seq : Nat), .int .i64 x.tick, .int .i64 x.part, .int .i64 x.kind, .int .i64 x.a, .int .i64 x.b]] w fun e w' => e = .returned (.tuple #[.string ⟨(enc x).toArray⟩, .int .i64 0]) ∧ Below w.heap.size w w' := by
  have c := ereput_any x.seq x.tick x.part x.kind x.a x.b hs w
  rw [putR_yes h] at c
  exact c
theorem rtext_ev (x : Ev) (hs : x.seq < 18446744073709551616) (h : x.ok = true) (w : World) :
    Calls Tryd.prog 44 #[.string ⟨(enc x).toArray⟩] w fun e w' => e = .returned (.tuple #[.string ⟨(evB x).toArray⟩, .int .i64 0]) ∧ Below w.heap.size w w' := by
  have hl := (putE_len hs (isE_yes.1 h)).2
  have hl' : (enc x).length ≤ 65536 := by unfold enc; omega
  have c := rtext_any ⟨(enc x).toArray⟩ (by rw [text_list]; unfold maxLen; omega) w
  rw [show (⟨(enc x).toArray⟩ : ByteArray).data.toList = enc x from rfl, txt_yes hl'] at c
  exact c

set_option maxHeartbeats 2000000 in
set_option maxRecDepth 100000 in
theorem rbput_yes (b : Bt) (hf : b.Fits) (h : isB b.first b.evs = true) (A : Option Addr) (n cap : Nat) (hn : n = b.evs.length) (w : World) (hA : EvSl w A b.evs) :
    Calls Tryd.prog 25 #[.agg (btc b.first (.slice A n cap) b.prev).toArray] w fun e w' => e = .returned (.tuple #[.string ⟨(whole b).toArray⟩, .int .i64 0]) ∧ Below w.heap.size w w' := by
  obtain ⟨h1, h2, _, h4⟩ := isB_yes.1 h
  have hok := run_ok h4
  have i1 := fun w hA => rbis_any b.first b.evs b.prev hf.seqs A n cap hn (by omega) w hA
  rw [h] at i1
  have I := Lib.hid i1
  have hlen := btc_length b.first (.slice A n cap) hf.prev
  have hbl := body_len hf h
  have hi := info_batch
  have hu := Tryd.underlying27
  have hdi := info_digest
  have hdu := Tryd.underlying23
  have hpl : (bys b.prev).length = 32 := by rw [bys_length, hf.prev]
  have HA := Lib.hid hA
  have HX := Lib.hid (Has.make w 27 (btc b.first (.slice A n cap) b.prev))
  have RNG : Hid (∀ W, Has W w.heap.size 27 (btc b.first (.slice A n cap) b.prev) → W.rangeAt w.heap.size 2 (bys b.prev)) := Lib.hid (fun W hW => btc_range hW)
  have L0 : Hid ((btc b.first (.slice A n cap) b.prev)[0]? = some (.int .u64 (b.first : Nat))) := Lib.hid rfl
  have L1 : Hid ((btc b.first (.slice A n cap) b.prev)[1]? = some (.slice A n cap)) := Lib.hid rfl
  generalize btc b.first (.slice A n cap) b.prev = L at *
  have B1 := Lib.hid (up_alloc (Below.refl w.heap.size w) (.cells L.toArray 27))
  -- the body's parts
  obtain ⟨P, hP⟩ : ∃ P : ByteArray, P = ⟨b.prev.toArray⟩ := ⟨_, rfl⟩
  obtain ⟨F1, hF1⟩ : ∃ F : ByteArray, F = ⟨(putL b.first).toArray⟩ := ⟨_, rfl⟩
  obtain ⟨F2, hF2⟩ : ∃ F : ByteArray, F = ⟨(putL n).toArray⟩ := ⟨_, rfl⟩
  have zP : P.size = 32 := by rw [hP, text_list, hf.prev]
  have zF1 : F1.size ≤ 10 := by rw [hF1, text_list]; exact putL_ten hf.first
  have zF2 : F2.size ≤ 10 := by rw [hF2, text_list]; exact putL_ten (by omega)
  have c4 := fun w => rbytes_any b.prev hf.prev w
  have c5 := fun w => rput_any b.first hf.first w
  have c6 := fun w => rput_any n (by omega) w
  rw [← hP] at c4
  rw [← hF1] at c5
  rw [← hF2] at c6
  have C4 := Lib.hid c4
  have C5 := Lib.hid c5
  have C6 := Lib.hid c6
  have HEQ := Lib.hid (show bodyB b = (P ++ F1 ++ F2).data.toList ++ b.evs.flatMap evB by rw [hP, hF1, hF2, hn]; simp [bodyB])
  have zpre : (P ++ F1 ++ F2).size ≤ 52 := by rw [ByteArray.size_append, ByteArray.size_append]; omega
  have i2 : ¬ 9223372036854775807 < 32 + F1.size := by omega
  have i3 : ¬ 9223372036854775807 < 32 + F1.size + F2.size := by omega
  have v3 : IntKind.u64.wrap (n : Int) = (n : Int) := by rw [IntKind.wrap_u64]; omega
  -- what stands about it
  obtain ⟨m, hm⟩ : ∃ m, m = (bodyB b).length := ⟨_, rfl⟩
  obtain ⟨F, hF⟩ : ∃ F : ByteArray, F = ⟨(fx m 4).toArray⟩ := ⟨_, rfl⟩
  have zF : F.size = 4 := by rw [hF, text_list, fx_length]
  have c1 := fun w => rfixed4 m w
  rw [← hF] at c1
  have C1 := Lib.hid c1
  have hst := fun (W : World) (h : Below w.heap.size w W) => HA.out.up h
  have HST := Lib.hid hst
  have HV := Lib.hid hf.seqs
  have HOK := Lib.hid hok
  have hfl := evB_row hf.seqs hok
  have HN := Lib.hid hn
  have HMB := Lib.hid hm
  have HFE := Lib.hid hF
  have n0 : n ≤ 256 := by omega
  clear i1 h hA hn h1 h2 h4 hok c1 c4 c5 c6 hP hF1 hF2 hst hF hm hf
  go_enter Tryd.func25, Tryd.ntmps25
  go_wp2_with (refine wpList_load_row rfl 27 _ rfl w.heap.size (by rfl) _ _ _ _ HX.out hu rfl (by rw [hi, List.size_toArray, hlen]) ?_)
  generalize hw1 : w.alloc (Obj.cells L.toArray 27) = w1
  rw [hw1] at HX B1
  clear hw1
  refine (I.out _ (HST.out _ B1.out)).mono ?_; rintro e w2 ⟨rfl, b2⟩
  replace HX := Lib.hid (HX.out.up b2)
  replace B1 := Lib.hid (up_trans B1.out b2)
  clear b2 I
  go_wp2_with fail
  refine wp_region_held_drew (S := fun W => Has W w.heap.size 27 L) (by kernel_rfl) (HX.out.drew) (fun hHeld => ?_)
  refine wpAnyH_take (i := 0) (v := ?_) rfl (by kernel_rfl) (by kernel_rfl) (by kernel_rfl) (fun _ _ _ h => h) (Or.inl ⟨by rfl, ?_⟩) (by assumption) ?_
  rotate_left
  · intro w hSw; (try dsimp only at hSw); go_simp; try with_reducible rfl
  try simp only [Act.put, List.getElem_toArray, List.getElem_cons_zero, List.setIfInBounds_toArray, List.set_cons_zero, List.set_cons_succ]
  refine wpAnyH_take (i := 1) rfl (by kernel_rfl) (by kernel_rfl) (by kernel_rfl) (fun _ _ _ h => h) (yieldsIf_load_mid (by rfl) _ _ rfl w.heap.size 2 rfl (bys b.prev) _ (fun W h => RNG.out W h) hdu rfl (by rw [hdi, hpl])) (by assumption) ?_
  try simp only [Act.put, List.getElem_toArray, List.getElem_cons_zero, List.getElem_cons_succ, List.setIfInBounds_toArray, List.set_cons_zero, List.set_cons_succ]
  refine wpAnyH_take (i := 3) (v := ?_) rfl (by kernel_rfl) (by kernel_rfl) (by kernel_rfl) (fun _ _ _ h => h) (Or.inl ⟨by rfl, ?_⟩) (by assumption) ?_
  rotate_left
  · intro w hSw; (try dsimp only at hSw); go_simp; try with_reducible rfl
  try simp only [Act.put, List.getElem_toArray, List.getElem_cons_zero, List.getElem_cons_succ, List.setIfInBounds_toArray, List.set_cons_zero, List.set_cons_succ]
  refine wpAnyH_take (i := 4) (v := .int .u64 (b.first : Nat)) rfl (by kernel_rfl) (by kernel_rfl) (by kernel_rfl) (fun _ _ _ h => h) (Or.inl ⟨by rfl, by intro w hSw; have c := hSw.at L0.out; go_simp⟩) (by assumption) ?_
  try simp only [Act.put, List.getElem_toArray, List.getElem_cons_zero, List.getElem_cons_succ, List.setIfInBounds_toArray, List.set_cons_zero, List.set_cons_succ]
  refine wpAnyH_take (i := 7) (v := ?_) rfl (by kernel_rfl) (by kernel_rfl) (by kernel_rfl) (fun _ _ _ h => h) (Or.inl ⟨by rfl, ?_⟩) (by assumption) ?_
  rotate_left
  · intro w hSw; (try dsimp only at hSw); go_simp; try with_reducible rfl
  try simp only [Act.put, List.getElem_toArray, List.getElem_cons_zero, List.getElem_cons_succ, List.setIfInBounds_toArray, List.set_cons_zero, List.set_cons_succ]
  refine wpAnyH_take (i := 8) (v := .slice A n cap) rfl (by kernel_rfl) (by kernel_rfl) (by kernel_rfl) (fun _ _ _ h => h) (Or.inl ⟨by rfl, by intro w hSw; have c := hSw.at L1.out; go_simp⟩) (by assumption) ?_
  try simp only [Act.put, List.getElem_toArray, List.getElem_cons_zero, List.getElem_cons_succ, List.setIfInBounds_toArray, List.set_cons_zero, List.set_cons_succ]
  refine wpAnyH_take (i := 9) (v := ?_) rfl (by kernel_rfl) (by kernel_rfl) (by kernel_rfl) (fun _ _ _ h => h) (Or.inl ⟨by rfl, ?_⟩) (by assumption) ?_
  rotate_left
  · intro w hSw; (try dsimp only at hSw); go_simp; try with_reducible rfl
  try simp only [Act.put, List.getElem_toArray, List.getElem_cons_zero, List.getElem_cons_succ, List.setIfInBounds_toArray, List.set_cons_zero, List.set_cons_succ]
  refine wpAnyH_take (i := 10) (v := ?_) rfl (by kernel_rfl) (by kernel_rfl) (by kernel_rfl) (fun _ _ _ h => h) (Or.inl ⟨by rfl, ?_⟩) (by assumption) ?_
  rotate_left
  · intro w hSw; (try dsimp only at hSw); go_simp; try with_reducible rfl
  try simp only [Act.put, List.getElem_toArray, List.getElem_cons_zero, List.getElem_cons_succ, List.setIfInBounds_toArray, List.set_cons_zero, List.set_cons_succ]
  refine wpAnyH_ready (rs := [2]) (by kernel_rfl) (by simp) (AllReadyH.cons rfl (fun K hK => ?_) AllReadyH.nil)
  go_simp
  refine (C4.out _).mono ?_; rintro e wn ⟨rfl, hbn'⟩
  have hbn : Below w2.heap.size w2 wn := up_trans (Below.refl _ _).drew hbn'
  clear hbn'
  go_wp2_with fail
  refine hK.out _ _ (HX.out.up hbn) (fun hHeld => ?_)
  clear hK K
  try simp only [Act.put, List.getElem_toArray, List.getElem_cons_zero, List.getElem_cons_succ, List.setIfInBounds_toArray, List.set_cons_zero, List.set_cons_succ]
  refine wpAnyH_ready (rs := [5]) (by kernel_rfl) (by simp) (AllReadyH.cons rfl (fun K hK => ?_) AllReadyH.nil)
  go_simp
  refine (C5.out _).mono ?_; rintro e wn ⟨rfl, hbn'⟩
  replace hbn : Below w2.heap.size w2 wn := up_trans hbn hbn'
  clear hbn'
  go_wp2_with fail
  refine hK.out _ _ (HX.out.up hbn) (fun hHeld => ?_)
  clear hK K
  try simp only [Act.put, List.getElem_toArray, List.getElem_cons_zero, List.getElem_cons_succ, List.setIfInBounds_toArray, List.set_cons_zero, List.set_cons_succ]
  refine wpAnyH_take (i := 6) (v := ?_) rfl (by kernel_rfl) (by kernel_rfl) (by kernel_rfl) (fun _ _ _ h => h) (Or.inl ⟨by rfl, ?_⟩) (by assumption) ?_
  rotate_left
  · intro w hSw; (try dsimp only at hSw); go_simp; try with_reducible rfl
  try simp only [Act.put, List.getElem_toArray, List.getElem_cons_zero, List.getElem_cons_succ, List.setIfInBounds_toArray, List.set_cons_zero, List.set_cons_succ]
  refine wpAnyH_ready (rs := [11]) (by kernel_rfl) (by simp) (AllReadyH.cons rfl (fun K hK => ?_) AllReadyH.nil)
  go_simp
  refine (C6.out _).mono ?_; rintro e wn ⟨rfl, hbn'⟩
  replace hbn : Below w2.heap.size w2 wn := up_trans hbn hbn'
  clear hbn'
  go_wp2_with fail
  refine hK.out _ _ (HX.out.up hbn) (fun hHeld => ?_)
  clear hK K
  try simp only [Act.put, List.getElem_toArray, List.getElem_cons_zero, List.getElem_cons_succ, List.setIfInBounds_toArray, List.set_cons_zero, List.set_cons_succ]
  refine wpAnyH_take (i := 12) (v := ?_) rfl (by kernel_rfl) (by kernel_rfl) (by kernel_rfl) (fun _ _ _ h => h) (Or.inl ⟨by rfl, ?_⟩) (by assumption) ?_
  rotate_left
  · intro w hSw; (try dsimp only at hSw); go_simp; try with_reducible rfl
  try simp only [Act.put, List.getElem_toArray, List.getElem_cons_zero, List.getElem_cons_succ, List.setIfInBounds_toArray, List.set_cons_zero, List.set_cons_succ]
  refine wpAnyH_take (i := 13) (v := ?_) rfl (by kernel_rfl) (by kernel_rfl) (by kernel_rfl) (fun _ _ _ h => h) (Or.inl ⟨by rfl, ?_⟩) (by assumption) ?_
  rotate_left
  · intro w hSw; (try dsimp only at hSw); go_simp; try with_reducible rfl
  try simp only [Act.put, List.getElem_toArray, List.getElem_cons_zero, List.getElem_cons_succ, List.setIfInBounds_toArray, List.set_cons_zero, List.set_cons_succ]
  refine wpAnyH_done (by kernel_rfl) ?_ _
  replace HX := Lib.hid (HX.out.up hbn)
  replace B1 := Lib.hid (up_trans B1.out hbn)
  clear i2 i3 v3 zP zF1 zF2 L0 RNG C4 C5 C6 hdi hdu hpl
  generalize P ++ F1 ++ F2 = Z at *
  go_wp2_with fail
  go_loopw [4, 5, 6, 7, 8, 9] (fun v i _ _ _ _ wr => ∃ (k : Nat) (Y : ByteArray), k ≤ n ∧ i = .int .i64 (k : Nat) ∧ v = .string Y ∧ Hid (Y.data.toList = Z.data.toList ++ (b.evs.take k).flatMap evB) ∧ Has wr w.heap.size 27 L ∧ Below w.heap.size w wr) (fun _ i _ _ _ _ _ => n - (intOf i).toNat)
  case atStart => exact ⟨0, Z, by omega, rfl, rfl, Lib.hid (by simp), HX.out, B1.out⟩
  case round =>
    clear HX B1
    obtain ⟨k, Y, hk, rfl, rfl, HY, hX, hb⟩ := hrel
    have HX := Lib.hid hX
    have B1 := Lib.hid hb
    have q1 := HX.out.at L1.out
    have htl : ((b.evs.take k).flatMap evB).length ≤ 40 * 256 := by
      have h5 := evB_row (l := b.evs.take k) (fun y hy => HV.out y (List.mem_of_mem_take hy)) (fun y hy => HOK.out y (List.mem_of_mem_take hy))
      rw [List.length_take] at h5
      omega
    have zY : Y.size ≤ 52 + 40 * 256 := by
      have h6 := list_size Y
      have h7 := list_size Z
      rw [HY.out, List.length_append] at h6
      omega
    clear hX hb htl
    by_cases hlt : k < n
    · obtain ⟨x, hx⟩ : ∃ x, b.evs[k]? = some x := ⟨_, List.getElem?_eq_getElem (by rw [← HN.out]; exact hlt)⟩
      have hxm := List.mem_of_getElem? hx
      obtain ⟨g, o, rfl, hev⟩ := (HST.out _ B1.out) (by rw [← HN.out]; omega)
      obtain ⟨c0, c1, c2, c3, c4, c5⟩ := ev_at hev hx
      have hk0 : (0 : Int) ≤ (k : Int) := by omega
      have hk1 : (k : Int) < (n : Int) := by omega
      have hN : (b.evs.take (k + 1)).flatMap evB = (b.evs.take k).flatMap evB ++ evB x := by
        have hkl : k < b.evs.length := (List.getElem?_eq_some_iff.1 hx).1
        rw [List.take_succ_eq_append_getElem hkl, (List.getElem?_eq_some_iff.1 hx).2, List.flatMap_append]
        simp
      have HNX := Lib.hid hN
      have P1 := Lib.hid (fun w => rput_ev x (HV.out x hxm) (HOK.out x hxm) w)
      have hel := evB_len (HV.out x hxm) (HOK.out x hxm)
      obtain ⟨X, hX⟩ : ∃ X : ByteArray, X = ⟨(evB x).toArray⟩ := ⟨_, rfl⟩
      have t1 := fun w => rtext_ev x (HV.out x hxm) (HOK.out x hxm) w
      rw [← hX] at t1
      have T1 := Lib.hid t1
      have zX : X.size ≤ 40 := by rw [hX, text_list]; exact hel
      have i4 : ¬ 9223372036854775807 < Y.size + X.size := by omega
      have HXE := Lib.hid hX
      clear hx hxm hev hN t1 hX
      go_wp2_with fail
      refine (P1.out _).mono ?_; rintro e w7 ⟨rfl, hb⟩
      replace HX := Lib.hid (HX.out.up hb)
      replace B1 := Lib.hid (up_trans B1.out hb)
      clear hb c0 c1 c2 c3 c4 c5 q1
      go_wp2_with fail
      refine (T1.out _).mono ?_; rintro e w8 ⟨rfl, hb⟩
      replace HX := Lib.hid (HX.out.up hb)
      replace B1 := Lib.hid (up_trans B1.out hb)
      clear hb
      go_wp2_with fail
      go_roundw
      case rel => exact ⟨k + 1, Y ++ X, by omega, by go_num, rfl, Lib.hid (by rw [ByteArray.data_append, Array.toList_append, HY.out, HXE.out, HNX.out, List.append_assoc]), HX.out, B1.out⟩
      case measure => simp [intOf]; omega
    · obtain rfl : k = n := by omega
      have HT := Lib.hid (show b.evs.take k = b.evs by rw [HN.out]; exact List.take_length)
      have hYb : Y.data.toList = bodyB b := by rw [HY.out, HT.out, HEQ.out]
      have hYs : Y.size = m := by
        have := list_size Y
        rw [hYb] at this
        rw [HMB.out, this]
      obtain ⟨T, hT⟩ : ∃ T : ByteArray, T = (⟨#[66]⟩ : ByteArray) ++ F ++ Y := ⟨_, rfl⟩
      have hTl : T.data.toList = framedB b := by
        rw [hT, HFE.out, ByteArray.data_append, ByteArray.data_append, Array.toList_append, Array.toList_append, hYb, HMB.out]
        simp [framedB]
      have zT : T.size = m + 5 := by
        have := list_size T
        rw [← this, hTl, framed_len, HMB.out]
      have c2 := fun w => rcrc_sum T (by rw [zT]; unfold maxLen; omega) w
      have hq := sumOf_lt T.data.toList
      obtain ⟨q, hqe⟩ : ∃ q, q = sumOf T.data.toList := ⟨_, rfl⟩
      rw [← hqe] at c2 hq
      have hq64 := Lib.hid (show IntKind.u64.wrap (q : Int) = (q : Int) by rw [IntKind.wrap_u64]; omega)
      obtain ⟨G, hG⟩ : ∃ G : ByteArray, G = ⟨(fx q 4).toArray⟩ := ⟨_, rfl⟩
      have zG : G.size = 4 := by rw [hG, text_list, fx_length]
      have c3 := fun w => rfixed4 q w
      rw [← hG] at c3
      have C3 := Lib.hid c3
      have E : Hid (T ++ G = ⟨(whole b).toArray⟩) := Lib.hid (by
        apply ByteArray.ext
        apply Array.toList_inj.1
        rw [ByteArray.data_append, Array.toList_append, hTl, hG, hqe, hTl]
        rfl)
      rw [hT] at c2 E
      have C2 := Lib.hid c2
      have yb : Y.size ≤ 10400 := by omega
      have fb : F.size ≤ 4 := by omega
      have gb : G.size ≤ 4 := by omega
      have j1 : ¬ 9223372036854775807 < 1 + F.size := by omega
      have j2 : ¬ 9223372036854775807 < 1 + F.size + Y.size := by omega
      have j3 : ¬ 9223372036854775807 < 1 + F.size + Y.size + G.size := by omega
      have v2 : IntKind.u64.wrap (Y.size : Int) = (m : Int) := by rw [IntKind.wrap_u64]; omega
      clear hYb hYs hTl zT c2 hq hqe hG zG c3 hT zF hfl
      go_wp2_with fail
      refine (C1.out _).mono ?_; rintro e w5 ⟨rfl, b5⟩
      go_wp2_with fail
      refine (C2.out _).mono ?_; rintro e w6 ⟨rfl, b6⟩
      have q2 := hq64.out
      go_wp2_with fail
      refine (C3.out _).mono ?_; rintro e w7 ⟨rfl, b7⟩
      go_wp2_with fail
      go_ret2
      exact ⟨by rw [← E.out]; rfl, up_trans (up_trans (up_trans B1.out b5) b6) b7⟩

end Go.Proofs.YthhcopeejhhpgaaDoor

/- The sum of a batch's bytes: contracts of batch.Sum and the document's own. -/
namespace Go.Proofs.YthhcopeejhhpgaaDoor
open Go.RowKit Wire Evt Bat

/-- The results of a function that gives a sum and a number. -/
theorem results_dig {fn : Func} {p u : Tmp} (h : fn.results = #[.cell p 23, .tmp u]) (tmps : Array Value) (w : World) (g : Nat) (l : List Nat) (v : Value)
    (hp : tmps.getD p undef = .pointer (some ⟨g, 0, none⟩)) (hg : Has w g 23 (nums .u8 l)) (hl : l.length = 32) (hv : tmps.getD u undef = v) :
    (results fn tmps).run Tryd.prog w = .ok (.tuple #[.agg (nums .u8 l).toArray, v]) w := by
  have hi : (Tryd.prog.info? 23).map (·.size) = some (nums .u8 l).toArray.size := by simp only [List.size_toArray, nums_length, hl]; kernel_rfl
  rw [results_cell_tmp h, hp, hv]
  have := run_loadVar_row (P := Tryd.prog) w g 23 23 (nums .u8 l).toArray (0, 0) _ hg Tryd.underlying23 rfl hi
  simp [asAddr, this]

theorem rbput_no (b : Bt) (hf : b.Fits) (h : isB b.first b.evs = false) (hm : b.evs.length ≤ 140737488355327) (A : Option Addr) (n cap : Nat) (hn : n = b.evs.length) (w : World) (hA : EvSl w A b.evs) :
    Calls Tryd.prog 25 #[.agg (btc b.first (.slice A n cap) b.prev).toArray] w fun e w' => e = .returned (.tuple #[.string ⟨#[]⟩, .int .i64 1]) ∧ Below w.heap.size w w' := by
  have i1 := fun w hA => rbis_any b.first b.evs b.prev hf.seqs A n cap hn hm w hA
  rw [h] at i1
  have I := Lib.hid i1
  have hlen := btc_length b.first (.slice A n cap) hf.prev
  have hi := info_batch
  have hu := Tryd.underlying27
  have HA := Lib.hid hA
  have HX := Lib.hid (Has.make w 27 (btc b.first (.slice A n cap) b.prev))
  generalize btc b.first (.slice A n cap) b.prev = L at *
  have B1 := Lib.hid (up_alloc (Below.refl w.heap.size w) (.cells L.toArray 27))
  clear i1 h hA hn hm
  go_enter Tryd.func25, Tryd.ntmps25
  go_wp2_with (refine wpList_load_row rfl 27 _ rfl w.heap.size (by rfl) _ _ _ _ HX.out hu rfl (by rw [hi, List.size_toArray, hlen]) ?_)
  refine (I.out _ (HA.out.up B1.out)).mono ?_; rintro e w2 ⟨rfl, b2⟩
  go_wp2_with fail
  go_ret2
  exact ⟨rfl, up_trans B1.out b2⟩

/-- What the document's own Put gives. -/
theorem rbput_any (b : Bt) (hf : b.Fits) (hm : b.evs.length ≤ 140737488355327) (A : Option Addr) (n cap : Nat) (hn : n = b.evs.length) (w : World) (hA : EvSl w A b.evs) :
    Calls Tryd.prog 25 #[.agg (btc b.first (.slice A n cap) b.prev).toArray] w fun e w' => e = .returned (.tuple #[.string ⟨(putB b).1.toArray⟩, .int .i64 ((putB b).2 : Nat)]) ∧ Below w.heap.size w w' := by
  cases h : isB b.first b.evs with
  | true =>
    rw [putB_yes h]
    exact rbput_yes b hf h A n cap hn w hA
  | false =>
    rw [putB_no h]
    exact rbput_no b hf h hm A n cap hn w hA

theorem zeros_len : (zeros 32).length = 32 := by simp [zeros]

/-- The sum that is told of a batch. -/
def sumB (b : Bt) : List Nat := if isB b.first b.evs then (St.start.add ⟨(whole b).toArray⟩).sum else zeros 32
theorem sumB_yes {b : Bt} (h : isB b.first b.evs = true) : sumB b = (St.start.add ⟨(whole b).toArray⟩).sum := by rw [sumB, if_pos h]
theorem sumB_no {b : Bt} (h : isB b.first b.evs = false) : sumB b = zeros 32 := by rw [sumB, if_neg (by rw [h]; simp)]
theorem sumB_len (b : Bt) : (sumB b).length = 32 := by
  unfold sumB
  split
  · exact (by simp [St.sum, outs_length])
  · exact zeros_len

end Go.Proofs.YthhcopeejhhpgaaDoor
