/- A batch's body: the contract of batch.bodyOf. -/
import Derived.Test.YtalfmkgcelipdaaDoorBatE
import Derived.Test.YtalfmkgcelipdaaDoorBuildB
import Derived.Test.YtalfmkgcelipdaaDoorEvPut
import Derived.Test.YtalfmkgcelipdaaDoorWires
import Derived.Test.YtalfmkgcelipdaaDoorEvGetB
namespace Go.Proofs.YtalfmkgcelipdaaDoor
open Go.RowKit Wire Evt Bat

/-- The text of bytes that lie in a block from a place on. -/
theorem bytes_text (W : World) (g o cap : Nat) (l : List UInt8) (h : W.rangeAt g o (bys l)) :
    (convert 42 9 (.slice (some ⟨g, o, none⟩) l.length cap)).run Tryd.prog W = .ok (.string ⟨l.toArray⟩) W := by
  refine run_convert_bytes_back (P := Tryd.prog) W 42 9 5 ⟨g, o, none⟩ cap l Tryd.underlying42 Tryd.underlying5 Tryd.underlying9 ?_
  intro j hj
  have hadd : (⟨g, o, none⟩ : Addr).add j = ⟨g, o + j, none⟩ := by unfold Addr.add; split <;> simp_all
  rw [hadd]
  exact h j _ (by simp [bys, hj])

theorem btc_range {w : World} {g : Nat} {t : TypeId} {first : Nat} {v : Value} {p : List UInt8} (h : Has w g t (btc first v p)) : w.rangeAt g 2 (bys p) := fun j x hx => by
  rw [h.cell]
  rw [show (btc first v p)[2 + j]? = (bys p)[j]? from by rw [show 2 + j = j + 2 by omega]; rfl]
  exact hx

/-- Where batch.bodyOf stands: the batch, and the builder with what it holds. -/
structure Bo (w w1 : World) (L : List Value) (acc : List UInt8) : Prop where
  X : Has w1 w.heap.size 27 L
  D : Bld (w.heap.size + 1) (w.heap.size + 1) acc w1
  below : Below w.heap.size w w1
  size : w.heap.size + 1 ≤ w1.heap.size
theorem Bo.up {w w1 w2 : World} {L : List Value} {acc : List UInt8} (h : Bo w w1 L acc) (hb : Below w1.heap.size w1 w2) : Bo w w2 L acc :=
  ⟨h.X.up hb, h.D.up hb, up_trans h.below hb, Nat.le_trans h.size hb.size⟩
theorem Bo.wrote {w w1 w2 : World} {L : List Value} {acc acc' : List UInt8} (h : Bo w w1 L acc) (hd : Bld (w.heap.size + 1) (w.heap.size + 1) acc' w2) (hb : Below (w.heap.size + 1) w1 w2) : Bo w w2 L acc' :=
  ⟨h.X.below hb (by omega), hd, h.below.trans (hb.mono (by omega)), Nat.le_trans h.size hb.size⟩

theorem put_ev (x : Ev) (hs : x.seq < 18446744073709551616) (h : x.ok = true) (w : World) :
    Calls Tryd.prog 38 #[.agg #[.int .u64 (x.seq : Nat), .int .i64 x.tick, .int .i64 x.part, .int .i64 x.kind, .int .i64 x.a, .int .i64 x.b]] w fun e w' => e = .returned (.tuple #[.string ⟨(enc x).toArray⟩, .int .i64 0]) ∧ Below w.heap.size w w' := by
  have c := eput_any x.seq x.tick x.part x.kind x.a x.b hs w
  rw [putR_yes h] at c
  exact c
theorem text_ev (x : Ev) (hs : x.seq < 18446744073709551616) (h : x.ok = true) (w : World) :
    Calls Tryd.prog 39 #[.string ⟨(enc x).toArray⟩] w fun e w' => e = .returned (.tuple #[.string ⟨(evB x).toArray⟩, .int .i64 0]) ∧ Below w.heap.size w w' := by
  have hl := (putE_len hs (isE_yes.1 h)).2
  have hl' : (enc x).length ≤ 65536 := by unfold enc; omega
  have c := text_any ⟨(enc x).toArray⟩ (by rw [text_list]; unfold maxLen; omega) w
  rw [show (⟨(enc x).toArray⟩ : ByteArray).data.toList = enc x from rfl, txt_yes hl'] at c
  exact c

set_option maxHeartbeats 2000000 in
set_option maxRecDepth 100000 in
theorem body_any (b : Bt) (hf : b.Fits) (h : isB b.first b.evs = true) (A : Option Addr) (n cap : Nat) (hn : n = b.evs.length) (hcap : b.evs.length ≤ cap) (w : World) (hA : EvSl w A b.evs) :
    Calls Tryd.prog 17 #[.agg (btc b.first (.slice A n cap) b.prev).toArray] w fun e w' => e = .returned (.string ⟨(bodyB b).toArray⟩) ∧ Below w.heap.size w w' := by
  obtain ⟨h1, h2, _, h4⟩ := isB_yes.1 h
  have hok := run_ok h4
  have hbl := body_len hf h
  obtain ⟨first, l, p⟩ := b
  obtain ⟨hf1, hf2, hf3⟩ := hf
  simp only at h1 h2 h4 hok hf1 hf2 hf3 hn hcap hA ⊢
  have HX := Lib.hid ((Has.make w 27 (btc first (.slice A n cap) p)).alloc (.cells #[.pointer none, .slice none 0 0] 65))
  have hcv := bytes_text _ w.heap.size 2 32 p (btc_range HX.out)
  rw [hf2] at hcv
  have HN := Lib.hid hn
  have n0 : n ≤ 256 := by omega
  have n1 : 1 ≤ n := by omega
  have hlb : (bodyB ⟨first, l, p⟩).length = 32 + ((putL first).length + ((putL n).length + (l.flatMap evB).length)) := by
    rw [hn]; simp only [bodyB, List.length_append, hf2]
  have HLB := Lib.hid hlb
  have HEQ := Lib.hid (show bodyB ⟨first, l, p⟩ = p ++ (putL first ++ (putL n ++ l.flatMap evB)) by rw [hn]; rfl)
  clear hn hlb
  have L0 : (btc first (.slice A n cap) p)[0]? = some (.int .u64 (first : Nat)) := rfl
  have L1 : (btc first (.slice A n cap) p)[1]? = some (.slice A n cap) := rfl
  generalize btc first (.slice A n cap) p = L at *
  have hb0 := Bld.fresh (w.alloc (.cells L.toArray 27))
  rw [show (w.alloc (.cells L.toArray 27)).heap.size = w.heap.size + 1 by simp] at hb0
  have HB := Lib.hid hb0
  have B1 := Lib.hid (up_alloc (up_alloc (Below.refl w.heap.size w) (.cells L.toArray 27)) (.cells #[.pointer none, .slice none 0 0] 65))
  have hsz : w.heap.size + 1 + 1 = ((w.alloc (.cells L.toArray 27)).alloc (.cells #[.pointer none, .slice none 0 0] 65)).heap.size := by simp
  have HS := Lib.hid hsz
  clear hb0 hsz
  go_enter Tryd.func17, Tryd.ntmps17
  go_wp2_with fail
  generalize hw1 : (w.alloc (Obj.cells L.toArray 27)).alloc _ = w1
  rw [hw1] at HX HB B1 HS
  have hBo : Bo w w1 L [] := ⟨HX.out, HB.out, B1.out, by rw [← HS.out]; omega⟩
  have BO := Lib.hid hBo
  clear hw1 hBo HX HB B1 HS hcv
  have hp1 := putL_ten hf1
  have hp2 := putL_ten (n := n) (by omega)
  refine (bwrite_any _ _ [] ⟨p.toArray⟩ w1 BO.out.D (by rw [text_list]; simp; omega) BO.out.size).mono ?_; rintro e w2 ⟨rfl, hd, hb⟩
  replace BO := Lib.hid (BO.out.wrote hd hb)
  clear hd hb
  have q0 := BO.out.X.at L0
  go_wp2_with fail
  refine (put_any first hf1 _).mono ?_; rintro e w3 ⟨rfl, hb⟩
  replace BO := Lib.hid (BO.out.up hb)
  clear hb q0
  go_wp2_with fail
  refine (bwrite_any _ _ _ ⟨(putL first).toArray⟩ w3 BO.out.D (by rw [text_list]; simp; omega) BO.out.size).mono ?_; rintro e w4 ⟨rfl, hd, hb⟩
  replace BO := Lib.hid (BO.out.wrote hd hb)
  clear hd hb
  have q1 := BO.out.X.at L1
  have hn64 : IntKind.u64.wrap (n : Int) = (n : Int) := by rw [IntKind.wrap_u64]; omega
  go_wp2_with fail
  refine (put_any n (by omega) _).mono ?_; rintro e w5 ⟨rfl, hb⟩
  replace BO := Lib.hid (BO.out.up hb)
  clear hb q1
  go_wp2_with fail
  refine (bwrite_any _ _ _ ⟨(putL n).toArray⟩ w5 BO.out.D (by rw [text_list]; simp; omega) BO.out.size).mono ?_; rintro e w6 ⟨rfl, hd, hb⟩
  replace BO := Lib.hid (BO.out.wrote hd hb)
  clear hd hb
  have q1 := BO.out.X.at L1
  go_wp2_with fail
  have hpre : ([] ++ p ++ putL first ++ putL n).length ≤ 52 := by simp only [List.nil_append, List.length_append, hf2]; omega
  have HEQ2 : Hid (bodyB ⟨first, l, p⟩ = ([] ++ p ++ putL first ++ putL n) ++ l.flatMap evB) := Lib.hid (by rw [HEQ.out]; simp)
  generalize [] ++ p ++ putL first ++ putL n = pre at *
  have HV := Lib.hid hf3
  have HOK := Lib.hid hok
  have hfl := evB_row hf3 hok
  clear hbl HLB HEQ hp1 hp2 q1 hn64 h h4 h1 hf1 hf3 hok
  go_loopw [27] (fun i wr => ∃ k : Nat, k ≤ n ∧ i = .int .i64 (k : Nat) ∧ Bo w wr L (pre ++ (l.take k).flatMap evB)) (fun i _ => n - (intOf i).toNat)
  case atStart => exact ⟨0, by omega, rfl, by simpa using BO.out⟩
  case round =>
    clear BO
    obtain ⟨k, hk, rfl, hBo⟩ := hrel
    have BO := Lib.hid hBo
    clear hBo
    by_cases hlt : k < n
    · obtain ⟨x, hx⟩ : ∃ x, l[k]? = some x := ⟨_, List.getElem?_eq_getElem (by rw [← HN.out]; exact hlt)⟩
      have hxm := List.mem_of_getElem? hx
      obtain ⟨g, o, rfl, hev⟩ := (hA.up BO.out.below) (by rw [← HN.out]; omega)
      obtain ⟨c0, c1, c2, c3, c4, c5⟩ := ev_at hev hx
      have hk0 : (0 : Int) ≤ (k : Int) := by omega
      have hk1 : (k : Int) < (n : Int) := by omega
      have hN : (l.take (k + 1)).flatMap evB = (l.take k).flatMap evB ++ evB x := by
        have hkl : k < l.length := (List.getElem?_eq_some_iff.1 hx).1
        rw [List.take_succ_eq_append_getElem hkl, (List.getElem?_eq_some_iff.1 hx).2, List.flatMap_append]
        simp
      have HNX := Lib.hid hN
      have P1 := Lib.hid (fun w => put_ev x (HV.out x hxm) (HOK.out x hxm) w)
      have T1 := Lib.hid (fun w => text_ev x (HV.out x hxm) (HOK.out x hxm) w)
      have hel := evB_len (HV.out x hxm) (HOK.out x hxm)
      have htl : ((l.take k).flatMap evB).length ≤ 40 * 256 := by
        have h5 := evB_row (l := l.take k) (fun y hy => HV.out y (List.mem_of_mem_take hy)) (fun y hy => HOK.out y (List.mem_of_mem_take hy))
        rw [List.length_take] at h5
        omega
      clear hx hxm hev hN
      go_wp2_with fail
      refine (P1.out _).mono ?_; rintro e w7 ⟨rfl, hb⟩
      replace BO := Lib.hid (BO.out.up ((up_alloc (Below.refl _ _) _).trans (hb.mono (by simp))))
      clear hb c0 c1 c2 c3 c4 c5
      go_wp2_with fail
      refine (T1.out _).mono ?_; rintro e w8 ⟨rfl, hb⟩
      replace BO := Lib.hid (BO.out.up hb)
      clear hb
      go_wp2_with fail
      refine (bwrite_any _ _ _ ⟨(evB x).toArray⟩ w8 BO.out.D (by rw [text_list, List.length_append]; omega) BO.out.size).mono ?_; rintro e w9 ⟨rfl, hd, hb⟩
      replace BO := BO.out.wrote hd hb
      clear hd hb
      rw [List.append_assoc, show (⟨(evB x).toArray⟩ : ByteArray).data.toList = evB x from rfl, ← HNX.out] at BO
      replace BO := Lib.hid BO
      go_wp2_with fail
      go_roundw
      case rel => exact ⟨k + 1, by omega, by go_num, BO.out⟩
      case measure => simp [intOf]; omega
    · obtain rfl : k = n := by omega
      have HT := Lib.hid (show l.take k = l by rw [HN.out]; exact List.take_length)
      go_wp2_with fail
      refine (bstring_any _ _ _ wr BO.out.D BO.out.size).mono ?_; rintro e w7 ⟨rfl, hb⟩
      go_wp2_with fail
      go_ret
      exact ⟨by rw [HEQ2.out, HT.out]; rfl, BO.out.below.trans (hb.mono (by omega))⟩

end Go.Proofs.YtalfmkgcelipdaaDoor
