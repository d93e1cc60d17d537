/- The law's rows: texts of batches, each linked to the one ahead. -/
import Derived.Test.YthhcopeejhhpgaaDoorLinked
import Derived.Test.YthhcopeejhhpgaaDoorPureGoes
namespace Go.Proofs.YthhcopeejhhpgaaDoor
open Go.RowKit Wire Evt Bat Chn

/-- A slice of ints in memory, a nil one too. -/
structure ZSl (W : World) (A : Option Addr) (l : List Int) : Prop where
  out : 0 < l.length → ∃ g o, A = some ⟨g, o, none⟩ ∧ ∀ (i : Nat) (x : Int), l[i]? = some x → W.cell? ⟨g, o + i, none⟩ = some (.int .i64 x)
theorem ZSl.up {W W' : World} {A : Option Addr} {l : List Int} (h : ZSl W A l) (b : Below W.heap.size W W') : ZSl W' A l := by
  refine ⟨fun hl => ?_⟩
  obtain ⟨g, o, hA, hc⟩ := h.out hl
  exact ⟨g, o, hA, fun i x hx => cell_up (hc i x hx) b⟩

theorem EvAt.part {W : World} {g o : Nat} {l : List Ev} (h : EvAt W g o l) (q b : Nat) : EvAt W g (o + q * 6) ((l.drop q).take b) := fun i y hy j v hv => by
  rw [List.getElem?_take] at hy
  split at hy
  · rw [List.getElem?_drop] at hy
    have := h (q + i) y hy j v hv
    rwa [show o + q * 6 + i * 6 + j = o + (q + i) * 6 + j by omega]
  · cases hy

/-- Where the rows stand. -/
structure Rwd (w wr : World) (x : List UInt8) (v : Value) (ts : List (List UInt8)) : Prop where
  own : OwnT w.heap.size v ts wr
  anc : Has wr w.heap.size 23 (bys x)
  below : Below w.heap.size w wr

def RowsPost (w : World) (r : List (List UInt8)) (e : Ending) (w' : World) : Prop := ∃ v, e = .returned v ∧ OwnT w.heap.size v r w' ∧ Below w.heap.size w w'

set_option maxHeartbeats 1000000 in
set_option maxRecDepth 100000 in
theorem rows_any (LK : LinkC) (a : List UInt8) (ha : a.length = 32) (evs : List Ev) (hs : ∀ y ∈ evs, y.seq < 18446744073709551616) (zs : List Int) (A Z : Option Addr) (n c m d : Nat) (hn : n = evs.length) (hc : n ≤ c) (hm : m = zs.length) (hnb : n ≤ 1000) (hmb : m ≤ 1000)
    (w : World) (hTab : Tab w) (hA : EvSl w A evs) (hZ : ZSl w Z zs) :
    Calls Tryd.prog 20 #[.agg (bys a).toArray, .slice A n c, .slice Z m d] w (RowsPost w (rws hsh a evs zs)) := by
  have hdi := info_digest
  have hdu := Tryd.underlying23
  have hi := info_batch
  have hz : zbt.length = 34 := btc_length _ _ (by simp)
  have RW0 : Hid (Rwd w (w.alloc (.cells (bys a).toArray 23)) a (.slice none 0 0) []) := Lib.hid ⟨OwnT.nil _ _, Has.make w _ _, up_alloc (Below.refl _ _) _⟩
  have HAL := Lib.hid ha
  have HN := Lib.hid hn
  have HM := Lib.hid hm
  have HA := Lib.hid hA
  have HZ := Lib.hid hZ
  have HT := Lib.hid (fun W (hb : Below w.heap.size w W) => tab_up hTab hb)
  have HS := Lib.hid hs
  clear ha hn hm hA hZ hTab hs
  go_enter Tryd.func20, Tryd.ntmps20
  go_wp2_with fail
  generalize hw1 : World.alloc w _ = w1 at *
  clear hw1
  go_loopw [7, 8, 9] (fun v at_ i wr => ∃ (k q : Nat) (x : List UInt8) (ts : List (List UInt8)), k ≤ m ∧ q ≤ n ∧ at_ = .int .i64 (q : Nat) ∧ i = .int .i64 (k : Nat) ∧ Hid (rws hsh a evs zs = ts ++ rws hsh x (evs.drop q) (zs.drop k)) ∧ Hid (Rwd w wr x v ts) ∧ Hid (x.length = 32 ∧ ts.length ≤ k)) (fun _ _ i _ => m - (intOf i).toNat)
  case atStart => exact ⟨0, 0, a, [], Nat.zero_le _, Nat.zero_le _, rfl, rfl, Lib.hid rfl, RW0, Lib.hid ⟨HAL.out, Nat.le_refl _⟩⟩
  case round =>
    obtain ⟨k, q, x, ts, hk, hq, rfl, rfl, HR, RW, HX⟩ := hrel
    clear RW0
    by_cases hkm : k < m
    · by_cases hqn : q < n
      · have d1 : decide ((k : Int) < (m : Int)) = true := by simp; omega
        have d2 : decide ((q : Int) < (n : Int)) = true := by simp; omega
        obtain ⟨g, o, hZe, hzc⟩ := (HZ.out.up RW.out.below).out (by rw [← HM.out]; omega)
        subst hZe
        have hkl : k < zs.length := by rw [← HM.out]; exact hkm
        have cc := hzc k zs[k] (List.getElem?_eq_getElem hkl)
        generalize hzz : zs[k] = z at *
        clear hzc
        obtain ⟨b, hb, hb1, hbn1⟩ : ∃ b : Nat, min (max z 1) ((n : Int) - (q : Int)) = (b : Int) ∧ 1 ≤ b ∧ q + b ≤ n := ⟨(min (max z 1) ((n : Int) - (q : Int))).toNat, by omega, by omega, by omega⟩
        have hbr : b = min (max z 1).toNat (evs.drop q).length := by rw [List.length_drop, ← HN.out]; omega
        have HBR := Lib.hid hbr
        clear hbr
        go_wp2_with fail
        have HZZ := Lib.hid hzz
        have HB0 := Lib.hid hb
        clear hzz hb
        have hxl : (bys x).length = 32 := by rw [bys_length, HX.out.1]
        have HK := Lib.hid (fun W (hb : Below wr.heap.size wr W) => (RW.out.anc.up hb).whole)
        obtain ⟨ge, oe, rfl, hev⟩ := HA.out (by rw [← HN.out]; omega)
        obtain ⟨s, hsb⟩ : ∃ s, s = q + b := ⟨_, rfl⟩
        have WR : IntKind.i64.wrap ((q : Int) + (b : Int)) = (s : Int) := by rw [IntWalk.i64_in _ (by omega)]; omega
        have i1 : q ≤ s := by omega
        have i2 : s ≤ c := by omega
        have i3 : ¬ c = q := by omega
        have i5 : s ≤ n := by omega
        have i4 : (s : Int) ≤ (c : Int) := by omega
        by_cases hB : isB (headSeq ((evs.drop q).take b)) ((evs.drop q).take b) = true
        · have c1 := fun w (hA : EvSl w (some ⟨ge, oe + q * 6, none⟩) ((evs.drop q).take b)) => LK x ((evs.drop q).take b) (some ⟨ge, oe + q * 6, none⟩) (s - q) (c - q) w HX.out.1 (fun y hy => HS.out y (List.mem_of_mem_drop (List.mem_of_mem_take hy))) (by rw [List.length_take, List.length_drop, ← HN.out]; omega) (by omega) (by rw [List.length_take]; omega) hA
          rw [putB_yes (show isB (lnk x ((evs.drop q).take b)).first (lnk x ((evs.drop q).take b)).evs = true from hB)] at c1
          have hsq2 : ∀ y ∈ (evs.drop q).take b, y.seq < 18446744073709551616 := fun y hy => HS.out y (List.mem_of_mem_drop (List.mem_of_mem_take hy))
          have hsq : headSeq ((evs.drop q).take b) < 18446744073709551616 := by
            cases h : (evs.drop q).take b with
            | nil => decide
            | cons y l => rw [h] at hsq2; exact hsq2 y (List.mem_cons_self ..)
          generalize hwt : whole (lnk x ((evs.drop q).take b)) = t at c1
          have C1 := Lib.hid c1
          have hth : (bys (hsh t)).length = 32 := by rw [bys_length, hsh_len]
          have OT := Lib.hid (fun w hT => hof_any t (by rw [← hwt, whole_len]; have := body_len (b := lnk x ((evs.drop q).take b)) ⟨hsq, HX.out.1, hsq2⟩ hB; omega) w hT)
          have HLN : Hid (ts.length + 1 ≤ 1000000) := Lib.hid (by have := HX.out.2; omega)
          have HX2 : Hid ((hsh t).length = 32 ∧ (ts ++ [t]).length ≤ k + 1) := Lib.hid ⟨hsh_len t, by rw [List.length_append]; have := HX.out.2; simpa using this⟩
          have HR2 : Hid (rws hsh a evs zs = (ts ++ [t]) ++ rws hsh (hsh t) (evs.drop s) (zs.drop (k + 1))) := Lib.hid (by
            rw [HR.out, List.drop_eq_getElem_cons hkl, rws, if_neg (by intro h; have := congrArg List.length h; rw [List.length_drop, ← HN.out] at this; simp at this; omega), HZZ.out, ← HBR.out, if_pos hB, hwt, List.drop_drop, ← hsb]
            simp)
          have HE : Hid (∀ W, Below wr.heap.size wr W → EvSl W (some ⟨ge, oe + q * 6, none⟩) ((evs.drop q).take b)) := Lib.hid (fun W hb => fun _ => ⟨ge, oe + q * 6, rfl, (hev.up (up_trans RW.out.below hb)).part q b⟩)
          have HSB := Lib.hid hsb
          clear c1 hev hb1 hnb hqn hB hwt hsb hbn1 hsq hsq2
          refine wp_region_held_drew (S := fun W => W.rangeAt w.heap.size 0 (bys x)) (by kernel_rfl) (HK.out _ (Below.refl _ _).drew) (fun hHeld => ?_)
          refine wpAnyH_take (i := 0) rfl (by kernel_rfl) (by kernel_rfl) (by kernel_rfl) (fun _ _ _ h => h) (yieldsIf_load_mid (by rfl) _ _ rfl w.heap.size 0 rfl (bys x) _ (fun W h => h) hdu rfl (by rw [hdi, hxl])) (by assumption) ?_
          try simp only [Act.put, List.getElem_toArray, List.getElem_cons_zero, List.setIfInBounds_toArray, List.set_cons_zero, List.set_cons_succ]
          refine wpAnyH_take (i := 1) (v := ?_) rfl (by kernel_rfl) (by kernel_rfl) (by kernel_rfl) (fun _ _ _ h => h) (Or.inl ⟨by rfl, ?_⟩) (by assumption) ?_
          rotate_left
          · intro w hSw; (try dsimp only at hSw); go_simp; try with_reducible rfl
          try simp only [Act.put, List.getElem_toArray, List.getElem_cons_zero, List.getElem_cons_succ, List.setIfInBounds_toArray, List.set_cons_zero, List.set_cons_succ]
          refine wpAnyH_take (i := 2) (v := ?_) rfl (by kernel_rfl) (by kernel_rfl) (by kernel_rfl) (fun _ _ _ h => h) (Or.inl ⟨by rfl, ?_⟩) (by assumption) ?_
          rotate_left
          · intro w hSw; (try dsimp only at hSw); go_simp; try with_reducible rfl
          try simp only [Act.put, List.getElem_toArray, List.getElem_cons_zero, List.getElem_cons_succ, List.setIfInBounds_toArray, List.set_cons_zero, List.set_cons_succ]
          refine wpAnyH_take (i := 3) (v := ?_) rfl (by kernel_rfl) (by kernel_rfl) (by kernel_rfl) (fun _ _ _ h => h) (Or.inl ⟨by rfl, ?_⟩) (by assumption) ?_
          rotate_left
          · intro w hSw; (try dsimp only at hSw); go_simp; try with_reducible rfl
          try simp only [Act.put, List.getElem_toArray, List.getElem_cons_zero, List.getElem_cons_succ, List.setIfInBounds_toArray, List.set_cons_zero, List.set_cons_succ]
          refine wpAnyH_take (i := 4) (v := ?_) rfl (by kernel_rfl) (by kernel_rfl) (by kernel_rfl) (fun _ _ _ h => h) (Or.inl ⟨by rfl, ?_⟩) (by assumption) ?_
          rotate_left
          · intro w hSw; (try dsimp only at hSw); go_simp; try with_reducible rfl
          try simp only [Act.put, List.getElem_toArray, List.getElem_cons_zero, List.getElem_cons_succ, List.setIfInBounds_toArray, List.set_cons_zero, List.set_cons_succ]
          refine wpAnyH_take (i := 5) (v := ?_) rfl (by kernel_rfl) (by kernel_rfl) (by kernel_rfl) (fun _ _ _ h => h) (Or.inl ⟨by rfl, ?_⟩) (by assumption) ?_
          rotate_left
          · intro w hSw; (try dsimp only at hSw); go_simp; try with_reducible rfl
          try simp only [Act.put, List.getElem_toArray, List.getElem_cons_zero, List.getElem_cons_succ, List.setIfInBounds_toArray, List.set_cons_zero, List.set_cons_succ]
          refine wpAnyH_take (i := 6) (v := ?_) rfl (by kernel_rfl) (by kernel_rfl) (by kernel_rfl) (fun _ _ _ h => h) (Or.inl ⟨by rfl, ?_⟩) (by assumption) ?_
          rotate_left
          · intro w hSw; (try dsimp only at hSw); go_simp; try with_reducible rfl
          try simp only [Act.put, List.getElem_toArray, List.getElem_cons_zero, List.getElem_cons_succ, List.setIfInBounds_toArray, List.set_cons_zero, List.set_cons_succ]
          refine wpAnyH_ready (rs := [7, 12]) (by kernel_rfl) (by simp) (AllReadyH.cons rfl (fun K hK => ?_) (AllReadyH.cons rfl (fun K hK => ?_) AllReadyH.nil))
          · skip
            go_simp
            refine (C1.out _ (HE.out _ (Below.refl _ _).drew)).mono ?_; rintro e wn ⟨⟨L, hL, hLo, rfl⟩, hbn'⟩
            have hbn : Below wr.heap.size wr wn := up_trans (Below.refl _ _).drew hbn'
            try have HB := Lib.hid ((Has.make wr.drew _ zbt).up hbn')
            clear hbn'
            go_wp2_with fail
            refine hK.out _ _ (HK.out _ hbn) (fun hHeld => ?_)
            clear hK K
            try simp only [Act.put, List.getElem_toArray, List.getElem_cons_zero, List.getElem_cons_succ, List.setIfInBounds_toArray, List.set_cons_zero, List.set_cons_succ]
            refine wpAnyH_take (i := 8) (v := ?_) rfl (by kernel_rfl) (by kernel_rfl) (by kernel_rfl) (fun _ _ _ h => h) (Or.inl ⟨by rfl, ?_⟩) (by assumption) ?_
            rotate_left
            · intro w hSw; (try dsimp only at hSw); go_simp; try with_reducible rfl
            try simp only [Act.put, List.getElem_toArray, List.getElem_cons_zero, List.getElem_cons_succ, List.setIfInBounds_toArray, List.set_cons_zero, List.set_cons_succ]
            refine wpAnyH_take (i := 9) (v := ?_) rfl (by kernel_rfl) (by kernel_rfl) (by kernel_rfl) (fun _ _ _ h => h) (Or.inl ⟨by rfl, ?_⟩) (by assumption) ?_
            rotate_left
            · intro w hSw; (try dsimp only at hSw); go_simp; try with_reducible rfl
            try simp only [Act.put, List.getElem_toArray, List.getElem_cons_zero, List.getElem_cons_succ, List.setIfInBounds_toArray, List.set_cons_zero, List.set_cons_succ]
            refine wpAnyH_take (i := 10) (v := ?_) rfl (by kernel_rfl) (by kernel_rfl) (by kernel_rfl) (fun _ _ _ h => h) (Or.inl ⟨by rfl, ?_⟩) (by assumption) ?_
            rotate_left
            · intro w hSw; (try dsimp only at hSw); go_simp; try with_reducible rfl
            try simp only [Act.put, List.getElem_toArray, List.getElem_cons_zero, List.getElem_cons_succ, List.setIfInBounds_toArray, List.set_cons_zero, List.set_cons_succ]
            refine wpAnyH_take (i := 11) (v := ?_) rfl (by kernel_rfl) (by kernel_rfl) (by kernel_rfl) (fun _ _ _ h => h) (Or.inl ⟨by rfl, ?_⟩) (by assumption) ?_
            rotate_left
            · intro w hSw; (try dsimp only at hSw); go_simp; try with_reducible rfl
            try simp only [Act.put, List.getElem_toArray, List.getElem_cons_zero, List.getElem_cons_succ, List.setIfInBounds_toArray, List.set_cons_zero, List.set_cons_succ]
            refine wpAnyH_ready (rs := [12]) (by kernel_rfl) (by simp) (AllReadyH.cons rfl (fun K hK => ?_) AllReadyH.nil)
            go_simp
            refine hK.out _ _ (HK.out _ (by first | exact up_alloc hbn _ | exact up_alloc (Below.refl _ _).drew _)) (fun hHeld => ?_)
            clear hK K
            try simp only [Act.put, List.getElem_toArray, List.getElem_cons_zero, List.getElem_cons_succ, List.setIfInBounds_toArray, List.set_cons_zero, List.set_cons_succ]
            refine wpAnyH_ready (rs := [13]) (by kernel_rfl) (by simp) (AllReadyH.cons rfl (fun K hK => ?_) AllReadyH.nil)
            first | (refine wp_store_save 27 _ _ rfl wn.heap.size 27 zbt L (by rfl) (by rfl) (Has.make wn _ zbt) (by rw [hL, hz]) (by rw [hi, hL]) hLo ?_) | (refine wp_store_save 27 _ _ rfl wr.heap.size 27 zbt L (by rfl) (by rfl) HB.out (by rw [hL, hz]) (by rw [hi, hL]) hLo ?_)
            intro w4 hF4 s4
            have bx : Below wr.heap.size wr w4 := by first | exact up_trans hbn (made_up rfl s4) | exact hbn.trans (s4.below (fun k e => by omega) hbn.size)
            clear hF4 s4
            refine hK.out _ _ (HK.out _ bx) (fun hHeld => ?_)
            clear hK K
            try simp only [Act.put, List.getElem_toArray, List.getElem_cons_zero, List.getElem_cons_succ]
            refine wpAnyH_take (i := 14) (v := ?_) rfl (by kernel_rfl) (by kernel_rfl) (by kernel_rfl) (fun _ _ _ h => h) (Or.inl ⟨by rfl, ?_⟩) (by assumption) ?_
            rotate_left
            · intro w hSw; (try dsimp only at hSw); go_simp; try with_reducible rfl
            try simp only [Act.put, List.getElem_toArray, List.getElem_cons_zero, List.getElem_cons_succ, List.setIfInBounds_toArray, List.set_cons_zero, List.set_cons_succ]
            refine wpAnyH_take (i := 15) (v := ?_) rfl (by kernel_rfl) (by kernel_rfl) (by kernel_rfl) (fun _ _ _ h => h) (Or.inl ⟨by rfl, ?_⟩) (by assumption) ?_
            rotate_left
            · intro w hSw; (try dsimp only at hSw); go_simp; try with_reducible rfl
            try simp only [Act.put, List.getElem_toArray, List.getElem_cons_zero, List.getElem_cons_succ, List.setIfInBounds_toArray, List.set_cons_zero, List.set_cons_succ]
            refine wpAnyH_done (by kernel_rfl) ?_ _
            have RW4 := Lib.hid (show Rwd w w4 x u7 ts from ⟨RW.out.own.below bx, RW.out.anc.up bx, up_trans RW.out.below bx⟩)
            clear HK HE C1
            go_wp2_with (refine wpList_pushT rfl _ _ rfl w.heap.size u7 ts (by rfl) (RW4.out.own.alloc _) w4.heap.size t (by rfl) (Has.make w4 _ [.string ⟨t.toArray⟩]) HLN.out (by have := RW4.out.below.size; simp; omega) ?_; intro v5 w5 own5 s5; have HO5 := Lib.hid own5; have HB5 := Lib.hid (s5.below (fun _ hk => hk.1) (by have := RW4.out.below.size; simp; omega)); have HA5 := Lib.hid (s5.has (RW4.out.anc.alloc _) (Typ.ne (RW4.out.anc.alloc _) (by decide))); clear own5 s5)
            have BW5 := Lib.hid (show Below w.heap.size w w5 from ((up_alloc RW4.out.below _)).trans HB5.out)
            refine (OT.out _ (HT.out _ BW5.out)).mono ?_; rintro e w6 ⟨rfl, b6⟩
            replace HO5 := Lib.hid (HO5.out.below b6)
            replace HA5 := Lib.hid (HA5.out.up b6)
            replace BW5 := Lib.hid (up_trans BW5.out b6)
            go_wp2_with (refine wpList_store_save rfl 23 _ _ rfl w.heap.size 23 (bys x) (bys (hsh t)) (by rfl) (by rfl) HA5.out (by rw [hxl, hth]) (by rw [hdi, hth]) (bys_one _) ?_; intro w7 hF7 s7; have RW7 := Lib.hid (show Rwd w w7 (hsh t) v5 (ts ++ [t]) from ⟨HO5.out.save s7 (fun k hk e => Typ.ne HA5.out (by decide) (e ▸ hk)), hF7, BW5.out.trans (s7.below (fun k e => by omega) BW5.out.size)⟩); clear hF7 s7)
            go_roundw
            case rel => exact ⟨k + 1, s, hsh t, ts ++ [t], by omega, by omega, by go_num, by go_num, HR2, RW7, HX2⟩
            case measure => simp [intOf]; omega
          · skip
            go_simp
            refine hK.out _ _ (HK.out _ (by first | exact up_alloc hbn _ | exact up_alloc (Below.refl _ _).drew _)) (fun hHeld => ?_)
            clear hK K
            try simp only [Act.put, List.getElem_toArray, List.getElem_cons_zero, List.getElem_cons_succ, List.setIfInBounds_toArray, List.set_cons_zero, List.set_cons_succ]
            refine wpAnyH_ready (rs := [7]) (by kernel_rfl) (by simp) (AllReadyH.cons rfl (fun K hK => ?_) AllReadyH.nil)
            go_simp
            refine (C1.out _ (HE.out _ (up_alloc (Below.refl _ _).drew _))).mono ?_; rintro e wn ⟨⟨L, hL, hLo, rfl⟩, hbn'⟩
            have hbn : Below wr.heap.size wr wn := up_trans (up_alloc (Below.refl _ _).drew _) hbn'
            try have HB := Lib.hid ((Has.make wr.drew _ zbt).up hbn')
            clear hbn'
            go_wp2_with fail
            refine hK.out _ _ (HK.out _ hbn) (fun hHeld => ?_)
            clear hK K
            try simp only [Act.put, List.getElem_toArray, List.getElem_cons_zero, List.getElem_cons_succ, List.setIfInBounds_toArray, List.set_cons_zero, List.set_cons_succ]
            refine wpAnyH_take (i := 8) (v := ?_) rfl (by kernel_rfl) (by kernel_rfl) (by kernel_rfl) (fun _ _ _ h => h) (Or.inl ⟨by rfl, ?_⟩) (by assumption) ?_
            rotate_left
            · intro w hSw; (try dsimp only at hSw); go_simp; try with_reducible rfl
            try simp only [Act.put, List.getElem_toArray, List.getElem_cons_zero, List.getElem_cons_succ, List.setIfInBounds_toArray, List.set_cons_zero, List.set_cons_succ]
            refine wpAnyH_take (i := 9) (v := ?_) rfl (by kernel_rfl) (by kernel_rfl) (by kernel_rfl) (fun _ _ _ h => h) (Or.inl ⟨by rfl, ?_⟩) (by assumption) ?_
            rotate_left
            · intro w hSw; (try dsimp only at hSw); go_simp; try with_reducible rfl
            try simp only [Act.put, List.getElem_toArray, List.getElem_cons_zero, List.getElem_cons_succ, List.setIfInBounds_toArray, List.set_cons_zero, List.set_cons_succ]
            refine wpAnyH_take (i := 10) (v := ?_) rfl (by kernel_rfl) (by kernel_rfl) (by kernel_rfl) (fun _ _ _ h => h) (Or.inl ⟨by rfl, ?_⟩) (by assumption) ?_
            rotate_left
            · intro w hSw; (try dsimp only at hSw); go_simp; try with_reducible rfl
            try simp only [Act.put, List.getElem_toArray, List.getElem_cons_zero, List.getElem_cons_succ, List.setIfInBounds_toArray, List.set_cons_zero, List.set_cons_succ]
            refine wpAnyH_take (i := 11) (v := ?_) rfl (by kernel_rfl) (by kernel_rfl) (by kernel_rfl) (fun _ _ _ h => h) (Or.inl ⟨by rfl, ?_⟩) (by assumption) ?_
            rotate_left
            · intro w hSw; (try dsimp only at hSw); go_simp; try with_reducible rfl
            try simp only [Act.put, List.getElem_toArray, List.getElem_cons_zero, List.getElem_cons_succ, List.setIfInBounds_toArray, List.set_cons_zero, List.set_cons_succ]
            refine wpAnyH_ready (rs := [13]) (by kernel_rfl) (by simp) (AllReadyH.cons rfl (fun K hK => ?_) AllReadyH.nil)
            first | (refine wp_store_save 27 _ _ rfl wn.heap.size 27 zbt L (by rfl) (by rfl) (Has.make wn _ zbt) (by rw [hL, hz]) (by rw [hi, hL]) hLo ?_) | (refine wp_store_save 27 _ _ rfl wr.heap.size 27 zbt L (by rfl) (by rfl) HB.out (by rw [hL, hz]) (by rw [hi, hL]) hLo ?_)
            intro w4 hF4 s4
            have bx : Below wr.heap.size wr w4 := by first | exact up_trans hbn (made_up rfl s4) | exact hbn.trans (s4.below (fun k e => by omega) hbn.size)
            clear hF4 s4
            refine hK.out _ _ (HK.out _ bx) (fun hHeld => ?_)
            clear hK K
            try simp only [Act.put, List.getElem_toArray, List.getElem_cons_zero, List.getElem_cons_succ]
            refine wpAnyH_take (i := 14) (v := ?_) rfl (by kernel_rfl) (by kernel_rfl) (by kernel_rfl) (fun _ _ _ h => h) (Or.inl ⟨by rfl, ?_⟩) (by assumption) ?_
            rotate_left
            · intro w hSw; (try dsimp only at hSw); go_simp; try with_reducible rfl
            try simp only [Act.put, List.getElem_toArray, List.getElem_cons_zero, List.getElem_cons_succ, List.setIfInBounds_toArray, List.set_cons_zero, List.set_cons_succ]
            refine wpAnyH_take (i := 15) (v := ?_) rfl (by kernel_rfl) (by kernel_rfl) (by kernel_rfl) (fun _ _ _ h => h) (Or.inl ⟨by rfl, ?_⟩) (by assumption) ?_
            rotate_left
            · intro w hSw; (try dsimp only at hSw); go_simp; try with_reducible rfl
            try simp only [Act.put, List.getElem_toArray, List.getElem_cons_zero, List.getElem_cons_succ, List.setIfInBounds_toArray, List.set_cons_zero, List.set_cons_succ]
            refine wpAnyH_done (by kernel_rfl) ?_ _
            have RW4 := Lib.hid (show Rwd w w4 x u7 ts from ⟨RW.out.own.below bx, RW.out.anc.up bx, up_trans RW.out.below bx⟩)
            clear HK HE C1
            go_wp2_with (refine wpList_pushT rfl _ _ rfl w.heap.size u7 ts (by rfl) (RW4.out.own.alloc _) w4.heap.size t (by rfl) (Has.make w4 _ [.string ⟨t.toArray⟩]) HLN.out (by have := RW4.out.below.size; simp; omega) ?_; intro v5 w5 own5 s5; have HO5 := Lib.hid own5; have HB5 := Lib.hid (s5.below (fun _ hk => hk.1) (by have := RW4.out.below.size; simp; omega)); have HA5 := Lib.hid (s5.has (RW4.out.anc.alloc _) (Typ.ne (RW4.out.anc.alloc _) (by decide))); clear own5 s5)
            have BW5 := Lib.hid (show Below w.heap.size w w5 from ((up_alloc RW4.out.below _)).trans HB5.out)
            refine (OT.out _ (HT.out _ BW5.out)).mono ?_; rintro e w6 ⟨rfl, b6⟩
            replace HO5 := Lib.hid (HO5.out.below b6)
            replace HA5 := Lib.hid (HA5.out.up b6)
            replace BW5 := Lib.hid (up_trans BW5.out b6)
            go_wp2_with (refine wpList_store_save rfl 23 _ _ rfl w.heap.size 23 (bys x) (bys (hsh t)) (by rfl) (by rfl) HA5.out (by rw [hxl, hth]) (by rw [hdi, hth]) (bys_one _) ?_; intro w7 hF7 s7; have RW7 := Lib.hid (show Rwd w w7 (hsh t) v5 (ts ++ [t]) from ⟨HO5.out.save s7 (fun k hk e => Typ.ne HA5.out (by decide) (e ▸ hk)), hF7, BW5.out.trans (s7.below (fun k e => by omega) BW5.out.size)⟩); clear hF7 s7)
            go_roundw
            case rel => exact ⟨k + 1, s, hsh t, ts ++ [t], by omega, by omega, by go_num, by go_num, HR2, RW7, HX2⟩
            case measure => simp [intOf]; omega
        · have c1 := fun w (hA : EvSl w (some ⟨ge, oe + q * 6, none⟩) ((evs.drop q).take b)) => LK x ((evs.drop q).take b) (some ⟨ge, oe + q * 6, none⟩) (s - q) (c - q) w HX.out.1 (fun y hy => HS.out y (List.mem_of_mem_drop (List.mem_of_mem_take hy))) (by rw [List.length_take, List.length_drop, ← HN.out]; omega) (by omega) (by rw [List.length_take]; omega) hA
          rw [putB_no (show isB (lnk x ((evs.drop q).take b)).first (lnk x ((evs.drop q).take b)).evs = false from Bool.eq_false_iff.2 hB)] at c1
          have C1 := Lib.hid c1
          have HR2 : Hid (rws hsh a evs zs = ts) := Lib.hid (by
            rw [HR.out, List.drop_eq_getElem_cons hkl, rws, if_neg (by intro h; have := congrArg List.length h; rw [List.length_drop, ← HN.out] at this; simp at this; omega), HZZ.out, ← HBR.out, if_neg hB]
            simp)
          have HE : Hid (∀ W, Below wr.heap.size wr W → EvSl W (some ⟨ge, oe + q * 6, none⟩) ((evs.drop q).take b)) := Lib.hid (fun W hb => fun _ => ⟨ge, oe + q * 6, rfl, (hev.up (up_trans RW.out.below hb)).part q b⟩)
          clear c1 hev hb1 hnb hqn hB hsb hbn1
          refine wp_region_held_drew (S := fun W => W.rangeAt w.heap.size 0 (bys x)) (by kernel_rfl) (HK.out _ (Below.refl _ _).drew) (fun hHeld => ?_)
          refine wpAnyH_take (i := 0) rfl (by kernel_rfl) (by kernel_rfl) (by kernel_rfl) (fun _ _ _ h => h) (yieldsIf_load_mid (by rfl) _ _ rfl w.heap.size 0 rfl (bys x) _ (fun W h => h) hdu rfl (by rw [hdi, hxl])) (by assumption) ?_
          try simp only [Act.put, List.getElem_toArray, List.getElem_cons_zero, List.setIfInBounds_toArray, List.set_cons_zero, List.set_cons_succ]
          refine wpAnyH_take (i := 1) (v := ?_) rfl (by kernel_rfl) (by kernel_rfl) (by kernel_rfl) (fun _ _ _ h => h) (Or.inl ⟨by rfl, ?_⟩) (by assumption) ?_
          rotate_left
          · intro w hSw; (try dsimp only at hSw); go_simp; try with_reducible rfl
          try simp only [Act.put, List.getElem_toArray, List.getElem_cons_zero, List.getElem_cons_succ, List.setIfInBounds_toArray, List.set_cons_zero, List.set_cons_succ]
          refine wpAnyH_take (i := 2) (v := ?_) rfl (by kernel_rfl) (by kernel_rfl) (by kernel_rfl) (fun _ _ _ h => h) (Or.inl ⟨by rfl, ?_⟩) (by assumption) ?_
          rotate_left
          · intro w hSw; (try dsimp only at hSw); go_simp; try with_reducible rfl
          try simp only [Act.put, List.getElem_toArray, List.getElem_cons_zero, List.getElem_cons_succ, List.setIfInBounds_toArray, List.set_cons_zero, List.set_cons_succ]
          refine wpAnyH_take (i := 3) (v := ?_) rfl (by kernel_rfl) (by kernel_rfl) (by kernel_rfl) (fun _ _ _ h => h) (Or.inl ⟨by rfl, ?_⟩) (by assumption) ?_
          rotate_left
          · intro w hSw; (try dsimp only at hSw); go_simp; try with_reducible rfl
          try simp only [Act.put, List.getElem_toArray, List.getElem_cons_zero, List.getElem_cons_succ, List.setIfInBounds_toArray, List.set_cons_zero, List.set_cons_succ]
          refine wpAnyH_take (i := 4) (v := ?_) rfl (by kernel_rfl) (by kernel_rfl) (by kernel_rfl) (fun _ _ _ h => h) (Or.inl ⟨by rfl, ?_⟩) (by assumption) ?_
          rotate_left
          · intro w hSw; (try dsimp only at hSw); go_simp; try with_reducible rfl
          try simp only [Act.put, List.getElem_toArray, List.getElem_cons_zero, List.getElem_cons_succ, List.setIfInBounds_toArray, List.set_cons_zero, List.set_cons_succ]
          refine wpAnyH_take (i := 5) (v := ?_) rfl (by kernel_rfl) (by kernel_rfl) (by kernel_rfl) (fun _ _ _ h => h) (Or.inl ⟨by rfl, ?_⟩) (by assumption) ?_
          rotate_left
          · intro w hSw; (try dsimp only at hSw); go_simp; try with_reducible rfl
          try simp only [Act.put, List.getElem_toArray, List.getElem_cons_zero, List.getElem_cons_succ, List.setIfInBounds_toArray, List.set_cons_zero, List.set_cons_succ]
          refine wpAnyH_take (i := 6) (v := ?_) rfl (by kernel_rfl) (by kernel_rfl) (by kernel_rfl) (fun _ _ _ h => h) (Or.inl ⟨by rfl, ?_⟩) (by assumption) ?_
          rotate_left
          · intro w hSw; (try dsimp only at hSw); go_simp; try with_reducible rfl
          try simp only [Act.put, List.getElem_toArray, List.getElem_cons_zero, List.getElem_cons_succ, List.setIfInBounds_toArray, List.set_cons_zero, List.set_cons_succ]
          refine wpAnyH_ready (rs := [7, 12]) (by kernel_rfl) (by simp) (AllReadyH.cons rfl (fun K hK => ?_) (AllReadyH.cons rfl (fun K hK => ?_) AllReadyH.nil))
          · skip
            go_simp
            refine (C1.out _ (HE.out _ (Below.refl _ _).drew)).mono ?_; rintro e wn ⟨⟨L, hL, hLo, rfl⟩, hbn'⟩
            have hbn : Below wr.heap.size wr wn := up_trans (Below.refl _ _).drew hbn'
            try have HB := Lib.hid ((Has.make wr.drew _ zbt).up hbn')
            clear hbn'
            go_wp2_with fail
            refine hK.out _ _ (HK.out _ hbn) (fun hHeld => ?_)
            clear hK K
            try simp only [Act.put, List.getElem_toArray, List.getElem_cons_zero, List.getElem_cons_succ, List.setIfInBounds_toArray, List.set_cons_zero, List.set_cons_succ]
            refine wpAnyH_take (i := 8) (v := ?_) rfl (by kernel_rfl) (by kernel_rfl) (by kernel_rfl) (fun _ _ _ h => h) (Or.inl ⟨by rfl, ?_⟩) (by assumption) ?_
            rotate_left
            · intro w hSw; (try dsimp only at hSw); go_simp; try with_reducible rfl
            try simp only [Act.put, List.getElem_toArray, List.getElem_cons_zero, List.getElem_cons_succ, List.setIfInBounds_toArray, List.set_cons_zero, List.set_cons_succ]
            refine wpAnyH_take (i := 9) (v := ?_) rfl (by kernel_rfl) (by kernel_rfl) (by kernel_rfl) (fun _ _ _ h => h) (Or.inl ⟨by rfl, ?_⟩) (by assumption) ?_
            rotate_left
            · intro w hSw; (try dsimp only at hSw); go_simp; try with_reducible rfl
            try simp only [Act.put, List.getElem_toArray, List.getElem_cons_zero, List.getElem_cons_succ, List.setIfInBounds_toArray, List.set_cons_zero, List.set_cons_succ]
            refine wpAnyH_take (i := 10) (v := ?_) rfl (by kernel_rfl) (by kernel_rfl) (by kernel_rfl) (fun _ _ _ h => h) (Or.inl ⟨by rfl, ?_⟩) (by assumption) ?_
            rotate_left
            · intro w hSw; (try dsimp only at hSw); go_simp; try with_reducible rfl
            try simp only [Act.put, List.getElem_toArray, List.getElem_cons_zero, List.getElem_cons_succ, List.setIfInBounds_toArray, List.set_cons_zero, List.set_cons_succ]
            refine wpAnyH_take (i := 11) (v := ?_) rfl (by kernel_rfl) (by kernel_rfl) (by kernel_rfl) (fun _ _ _ h => h) (Or.inl ⟨by rfl, ?_⟩) (by assumption) ?_
            rotate_left
            · intro w hSw; (try dsimp only at hSw); go_simp; try with_reducible rfl
            try simp only [Act.put, List.getElem_toArray, List.getElem_cons_zero, List.getElem_cons_succ, List.setIfInBounds_toArray, List.set_cons_zero, List.set_cons_succ]
            refine wpAnyH_ready (rs := [12]) (by kernel_rfl) (by simp) (AllReadyH.cons rfl (fun K hK => ?_) AllReadyH.nil)
            go_simp
            refine hK.out _ _ (HK.out _ (by first | exact up_alloc hbn _ | exact up_alloc (Below.refl _ _).drew _)) (fun hHeld => ?_)
            clear hK K
            try simp only [Act.put, List.getElem_toArray, List.getElem_cons_zero, List.getElem_cons_succ, List.setIfInBounds_toArray, List.set_cons_zero, List.set_cons_succ]
            refine wpAnyH_ready (rs := [13]) (by kernel_rfl) (by simp) (AllReadyH.cons rfl (fun K hK => ?_) AllReadyH.nil)
            first | (refine wp_store_save 27 _ _ rfl wn.heap.size 27 zbt L (by rfl) (by rfl) (Has.make wn _ zbt) (by rw [hL, hz]) (by rw [hi, hL]) hLo ?_) | (refine wp_store_save 27 _ _ rfl wr.heap.size 27 zbt L (by rfl) (by rfl) HB.out (by rw [hL, hz]) (by rw [hi, hL]) hLo ?_)
            intro w4 hF4 s4
            have bx : Below wr.heap.size wr w4 := by first | exact up_trans hbn (made_up rfl s4) | exact hbn.trans (s4.below (fun k e => by omega) hbn.size)
            clear hF4 s4
            refine hK.out _ _ (HK.out _ bx) (fun hHeld => ?_)
            clear hK K
            try simp only [Act.put, List.getElem_toArray, List.getElem_cons_zero, List.getElem_cons_succ]
            refine wpAnyH_take (i := 14) (v := ?_) rfl (by kernel_rfl) (by kernel_rfl) (by kernel_rfl) (fun _ _ _ h => h) (Or.inl ⟨by rfl, ?_⟩) (by assumption) ?_
            rotate_left
            · intro w hSw; (try dsimp only at hSw); go_simp; try with_reducible rfl
            try simp only [Act.put, List.getElem_toArray, List.getElem_cons_zero, List.getElem_cons_succ, List.setIfInBounds_toArray, List.set_cons_zero, List.set_cons_succ]
            refine wpAnyH_take (i := 15) (v := ?_) rfl (by kernel_rfl) (by kernel_rfl) (by kernel_rfl) (fun _ _ _ h => h) (Or.inl ⟨by rfl, ?_⟩) (by assumption) ?_
            rotate_left
            · intro w hSw; (try dsimp only at hSw); go_simp; try with_reducible rfl
            try simp only [Act.put, List.getElem_toArray, List.getElem_cons_zero, List.getElem_cons_succ, List.setIfInBounds_toArray, List.set_cons_zero, List.set_cons_succ]
            refine wpAnyH_done (by kernel_rfl) ?_ _
            have RW4 := Lib.hid (show Rwd w w4 x u7 ts from ⟨RW.out.own.below bx, RW.out.anc.up bx, up_trans RW.out.below bx⟩)
            clear HK HE C1
            go_wp2_with fail
            go_ret
            rw [HR2.out]
            exact ⟨_, rfl, RW4.out.own, RW4.out.below⟩
          · skip
            go_simp
            refine hK.out _ _ (HK.out _ (by first | exact up_alloc hbn _ | exact up_alloc (Below.refl _ _).drew _)) (fun hHeld => ?_)
            clear hK K
            try simp only [Act.put, List.getElem_toArray, List.getElem_cons_zero, List.getElem_cons_succ, List.setIfInBounds_toArray, List.set_cons_zero, List.set_cons_succ]
            refine wpAnyH_ready (rs := [7]) (by kernel_rfl) (by simp) (AllReadyH.cons rfl (fun K hK => ?_) AllReadyH.nil)
            go_simp
            refine (C1.out _ (HE.out _ (up_alloc (Below.refl _ _).drew _))).mono ?_; rintro e wn ⟨⟨L, hL, hLo, rfl⟩, hbn'⟩
            have hbn : Below wr.heap.size wr wn := up_trans (up_alloc (Below.refl _ _).drew _) hbn'
            try have HB := Lib.hid ((Has.make wr.drew _ zbt).up hbn')
            clear hbn'
            go_wp2_with fail
            refine hK.out _ _ (HK.out _ hbn) (fun hHeld => ?_)
            clear hK K
            try simp only [Act.put, List.getElem_toArray, List.getElem_cons_zero, List.getElem_cons_succ, List.setIfInBounds_toArray, List.set_cons_zero, List.set_cons_succ]
            refine wpAnyH_take (i := 8) (v := ?_) rfl (by kernel_rfl) (by kernel_rfl) (by kernel_rfl) (fun _ _ _ h => h) (Or.inl ⟨by rfl, ?_⟩) (by assumption) ?_
            rotate_left
            · intro w hSw; (try dsimp only at hSw); go_simp; try with_reducible rfl
            try simp only [Act.put, List.getElem_toArray, List.getElem_cons_zero, List.getElem_cons_succ, List.setIfInBounds_toArray, List.set_cons_zero, List.set_cons_succ]
            refine wpAnyH_take (i := 9) (v := ?_) rfl (by kernel_rfl) (by kernel_rfl) (by kernel_rfl) (fun _ _ _ h => h) (Or.inl ⟨by rfl, ?_⟩) (by assumption) ?_
            rotate_left
            · intro w hSw; (try dsimp only at hSw); go_simp; try with_reducible rfl
            try simp only [Act.put, List.getElem_toArray, List.getElem_cons_zero, List.getElem_cons_succ, List.setIfInBounds_toArray, List.set_cons_zero, List.set_cons_succ]
            refine wpAnyH_take (i := 10) (v := ?_) rfl (by kernel_rfl) (by kernel_rfl) (by kernel_rfl) (fun _ _ _ h => h) (Or.inl ⟨by rfl, ?_⟩) (by assumption) ?_
            rotate_left
            · intro w hSw; (try dsimp only at hSw); go_simp; try with_reducible rfl
            try simp only [Act.put, List.getElem_toArray, List.getElem_cons_zero, List.getElem_cons_succ, List.setIfInBounds_toArray, List.set_cons_zero, List.set_cons_succ]
            refine wpAnyH_take (i := 11) (v := ?_) rfl (by kernel_rfl) (by kernel_rfl) (by kernel_rfl) (fun _ _ _ h => h) (Or.inl ⟨by rfl, ?_⟩) (by assumption) ?_
            rotate_left
            · intro w hSw; (try dsimp only at hSw); go_simp; try with_reducible rfl
            try simp only [Act.put, List.getElem_toArray, List.getElem_cons_zero, List.getElem_cons_succ, List.setIfInBounds_toArray, List.set_cons_zero, List.set_cons_succ]
            refine wpAnyH_ready (rs := [13]) (by kernel_rfl) (by simp) (AllReadyH.cons rfl (fun K hK => ?_) AllReadyH.nil)
            first | (refine wp_store_save 27 _ _ rfl wn.heap.size 27 zbt L (by rfl) (by rfl) (Has.make wn _ zbt) (by rw [hL, hz]) (by rw [hi, hL]) hLo ?_) | (refine wp_store_save 27 _ _ rfl wr.heap.size 27 zbt L (by rfl) (by rfl) HB.out (by rw [hL, hz]) (by rw [hi, hL]) hLo ?_)
            intro w4 hF4 s4
            have bx : Below wr.heap.size wr w4 := by first | exact up_trans hbn (made_up rfl s4) | exact hbn.trans (s4.below (fun k e => by omega) hbn.size)
            clear hF4 s4
            refine hK.out _ _ (HK.out _ bx) (fun hHeld => ?_)
            clear hK K
            try simp only [Act.put, List.getElem_toArray, List.getElem_cons_zero, List.getElem_cons_succ]
            refine wpAnyH_take (i := 14) (v := ?_) rfl (by kernel_rfl) (by kernel_rfl) (by kernel_rfl) (fun _ _ _ h => h) (Or.inl ⟨by rfl, ?_⟩) (by assumption) ?_
            rotate_left
            · intro w hSw; (try dsimp only at hSw); go_simp; try with_reducible rfl
            try simp only [Act.put, List.getElem_toArray, List.getElem_cons_zero, List.getElem_cons_succ, List.setIfInBounds_toArray, List.set_cons_zero, List.set_cons_succ]
            refine wpAnyH_take (i := 15) (v := ?_) rfl (by kernel_rfl) (by kernel_rfl) (by kernel_rfl) (fun _ _ _ h => h) (Or.inl ⟨by rfl, ?_⟩) (by assumption) ?_
            rotate_left
            · intro w hSw; (try dsimp only at hSw); go_simp; try with_reducible rfl
            try simp only [Act.put, List.getElem_toArray, List.getElem_cons_zero, List.getElem_cons_succ, List.setIfInBounds_toArray, List.set_cons_zero, List.set_cons_succ]
            refine wpAnyH_done (by kernel_rfl) ?_ _
            have RW4 := Lib.hid (show Rwd w w4 x u7 ts from ⟨RW.out.own.below bx, RW.out.anc.up bx, up_trans RW.out.below bx⟩)
            clear HK HE C1
            go_wp2_with fail
            go_ret
            rw [HR2.out]
            exact ⟨_, rfl, RW4.out.own, RW4.out.below⟩
      · obtain rfl : q = n := by omega
        have d1 : decide ((k : Int) < (m : Int)) = true := by simp; omega
        have HR2 : Hid (rws hsh a evs zs = ts) := Lib.hid (by
          rw [HR.out, List.drop_eq_getElem_cons (show k < zs.length by rw [← HM.out]; exact hkm), rws, if_pos (List.drop_eq_nil_of_le (by rw [← HN.out]; exact Nat.le_refl _))]
          simp)
        go_wp2_with fail
        go_ret
        rw [HR2.out]
        exact ⟨_, rfl, RW.out.own, RW.out.below⟩
    · obtain rfl : k = m := by omega
      have HR2 : Hid (rws hsh a evs zs = ts) := Lib.hid (by
        rw [HR.out, List.drop_eq_nil_of_le (show zs.length ≤ k by rw [← HM.out]; exact Nat.le_refl _)]
        simp [rws])
      go_wp2_with fail
      go_ret
      rw [HR2.out]
      exact ⟨_, rfl, RW.out.own, RW.out.below⟩

end Go.Proofs.YthhcopeejhhpgaaDoor
