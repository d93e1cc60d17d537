/- The rounds: contract of digest.changed. -/
import Derived.Test.YtanjebmpjenmiaaDoorShaC
namespace Go.Proofs.YtanjebmpjenmiaaDoor
open Go.RowKit Word

attribute [local go_sem ↓] shl_nat shr_nat shl_lit shr_lit
attribute [local go_sem] wrap_add bits_xor bits_and bits_or wrap_less bits_not wrap_byte wrap_bt
attribute [local go_sem ↓] Go.wp_at_zero Go.wp_at_succ

theorem below_step {w wx : World} {g1 t : Nat} {x : Value} {A B : Obj} (h : Below w.heap.size w wx) (hz : w.heap.size ≤ g1) : Below w.heap.size w ((((wx.setCell ⟨g1, t, none⟩ x).alloc A).alloc B).drew) :=
  (up_alloc (up_alloc (h.setCell (p := ⟨g1, t, none⟩) hz x) A) B).drew

set_option maxHeartbeats 1600000 in
set_option maxRecDepth 100000 in
theorem changed_any (v : W8) (s : ByteArray) (hs : s.size = 64) (w : World) (hT : Tab w) :
    Calls Tryd.prog 24 #[.agg v.cells.toArray, .string s] w fun e w' => e = .returned (.agg (comp v s.data.toList).cells.toArray) ∧ Below w.heap.size w w' := by
  have HT := Lib.hid hT
  clear hT
  have HS := Lib.hid hs
  clear hs
  go_enter Tryd.func24, Tryd.ntmps24
  go_wp2_with fail
  go_step3
  go_wp2_with fail
  refine (wordsOf_any s HS.out _).mono ?_; rintro e w1 ⟨rfl, hb1⟩
  have hA : Has w1 w.heap.size 23 v.cells := ((Has.make w 23 v.cells).alloc _).up hb1
  have hR : Has w1 (w.heap.size + 1) 23 (nums .u32 (zeros 8)) := (Has.make2 w _ 23 (nums .u32 (zeros 8))).up hb1
  have hB : Below w.heap.size w w1 := (up_alloc (up_alloc (Below.refl _ _) _) _).trans (hb1.mono (by simp; omega))
  have hz : w.heap.size + 2 ≤ w1.heap.size := by have := hb1.size; simp at this; omega
  clear hb1
  have hi : (Tryd.prog.info? 49).map (·.size) = some 64 := by kernel_rfl
  have HA := Lib.hid hA
  have HR := Lib.hid hR
  clear hA hR
  go_wp2_with (refine wpList_store_whole rfl 49 _ _ rfl w1.heap.size 49 (nums .u32 (zeros 64)) _ (by rfl) (by rfl) (Has.make w1 _ _) (by simp [nums, firsts, zeros]) (by rw [hi]; simp [nums, firsts, zeros]) (nums_one _ _) ?_; intro w2 hW hO)
  have hA2 := hO.keep (by omega) (HA.out.alloc _)
  have hR2 := hO.keep (by omega) (HR.out.alloc _)
  have hB2 := hO.below (B := w.heap.size) (a := w) (by omega) (hB.alloc hB.size _)
  have hz2 : w1.heap.size < w2.heap.size := hW.lt
  clear hO HA HR hB
  have c0 : w2.cell? ⟨w.heap.size, 0, none⟩ = some (.int .u32 (v.a : Nat)) := hA2.at rfl
  have c1 : w2.cell? ⟨w.heap.size, 1, none⟩ = some (.int .u32 (v.b : Nat)) := hA2.at rfl
  have c2 : w2.cell? ⟨w.heap.size, 2, none⟩ = some (.int .u32 (v.c : Nat)) := hA2.at rfl
  have c3 : w2.cell? ⟨w.heap.size, 3, none⟩ = some (.int .u32 (v.d : Nat)) := hA2.at rfl
  have c4 : w2.cell? ⟨w.heap.size, 4, none⟩ = some (.int .u32 (v.e : Nat)) := hA2.at rfl
  have c5 : w2.cell? ⟨w.heap.size, 5, none⟩ = some (.int .u32 (v.f : Nat)) := hA2.at rfl
  have c6 : w2.cell? ⟨w.heap.size, 6, none⟩ = some (.int .u32 (v.g : Nat)) := hA2.at rfl
  have c7 : w2.cell? ⟨w.heap.size, 7, none⟩ = some (.int .u32 (v.h : Nat)) := hA2.at rfl
  have HA := Lib.hid hA2
  have HR := Lib.hid hR2
  have HW := Lib.hid hW
  clear hA2 hR2 hW
  go_quiet (fail)
  clear c0 c1 c2 c3 c4 c5 c6 c7
  generalize w1.heap.size = g1 at *
  replace HA := Lib.hid (HA.out.drewN nq)
  replace HR := Lib.hid (HR.out.drewN nq)
  replace HW := Lib.hid (HW.out.drewN nq)
  replace hB2 := below_drewN hB2 nq
  replace hz2 : g1 < (w2.drewN nq).heap.size := hz2
  generalize w2.drewN nq = w3 at *
  go_wp2_with fail
  go_step3
  go_wp2_with fail
  go_loopw [6, 7, 8, 9, 10, 11, 12, 13, 14, 15, 16, 17, 18] (fun a b c d e f g h i _ _ _ _ wr => ∃ t : Nat, t ≤ 64 ∧ i = .int .i64 t ∧ a = .int .u32 ((rounds v (wordAt s.data.toList) t).a : Nat) ∧ b = .int .u32 ((rounds v (wordAt s.data.toList) t).b : Nat) ∧ c = .int .u32 ((rounds v (wordAt s.data.toList) t).c : Nat) ∧ d = .int .u32 ((rounds v (wordAt s.data.toList) t).d : Nat)
      ∧ e = .int .u32 ((rounds v (wordAt s.data.toList) t).e : Nat) ∧ f = .int .u32 ((rounds v (wordAt s.data.toList) t).f : Nat) ∧ g = .int .u32 ((rounds v (wordAt s.data.toList) t).g : Nat) ∧ h = .int .u32 ((rounds v (wordAt s.data.toList) t).h : Nat)
      ∧ Has wr w.heap.size 23 v.cells ∧ Has wr (w.heap.size + 1) 23 (nums .u32 (zeros 8)) ∧ Has wr g1 49 (arr s.data.toList t) ∧ Below w.heap.size w wr)
      (fun _ _ _ _ _ _ _ _ i _ _ _ _ _ => 64 - (intOf i).toNat)
  case atStart => exact ⟨0, by omega, rfl, rfl, rfl, rfl, rfl, rfl, rfl, rfl, rfl, HA.out, HR.out, HW.out, hB2⟩
  case round =>
    clear HA HR HW hB2 hz2
    obtain ⟨t, ht, rfl, rfl, rfl, rfl, rfl, rfl, rfl, rfl, rfl, hA, hR, hW, hb⟩ := hrel
    have HA := Lib.hid hA
    have HR := Lib.hid hR
    have HW := Lib.hid hW
    have HB := Lib.hid hb
    clear hA hR hW hb
    have HN := Lib.hid (show rounds v (wordAt s.data.toList) (t + 1) = rnd (rounds v (wordAt s.data.toList) t) (kc t) (wordAt s.data.toList t) from rfl)
    generalize hu : rounds v (wordAt s.data.toList) t = u at *
    have HU := Lib.hid hu
    clear hu
    obtain ⟨ua, ub, uc, ud, ue, uf, ug, uh⟩ := u
    by_cases hlt : t < 64
    · have h64 : ((t : Int) == 64) = false := by simp; omega
      go_upto_block 2 with (fail)
      go_cut [15, 16] from 37 to 126 (fun _ _ wc => Has wc w.heap.size 23 v.cells ∧ Has wc (w.heap.size + 1) 23 (nums .u32 (zeros 8)) ∧ Has wc g1 49 (arr s.data.toList (t + 1)) ∧ Below w.heap.size w wc)
      case first =>
        by_cases h16 : t < 16
        · have hd : decide ((16 : Int) ≤ (t : Int)) = false := by simp; omega
          go_wp2_with fail
          go_meet
          exact ⟨HA.out, HR.out, by rw [arr_early _ _ h16]; exact HW.out, HB.out⟩
        · have hd : decide ((16 : Int) ≤ (t : Int)) = true := by simp; omega
          have t0 : (0 : Int) ≤ (t : Int) := by omega
          have t1 : (0 : Int) ≤ (t : Int) - 15 := by omega
          have t2 : (0 : Int) ≤ (t : Int) - 2 := by omega
          have t3 : (t : Int) - 15 < 64 := by omega
          have t4 : (t : Int) - 2 < 64 := by omega
          have e1 := IntWalk.i64_in ((t : Int) - 15) (by omega)
          have e2 := IntWalk.i64_in ((t : Int) - 2) (by omega)
          have n1 : ((t : Int) - 15).toNat = t - 15 := by omega
          have n2 : ((t : Int) - 2).toNat = t - 2 := by omega
          have x1 := HW.out.at (arr_at s.data.toList t (t - 15) (by omega) (by omega))
          have x2 := HW.out.at (arr_at s.data.toList t (t - 2) (by omega) (by omega))
          go_wp2_with fail
          go_quiet (fail)
          clear n1 n2 x1 x2 e1 e2 t1 t2 t3 t4
          replace HA := Lib.hid (HA.out.drewN nq)
          replace HR := Lib.hid (HR.out.drewN nq)
          replace HW := Lib.hid (HW.out.drewN nq)
          replace HB := Lib.hid (below_drewN HB.out nq)
          generalize wr.drewN nq = wx at *
          have t5 : (t : Int) < 64 := by omega
          have e1 : IntKind.i64.wrap ((t : Int) - 16) = ((t - 16 : Nat) : Int) := by rw [IntWalk.i64_in _ (by omega)]; omega
          have e2 : IntKind.i64.wrap ((t : Int) - 7) = ((t - 7 : Nat) : Int) := by rw [IntWalk.i64_in _ (by omega)]; omega
          have t1 : (0 : Int) ≤ ((t - 16 : Nat) : Int) := by omega
          have t2 : (0 : Int) ≤ ((t - 7 : Nat) : Int) := by omega
          have t3 : ((t - 16 : Nat) : Int) < 64 := by omega
          have t4 : ((t - 7 : Nat) : Int) < 64 := by omega
          have x1 := arr_at s.data.toList t (t - 16) (by omega) (by omega)
          have x2 := arr_at s.data.toList t (t - 7) (by omega) (by omega)
          have x3 := arr_some s.data.toList t (by omega) (by omega)
          have HX := Lib.hid (wordAt_next s.data.toList t (by omega))
          have HZ := Lib.hid (arr_set s.data.toList t (by omega) (by omega))
          have z1 : t - 16 ≠ t := by omega
          have z2 : t - 7 ≠ t := by omega
          generalize t - 16 = i16 at *
          generalize t - 7 = i7 at *
          generalize wordAt s.data.toList i16 = b16 at *
          generalize wordAt s.data.toList (t - 15) = b15 at *
          generalize wordAt s.data.toList i7 = b7 at *
          generalize wordAt s.data.toList (t - 2) = b2 at *
          generalize arr s.data.toList t = L at *
          have x4 := HW.out.free t
          have HK := Lib.hid (show ∀ (W : World) (x : Value), Has W g1 49 (L.set t x) → W.cell? ⟨g1, i16, none⟩ = some (.int .u32 (b16 : Nat)) ∧ W.cell? ⟨g1, i7, none⟩ = some (.int .u32 (b7 : Nat)) from
            fun W x h => ⟨h.at (by rw [List.getElem?_set_ne (Ne.symm z1)]; exact x1), h.at (by rw [List.getElem?_set_ne (Ne.symm z2)]; exact x2)⟩)
          replace x1 := HW.out.at x1
          replace x2 := HW.out.at x2
          replace x3 := HW.out.at x3
          have y1 := World.new_ne wx _ x3
          have y2 : g1 < wx.heap.size := HW.out.lt
          have y3 : g1 < wx.heap.size + 1 := by omega
          go_wp2_with fail
          go_region_held3 (fun W => W.cell? ⟨g1, i16, none⟩ = some (.int .u32 (b16 : Nat)) ∧ W.cell? ⟨g1, i7, none⟩ = some (.int .u32 (b7 : Nat)))
            (first | (go_keep; done) | exact HK.out _ _ (((HW.out.set t _).alloc _).alloc _).drew)
            (first
              | (go_at_call_of 29 (Value.int IntKind.u32 b15); refine (turned_7_18 b15 _ _ _ ?_ ?_).mono ?_; (simp [*]); (simp [*]); rintro e w' ⟨rfl, rfl⟩)
              | (go_at_call_of 29 (Value.int IntKind.u32 b2); refine (turned_17_19 b2 _ _ _ ?_ ?_).mono ?_; (simp [*]); (simp [*]); rintro e w' ⟨rfl, rfl⟩))
          all_goals go_wp2_with fail
          all_goals go_meet
          all_goals
            have hZ := HZ.out
            rw [HX.out] at hZ
            exact ⟨(((HA.out.other (p := ⟨g1, t, none⟩) (show w.heap.size ≠ g1 by omega) _).alloc _).alloc _).drew, (((HR.out.other (p := ⟨g1, t, none⟩) (show w.heap.size + 1 ≠ g1 by omega) _).alloc _).alloc _).drew, (congrArg (Has _ g1 _) hZ).mp (((HW.out.set t _).alloc _).alloc _).drew, below_step HB.out (by omega)⟩
      case rest =>
        obtain ⟨hA, hR, hW, hb⟩ := hcut
        have x1 := hW.at (arr_at s.data.toList (t + 1) t (by omega) (by omega))
        have x2 : wc.cell? ⟨0, t, none⟩ = some (.int .u32 (kc t : Nat)) := (hb.cell (p := ⟨0, t, none⟩) (block_lt_of_cell (HT.out t hlt))).trans (HT.out t hlt)
        have y1 := World.new_ne wc _ x1
        have y2 := World.new_ne wc _ x2
        have t5 : (t : Int) < 64 := by omega
        have t6 : (0 : Int) ≤ (t : Int) := by omega
        replace HA := Lib.hid hA
        replace HR := Lib.hid hR
        replace HW := Lib.hid hW
        replace HB := Lib.hid hb
        clear hA hR hW hb
        generalize hw0 : wordAt s.data.toList t = wt at *
        have HW0 := Lib.hid hw0
        clear hw0
        generalize hk0 : kc t = kt at *
        have HK0 := Lib.hid hk0
        clear hk0
        go_wp2_with fail
        go_region_held3 (fun W => W.cell? ⟨g1, t, none⟩ = some (.int .u32 (wt : Nat)) ∧ W.cell? ⟨0, t, none⟩ = some (.int .u32 (kt : Nat)))
            (go_keep)
            (first
              | (go_at_call_of 29 (Value.int IntKind.u32 ue); refine (turned_6_11_25 ue _ _ _ ?_ ?_ ?_).mono ?_; (simp [*]); (simp [*]); (simp [*]); rintro e w' ⟨rfl, rfl⟩))
        go_wp2_with fail
        refine (turned_2_13_22 ua _ _ _ ?_ ?_ ?_).mono ?_
        · simp [*]
        · simp [*]
        · simp [*]
        rintro e w' ⟨rfl, rfl⟩
        clear x1 x2
        go_wp2_with fail
        go_roundw
        case rel =>
          refine ⟨t + 1, by omega, by go_num, ?_, ?_, ?_, ?_, ?_, ?_, ?_, ?_, ((HA.out.alloc _).alloc _).drew, ((HR.out.alloc _).alloc _).drew, ((HW.out.alloc _).alloc _).drew, (up_alloc (up_alloc HB.out _) _).drew⟩
          all_goals (rw [HN.out]; rfl)
        case measure => simp [intOf]; omega
    · obtain rfl : t = 64 := by omega
      have hA := HA.out
      have c0 : wr.cell? ⟨w.heap.size, 0, none⟩ = some (.int .u32 (v.a : Nat)) := hA.at rfl
      have c1 : wr.cell? ⟨w.heap.size, 1, none⟩ = some (.int .u32 (v.b : Nat)) := hA.at rfl
      have c2 : wr.cell? ⟨w.heap.size, 2, none⟩ = some (.int .u32 (v.c : Nat)) := hA.at rfl
      have c3 : wr.cell? ⟨w.heap.size, 3, none⟩ = some (.int .u32 (v.d : Nat)) := hA.at rfl
      have c4 : wr.cell? ⟨w.heap.size, 4, none⟩ = some (.int .u32 (v.e : Nat)) := hA.at rfl
      have c5 : wr.cell? ⟨w.heap.size, 5, none⟩ = some (.int .u32 (v.f : Nat)) := hA.at rfl
      have c6 : wr.cell? ⟨w.heap.size, 6, none⟩ = some (.int .u32 (v.g : Nat)) := hA.at rfl
      have c7 : wr.cell? ⟨w.heap.size, 7, none⟩ = some (.int .u32 (v.h : Nat)) := hA.at rfl
      clear hA
      have hi8 : (Tryd.prog.info? 23).map (·.size) = some 8 := by kernel_rfl
      have hu8 := Tryd.underlying23
      go_wp2_with (refine wpList_store_whole rfl 23 _ _ rfl (w.heap.size + 1) 23 (nums .u32 (zeros 8)) (v.plus ⟨ua, ub, uc, ud, ue, uf, ug, uh⟩).cells (by rfl) (by rfl) HR.out (by rfl) (by rw [hi8]; rfl) (nums_one _ _) ?_; intro w4 hF hO4)
      rw [Exit.noGoto_ret]
      refine bodyPost_ret_by (results_cell_row Tryd.results24 _ _ _ _ _ _ _ (by rfl) hF hu8 rfl (by rw [hi8]; rfl)) rfl ⟨?_, hO4.below (by omega) HB.out⟩
      unfold comp
      rw [HU.out]
end Go.Proofs.YtanjebmpjenmiaaDoor
