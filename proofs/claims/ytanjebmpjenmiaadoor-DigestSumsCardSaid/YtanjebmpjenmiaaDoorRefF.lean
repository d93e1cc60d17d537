/- The other side's sum of a state: contract of blackboxref02.End. -/
import Derived.Test.YtanjebmpjenmiaaDoorRefE
import Derived.Test.YtanjebmpjenmiaaDoorShaH
namespace Go.Proofs.YtanjebmpjenmiaaDoor
open Go.RowKit Word

attribute [local go_sem ↓] shl_nat shr_nat shl_lit shr_lit shr64_nat
attribute [local go_sem] wrap_add bits_xor bits_and bits_or wrap_less bits_not wrap_byte wrap_bt to_b8

theorem OwnB.opened {B : Nat} {v : Value} {l : List UInt8} {W : World} (h : OwnB B v l W) (hl : 0 < l.length) : ∃ g cap, v = .slice (some ⟨g, 0, none⟩) l.length cap := by
  obtain ⟨h0, ⟨_, hn⟩ | ⟨g, cap, cur, hv, hr⟩⟩ := h.out
  · omega
  · exact ⟨g, cap, hv⟩

theorem St.length (s : St) : s.cells.length = 10 := rfl
theorem St.one (s : St) : ∀ v ∈ s.cells, v.oneCell' = true := by
  intro x hx; simp [St.cells, W8.cells, nums] at hx; rcases hx with h | h | h | h | h | h | h | h | h | h <;> (rw [h]; rfl)

/-- The byte 128, and j bytes 0. -/
def lead (j : Nat) : List UInt8 := 128 :: List.replicate j 0
theorem lead_length (j : Nat) : (lead j).length = 1 + j := by simp [lead]; omega
theorem lead_succ (j : Nat) : lead j ++ [0] = lead (j + 1) := by
  unfold lead
  rw [List.replicate_succ']; rfl
theorem lead_gap (len n : Nat) : lead (gap len) = padl len n 0 := by simp [lead, padl]

set_option maxHeartbeats 1600000 in
set_option maxRecDepth 100000 in
theorem rend_any (s : St) (w : World) (hsz : s.rest.size ≤ 100000) : Calls Tryd.prog 8 #[.agg s.cells.toArray] w fun e w' => e = .returned (.agg (nums .u8 s.sum).toArray) ∧ Below w.heap.size w w' := by
  have h8 := s.cell8
  have h9 := s.cell9
  have em : IntKind.u64.wrap (8 * (s.n : Int)) = ((s.n * 8 % 18446744073709551616 : Nat) : Int) := by rw [IntKind.wrap_u64]; omega
  have HM := Lib.hid (show ∀ k, padl s.rest.size s.n (k + 1) = padl s.rest.size s.n k ++ [UInt8.ofNat (r64 (s.n * 8 % 18446744073709551616) (56 - 8 * k))] from padl_succ _ _)
  have HN := Lib.hid (show ∀ k, (padl s.rest.size s.n k).length = 1 + gap s.rest.size + k from padl_length _ _)
  have HG := Lib.hid (lead_gap s.rest.size s.n)
  have HPad := Lib.hid (show s.pad = ⟨(padl s.rest.size s.n 8).toArray⟩ from rfl)
  generalize s.n * 8 % 18446744073709551616 = m at *
  generalize hP : padl s.rest.size s.n = P at *
  clear hP
  go_enter Tryd.func8, Tryd.ntmps8
  go_wp2_with fail
  go_loopw [4] (fun p wr => ∃ j : Nat, j ≤ gap s.rest.size ∧ OwnB (w.heap.size + 1 + 1) p (lead j) wr ∧ Has wr w.heap.size 26 s.cells ∧ Has wr (w.heap.size + 1) 29 (nums .u8 (zeros 32)) ∧ Below w.heap.size w wr) (fun p _ => match p with | .slice _ n _ => 64 - n | _ => 0)
  case atStart =>
    exact ⟨0, by omega, OwnB.of_block (l := [128]) (r := []) (n := 1) (Nat.le_refl _) (Has.make3 w _ _ 5 (bys [128])) rfl (by omega), ((Has.make w _ _).alloc _).alloc _, (Has.make2 w _ _ (nums .u8 (zeros 32))).alloc _, up_alloc (up_alloc (up_alloc (Below.refl _ _) _) _) _⟩
  case round =>
    obtain ⟨j, hj, hO, hA, hR, hb⟩ := hrel
    obtain ⟨g, cap, hp⟩ := hO.opened (by rw [lead_length]; omega)
    rw [lead_length] at hp
    subst hp
    have x8 := hA.at h8
    have x9 := hA.at h9
    have hg64 : gap s.rest.size < 64 := by unfold gap; omega
    have e17 : IntKind.i64.wrap ((s.rest.size : Int) + ((1 + j : Nat) : Int)) = ((s.rest.size + (1 + j) : Nat) : Int) := by rw [IntWalk.i64_in _ (by omega)]; omega
    have HO := Lib.hid hO
    have HA := Lib.hid hA
    have HR := Lib.hid hR
    have HB := Lib.hid hb
    clear hO hA hR hb h8 h9
    by_cases hlt : j < gap s.rest.size
    · have hne : ((s.rest.size : Int) + (1 + (j : Int))) % 64 ≠ 56 := by unfold gap at hlt; omega
      have HL := Lib.hid (lead_length j)
      have HZ := Lib.hid (lead_succ j)
      have HS := Lib.hid HB.out.size
      go_wp2_with (at_builtin; refine wpList_push rfl (.tmp 20) (.tmp 21) rfl (w.heap.size + 1 + 1) _ (lead j) (by rfl) (HO.out.alloc _) wr.heap.size 1 [0] (by rfl) (Has.make wr 5 (bys [0])) rfl (by omega) (by rw [HL.out]; omega) (by have := HR.out.lt; simp; omega) ?_; intro v' w' hO' hB')
      rw [HZ.out] at hO'
      obtain ⟨g', cap', hv⟩ := hO'.opened (by rw [lead_length]; omega)
      rw [lead_length] at hv
      subst hv
      go_roundw
      case rel => exact ⟨j + 1, by omega, hO', (HA.out.alloc _).below hB' (by omega), (HR.out.alloc _).below hB' (by omega), (up_alloc HB.out _).trans (hB'.mono (by omega))⟩
      case measure =>
        show 64 - (1 + (j + 1)) < 64 - (1 + j)
        omega
    · obtain rfl : j = gap s.rest.size := by omega
      have hne : ((s.rest.size : Int) + (1 + (gap s.rest.size : Int))) % 64 = 56 := by unfold gap; omega
      rw [HG.out] at HO
      go_wp2_with fail
      clear hj hlt e17 x8 x9
      go_loopw [4, 5] (fun p i wr => ∃ k : Nat, k ≤ 8 ∧ i = .int .i64 (7 - (k : Int)) ∧ OwnB (w.heap.size + 1 + 1) p (P k) wr ∧ Has wr w.heap.size 26 s.cells ∧ Has wr (w.heap.size + 1) 29 (nums .u8 (zeros 32)) ∧ Below w.heap.size w wr) (fun _ i _ => (intOf i + 1).toNat)
      case atStart => exact ⟨0, by omega, rfl, HO.out, HA.out, HR.out, HB.out⟩
      case round =>
        clear HO HA HR HB hne
        obtain ⟨k, hk, rfl, hO, hA, hR, hb⟩ := hrel
        by_cases hlt : k < 8
        · have q0 : (0 : Int) ≤ 7 - (k : Int) := by omega
          have q2 : IntKind.i64.wrap (8 * (7 - (k : Int))) = ((56 - 8 * k : Nat) : Int) := by rw [IntWalk.i64_in _ (by omega)]; omega
          have q3 : ((56 - 8 * k : Nat) : Int) ≤ 56 := by omega
          have q4 : IntKind.i64.wrap (7 - (k : Int) - 1) = 7 - ((k + 1 : Nat) : Int) := by rw [IntWalk.i64_in _ (by omega)]; omega
          have HO := Lib.hid hO
          have HA := Lib.hid hA
          have HR := Lib.hid hR
          have HB := Lib.hid hb
          have HK := Lib.hid (HM.out k)
          have HL := Lib.hid (HN.out k)
          clear hO hA hR hb
          generalize hsh : 56 - 8 * k = sh at *
          go_wp2_with (at_builtin; refine wpList_push rfl (.tmp 27) (.tmp 33) rfl (w.heap.size + 1 + 1) _ (P k) (by rfl) (HO.out.alloc _) wr.heap.size 1 [UInt8.ofNat (r64 m sh)] (by rfl) (has_one wr _) rfl (by omega) (by rw [HL.out]; omega) (by have := HR.out.lt; simp; omega) ?_; intro v' w' hO' hB')
          rw [← HK.out] at hO'
          go_roundw
          case rel => exact ⟨k + 1, by omega, by first | rfl | (congr 1; omega), hO', (HA.out.alloc _).below hB' (by omega), (HR.out.alloc _).below hB' (by omega), (up_alloc HB.out _).trans (hB'.mono (by omega))⟩
          case measure => simp [intOf]; omega
        · obtain rfl : k = 8 := by omega
          have ht := hO.text
          have HA := Lib.hid hA
          have HR := Lib.hid hR
          have HB := Lib.hid hb
          clear hO hA hR hb
          have hi := Lib.hid (show (Tryd.prog.info? 26).map (·.size) = some 10 by kernel_rfl)
          have hu := Tryd.underlying26
          have HPS := Lib.hid s.pad_size
          go_wp2_with (refine wpList_load_row rfl 26 _ rfl w.heap.size (by rfl) _ _ _ _ HA.out hu rfl (by rw [hi.out, List.size_toArray, St.length]) ?_)
          rw [← HPad.out]
          refine (radd_any s s.pad _ (by have := HPS.out; omega)).mono ?_; rintro e w2 ⟨rfl, hb2⟩
          replace HA := Lib.hid (HA.out.up hb2)
          replace HR := Lib.hid (HR.out.up hb2)
          replace HB := Lib.hid (below_nx HB.out hb2)
          clear hb2 ht
          have HSum := Lib.hid (show s.sum = outs (s.add s.pad).v 32 from rfl)
          generalize s.add s.pad = z at *
          go_wp2_with (refine wpList_store_whole rfl 26 _ _ rfl w.heap.size 26 s.cells z.cells (by rfl) (by rfl) HA.out (by rw [St.length, St.length]) (by rw [hi.out, St.length]) (St.one z) ?_; intro w3 hA3 hO3)
          have HA3 := Lib.hid hA3
          have HR3 := Lib.hid (hO3.keep (by omega) HR.out)
          have HB3 := Lib.hid (hO3.below (Nat.le_refl _) HB.out)
          have hz3 : w.heap.size + 1 < w3.heap.size := HR3.out.lt
          clear hA3 hO3 HA HR HB em
          go_loopw [7] (fun i wr => ∃ k : Nat, k ≤ 32 ∧ i = .int .i64 k ∧ Has wr w.heap.size 26 z.cells ∧ Has wr (w.heap.size + 1) 29 (nums .u8 (zeros 32)) ∧ Has wr w3.heap.size 29 (nums .u8 (outs z.v k ++ zeros (32 - k))) ∧ Below w.heap.size w wr) (fun i _ => 32 - (intOf i).toNat)
          case atStart => exact ⟨0, by omega, rfl, HA3.out.alloc _, HR3.out.alloc _, Has.make w3 _ (nums .u8 (zeros 32)), up_alloc HB3.out _⟩
          case round =>
            clear HA3 HR3 HB3
            obtain ⟨k, hk, rfl, hA, hR, hW, hb⟩ := hrel
            by_cases hlt : k < 32
            · have e1 : (k : Int) / 4 = ((k / 4 : Nat) : Int) := by omega
              have e2 : 24 - 8 * ((k : Int) % 4) = ((24 - k % 4 * 8 : Nat) : Int) := by omega
              have n1 : ((k / 4 : Nat) : Int) < 8 := by omega
              have hf := hW.free k
              have hc := hW.at (outs_at z.v k hlt)
              have hd := hA.at (i := k / 4) (v := .int .u32 ([z.v.a, z.v.b, z.v.c, z.v.d, z.v.e, z.v.f, z.v.g, z.v.h].getD (k / 4) 0 : Nat)) (by
                have h8 : k / 4 < 8 := by omega
                generalize k / 4 = j at h8
                match j, h8 with
                | 0, _ => rfl
                | 1, _ => rfl
                | 2, _ => rfl
                | 3, _ => rfl
                | 4, _ => rfl
                | 5, _ => rfl
                | 6, _ => rfl
                | 7, _ => rfl)
              have HZ := Lib.hid (outs_set z.v k hlt)
              generalize [z.v.a, z.v.b, z.v.c, z.v.d, z.v.e, z.v.f, z.v.g, z.v.h].getD (k / 4) 0 = x at *
              generalize k / 4 = j at *
              generalize 24 - k % 4 * 8 = sh at *
              have HA := Lib.hid hA
              have HR := Lib.hid hR
              have HW := Lib.hid hW
              have HB := Lib.hid hb
              clear hA hR hW hb
              go_wp2_with fail
              go_roundw
              case rel =>
                exact ⟨k + 1, by omega, by go_num, HA.out.other (p := ⟨w3.heap.size, k, none⟩) (by simp; omega) _, HR.out.other (p := ⟨w3.heap.size, k, none⟩) (by simp; omega) _, (congrArg (Has _ w3.heap.size _) HZ.out).mp (HW.out.set k _), HB.out.setCell (p := ⟨w3.heap.size, k, none⟩) (by simp; omega) _⟩
              case measure => simp [intOf]; omega
            · obtain rfl : k = 32 := by omega
              have hu2 := Tryd.underlying29
              have hi2 : (Tryd.prog.info? 29).map (·.size) = some 32 := by kernel_rfl
              have HA := Lib.hid hA
              have HR := Lib.hid hR
              have HW := Lib.hid hW
              have HB := Lib.hid hb
              clear hA hR hW hb
              go_wp2_with (first
                | (refine wpList_load_row rfl 29 _ rfl w3.heap.size (by rfl) _ _ _ _ HW.out hu2 rfl (by rw [hi2]; simp [nums, outs, zeros]) ?_)
                | (refine wpList_store_whole rfl 29 _ _ rfl (w.heap.size + 1) 29 (nums .u8 (zeros 32)) (nums .u8 (outs z.v 32)) (by rfl) (by rfl) HR.out (by simp [nums, outs, zeros]) (by rw [hi2]; simp [nums, outs]) (nums_one _ _) ?_; intro w4 hF hO4))
              refine bodyPost_ret_by (results_cell_row Tryd.results8 _ _ _ _ _ _ _ (by rfl) hF hu2 rfl (by rw [hi2]; simp [nums, outs])) rfl ⟨by rw [HSum.out], hO4.below (by omega) HB.out⟩
end Go.Proofs.YtanjebmpjenmiaaDoor
