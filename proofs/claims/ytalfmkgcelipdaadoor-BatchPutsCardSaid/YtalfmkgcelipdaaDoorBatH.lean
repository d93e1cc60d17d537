/- A body, read: the walk of batch.read. -/
import Derived.Test.YtalfmkgcelipdaaDoorBatG
namespace Go.Proofs.YtalfmkgcelipdaaDoor
open Go.RowKit Wire Evt Bat

theorem OwnE.set {B b i : Nat} {v x : Value} {l : List Ev} {w : World} {t : TypeId} {L : List Value} (h : OwnE B v l w) (hb : Has w b t L) (hB : b < B) : OwnE B v l (w.setCell ⟨b, i, none⟩ x) :=
  h.only (g := b) ((Only2.refl w b b).set (Or.inl rfl) x) hB

theorem OwnE.mono_base {B B' : Nat} {v : Value} {l : List Ev} {w : World} (h : OwnE B v l w) (hb : B' ≤ B) : OwnE B' v l w := by
  obtain ⟨h0, h1 | ⟨b, cap, cur, hv, hg, hr⟩⟩ := h.out
  · exact ⟨⟨h0, Or.inl h1⟩⟩
  · exact ⟨⟨h0, Or.inr ⟨b, cap, cur, hv, Nat.le_trans hb hg, hr⟩⟩⟩

theorem number_ok (g : Nat) (l r : List UInt8) (n : Nat) (hl : l.length ≤ 20000) (h : numO l = some (n, r)) (w : World) (hg : Has w g 79 [.string ⟨l.toArray⟩]) :
    Calls Tryd.prog 54 #[.pointer (some ⟨g, 0, none⟩)] w fun e w' => e = .returned (.int .u64 (n : Nat)) ∧ Moved w w' g r := by
  obtain ⟨_, _, h1, h2, h3⟩ := numO_back h
  have := number_yes g l hl h3 w hg
  rwa [h1, h2] at this
theorem numO_len {l r : List UInt8} {n : Nat} (h : numO l = some (n, r)) : r.length ≤ l.length := by
  have := (numO_back h).1
  rw [← this, List.length_append]; omega

set_option maxHeartbeats 8000000 in
set_option maxRecDepth 100000 in
theorem bread_any (l : List UInt8) (hl : l.length ≤ 20000) (w : World) :
    Calls Tryd.prog 30 #[.string ⟨l.toArray⟩] w fun e w' => BreadPost l w e w' := by
  have hmf : ∀ (fn : Fn) (first cap : Array Value) (w : World), (Instr.makeFunc fn first cap).run Tryd.prog w = .ok (.func fn first cap) w := fun _ _ _ _ => rfl
  have hz : zbt.length = 34 := btc_length _ _ (by simp)
  have hi := info_batch
  have hid := info_digest
  have hu := Tryd.underlying27
  have R0 := Lib.hid (Rd.start w l)
  go_enter_defers Tryd.func30, Tryd.ntmps30
  go_wp2_with fail
  generalize hw1 : ((w.alloc (Obj.cells _ _)).alloc _).alloc _ = w1
  replace R0 : Hid (Rd w w1 zbt l) := by rw [← hw1]; exact R0
  clear hw1
  by_cases h32 : l.length < 32
  · refine (sum_no _ l h32 w1 R0.out.R).mono ?_; rintro e w2 ⟨rfl, hO⟩
    exact door_panic (w := w) _ (R0.out.lost hO) hz rfl rfl (fun w' hb => bread_bad (rdB_short h32) hb)
  have h32' : 32 ≤ l.length := by omega
  refine (sum_yes _ l h32' hl w1 R0.out.R).mono ?_; rintro e w2 ⟨rfl, hM⟩
  have R1 := Lib.hid (R0.out.next hM)
  clear hM R0
  have hpl : (l.take 32).length = 32 := by rw [List.length_take]; omega
  obtain ⟨p, hp⟩ : ∃ p, p = l.take 32 := ⟨_, rfl⟩
  have HP := Lib.hid hp
  rw [← hp] at hpl ⊢
  clear hp
  go_wp2_with (refine wpList_store_part rfl 25 _ _ rfl w.heap.size 2 27 zbt (bys p) (by rfl) (by rfl) R1.out.B (by rw [bys_length, hpl, hz]; decide) (by rw [hid, bys_length, hpl]) (bys_one p) ?_; intro w3 hF hO)
  rw [show bys p = bys p from rfl, bys_length, hpl, zbt, btc_prev 0 (.slice none 0 0) (by simp)] at hF
  have hb1 := btc_length 0 (.slice none 0 0) hpl
  have R2 := Lib.hid (R1.out.only hF hO)
  clear hF hO R1
  have hdl : (l.drop 32).length ≤ 20000 := by rw [List.length_drop]; omega
  cases hn1 : numO (l.drop 32) with
  | none =>
    refine (number_no _ _ hdl (numO_no hn1) w3 R2.out.R).mono ?_; rintro e w4 ⟨rfl, hO⟩
    exact door_panic (w := w) _ (R2.out.lost hO) hb1 rfl rfl (fun w' hb => bread_bad (rdB_first h32' hn1) hb)
  | some q =>
  obtain ⟨first, l1⟩ := q
  have hl1 := Nat.le_trans (numO_len hn1) hdl
  refine (number_ok _ _ _ _ hdl hn1 w3 R2.out.R).mono ?_; rintro e w4 ⟨rfl, hM⟩
  have R3 := Lib.hid (R2.out.next hM)
  clear hM R2
  have q0 := R3.out.B.at (i := 0) rfl
  have q1 := R3.out.B.free 0
  go_wp2_with fail
  clear q0 q1
  have R4 : Hid (Rd w _ (btc first (.slice none 0 0) p) l1) := Lib.hid (R3.out.set 0 (.int .u64 (first : Nat)))
  generalize w4.setCell ⟨w.heap.size, 0, none⟩ (.int .u64 (first : Nat)) = w5 at *
  clear R3
  have hb2 := btc_length first (.slice none 0 0) hpl
  cases hn2 : numO l1 with
  | none =>
    refine (number_no _ _ hl1 (numO_no hn2) w5 R4.out.R).mono ?_; rintro e w6 ⟨rfl, hO⟩
    exact door_panic (w := w) _ (R4.out.lost hO) hb2 rfl rfl (fun w' hb => bread_bad (rdB_num h32' hn1 hn2) hb)
  | some q =>
  obtain ⟨many, l2⟩ := q
  have hl2 := Nat.le_trans (numO_len hn2) hl1
  refine (number_ok _ _ _ _ hl1 hn2 w5 R4.out.R).mono ?_; rintro e w6 ⟨rfl, hM⟩
  have R5 := Lib.hid (R4.out.next hM)
  clear hM R4
  go_wp2_with fail
  by_cases h256 : 256 < many
  · refine (row_many _ many h256 w6).mono ?_; rintro e w7 ⟨rfl, hO⟩
    exact door_panic (w := w) _ (R5.out.lost hO) hb2 rfl rfl (fun w' hb => bread_bad (rdB_many h32' hn1 hn2 h256) hb)
  have h256' : many ≤ 256 := by omega
  cases hk : evK many l2 with
  | none =>
    refine (row_no _ many _ hl2 hk h256' w6 R5.out.R).mono ?_; rintro e w7 ⟨rfl, hO⟩
    exact door_panic (w := w) _ (R5.out.lost hO) hb2 rfl rfl (fun w' hb => bread_bad (rdB_row h32' hn1 hn2 h256' hk) hb)
  | some q =>
  obtain ⟨evs, left⟩ := q
  have hend := rdB_end h32' hn1 hn2 h256' hk
  have hseq := (evK_back hk).2
  have hel := evK_length hk
  have hsz6 := R5.out.below.size
  refine (row_yes _ many _ left evs hl2 hk h256' w6 R5.out.R).mono ?_; rintro e w7 ⟨v, rfl, hO, hM⟩
  have hlt6 := R5.out.R.lt
  have R6 := Lib.hid (R5.out.next hM)
  clear hM R5 hn1 hn2 hk
  obtain ⟨A, n, cap, rfl, hn, hcap, hsl⟩ := hO.opened
  have HN := Lib.hid hn
  have HE := Lib.hid hel
  have HS := Lib.hid hsl
  clear hn hel hsl
  have O6 := Lib.hid hO
  have q0 := R6.out.B.at (i := 1) rfl
  have q1 := R6.out.B.free 1
  have q2 := R6.out.R.at (i := 0) rfl
  clear hO
  have R7 : Hid (Rd w _ (btc first (.slice A n cap) p) left) := Lib.hid (R6.out.set 1 (.slice A n cap))
  have O7 := Lib.hid (O6.out.set (i := 1) (x := .slice A n cap) R6.out.B (by omega))
  have HD := Lib.hid hend
  have hb3 := btc_length first (.slice A n cap) hpl
  clear hend
  by_cases hleft : left = []
  · subst hleft
    have z := text_yes (s := ⟨([] : List UInt8).toArray⟩) rfl
    go_wp2_with (refine wpList_load_wanted (by rfl) 27 _ rfl w.heap.size (by rfl) _ _ _ _ R7.out.B hu rfl (by rw [hi, List.size_toArray, hb3]) ?_)
    clear q0 q1 q2 z
    generalize hw8 : w7.setCell ⟨w.heap.size, 1, none⟩ (.slice A n cap) = w8 at *
    have hsl8 : EvSl w8 A evs := by
      obtain ⟨A', n', cap', he, _, _, hs⟩ := O7.out.opened
      injection he with hA
      subst hA
      exact hs
    refine (bis_any first evs p hseq A n cap HN.out hcap (by rw [HE.out]; omega) w8 hsl8).mono ?_; rintro e w9 ⟨rfl, b9⟩
    have R8 := Lib.hid (R7.out.up b9)
    have O8 := Lib.hid (show OwnE w6.heap.size (.slice A n cap) evs w9 from ⟨own_below O7.out.out b9⟩)
    clear b9 R6 O6 R7 O7 hw8 hsl8
    cases hB : isB first evs with
    | false =>
      go_wp2_with fail
      refine (must_no _).mono ?_; rintro e wa ⟨rfl, rfl⟩
      exact door_panic (w := w) _ R8.out.plain hb3 rfl rfl (fun w' hb => bread_bad (by rw [HD.out, if_neg (by simp [hB])]) hb)
    | true =>
      go_wp2_with fail
      refine (must_yes _).mono ?_; rintro e wa ⟨rfl, rfl⟩
      have e1 := R8.out.E.at (i := 0) rfl
      go_wp2_with (first
        | (refine wpList_load_row rfl 27 _ rfl w.heap.size (by rfl) _ _ _ _ R8.out.B hu rfl (by rw [hi, List.size_toArray, hb3]) ?_)
        | (refine wpList_store_whole rfl 27 _ _ rfl w.heap.size 27 _ (btc first (.slice A n cap) p) (by rfl) (by rfl) R8.out.B rfl (by rw [hi, hb3]) (btc_one _ _ _ _ _) ?_; intro wb hF hO; have f1 := (hO.keep (by omega) R8.out.E).at (i := 0) rfl; have f2 := (hO.keep (by omega) R8.out.E).free 0))
      have RP : Rp w _ (btc first (.slice A n cap) p) := ⟨hF.other (p := ⟨w.heap.size + 1, 0, none⟩) (by simp) _, (hO.keep (by omega) R8.out.E).set 0 (.int .i64 0), (hO.below (Nat.le_refl _) R8.out.below).setCell (p := ⟨w.heap.size + 1, 0, none⟩) (by simp) (.int .i64 0)⟩
      refine door_plain (w := w) _ RP hb3 rfl rfl ⟨RP.below, ?_⟩
      rw [HD.out, if_pos (by simp [hB])]
      refine ⟨_, by rw [HP.out], ?_⟩
      have h9 := O8.out.only (g := w.heap.size) ⟨Nat.le_of_eq hO.size.symm, fun h1 _ k => hO.keep h1 k, fun h1 _ _ k => hO.below h1 k⟩ (by omega)
      exact (h9.set (i := 0) (x := .int .i64 0) (hO.keep (by omega) R8.out.E) (by omega)).mono_base hsz6
  · have z := text_no (s := ⟨left.toArray⟩) (by rw [text_list]; exact List.length_pos_iff.2 hleft)
    have hr : rdB l = none := by rw [HD.out, if_neg (by simp [hleft])]
    go_wp2_with fail
    refine (must_no _).mono ?_; rintro e w9 ⟨rfl, rfl⟩
    exact door_panic (w := w) _ R7.out.plain hb3 rfl rfl (fun w' hb => bread_bad hr hb)

end Go.Proofs.YtalfmkgcelipdaaDoor
