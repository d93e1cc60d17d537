/- Pending writes done, one behind the other; Flush. -/
import Derived.Test.YtihajcjfppmfjaaSecG
namespace Go.Proofs.Ytihajcjfppmfjaa.Sec

/-- How far it has got. -/
def prog (n : Nat) (L : List UInt8) (ps : List (Nat × List UInt8)) (f k : Nat) : List UInt8 := if k < ps.length then sets n L (ps.take k) else torn n L ps f

theorem prog_zero (n : Nat) (L : List UInt8) (ps : List (Nat × List UInt8)) (f : Nat) : prog n L ps f 0 = L := by
  unfold prog
  cases ps with
  | nil => rfl
  | cons p ps => rfl

theorem prog_mid {n : Nat} {L : List UInt8} {ps : List (Nat × List UInt8)} {f k : Nat} {p : Nat × List UInt8} (hp : ps[k]? = some p) (hk : k + 1 < ps.length) : lay (prog n L ps f k) (p.1 * n) p.2 = prog n L ps f (k + 1) := by
  unfold prog
  rw [if_pos hk, if_pos (by omega), List.take_add_one, hp, Option.toList_some, sets_snoc]

theorem prog_end {n : Nat} {L : List UInt8} {ps : List (Nat × List UInt8)} {f k : Nat} {p : Nat × List UInt8} (hp : ps[k]? = some p) (hk : k + 1 = ps.length) : lay (prog n L ps f k) (p.1 * n) (p.2.take f) = prog n L ps f (k + 1) := by
  unfold prog
  rw [if_pos (show k < ps.length by omega), if_neg (show ¬ k + 1 < ps.length by omega)]
  have h : ps.take (k + 1) = ps := List.take_of_length_le (by omega)
  rw [List.take_add_one, hp, Option.toList_some] at h
  have e := torn_snoc n L (ps.take k) p f
  rw [h] at e
  exact e.symm

theorem prog_last (n : Nat) (L : List UInt8) (ps : List (Nat × List UInt8)) (f : Nat) : prog n L ps f ps.length = torn n L ps f := by
  unfold prog
  rw [if_neg (Nat.lt_irrefl _)]

end Go.Proofs.Ytihajcjfppmfjaa.Sec
namespace Go.Proofs.Ytihajcjfppmfjaa
open Go.RowKit Sec

/-- Where the writes have got to. -/
structure Stl (F G : Nat → Prop) (w wr : World) (d : Nat) (D : Dk) (T : List (List UInt8)) (gl gt : Nat) (v0 : Value) (fs0 : List Value) (A : Option Addr) (ps : List (Nat × List UInt8)) (fs : List Value) (X : List UInt8) : Prop where
  dsk : DskAt F wr d { D with L := X } T gl gt v0 fs0
  row : RowW wr A fs
  wrs : Wrs G wr D.size gt ps fs
  save : Save F w wr
  len : X.length = D.many * D.size

theorem Stl.step {F G : Nat → Prop} {w wr : World} {d : Nat} {D : Dk} {T : List (List UInt8)} {gl gt : Nat} {v0 : Value} {fs0 : List Value} {A : Option Addr} {ps : List (Nat × List UInt8)} {fs : List Value} {X : List UInt8} (h : Stl F G w wr d D T gl gt v0 fs0 A ps fs X)
    (o : Nat) (b : List UInt8) (hb : o + b.length ≤ D.many * D.size) {Y : List UInt8} (hY : lay X o b = Y) : Stl F G w (wr.setCells gl o (bys b)) d D T gl gt v0 fs0 A ps fs Y := by
  subst hY
  have s := Save.row wr gl o (bys b)
  refine ⟨h.dsk.laid (by show _ ≤ X.length; rw [h.len]; exact hb), ?_, h.wrs.one s h.dsk.hL (by decide) (Or.inl (by decide)), h.save.setCells _ _ (Or.inl h.dsk.fl), ?_⟩
  · exact h.row.save s (fun g l hg => hg.ne h.dsk.hL (by decide))
  · rw [lay_len (by rw [h.len]; exact hb)]
    exact h.len

theorem Stl.drew {F G : Nat → Prop} {w wr : World} {d : Nat} {D : Dk} {T : List (List UInt8)} {gl gt : Nat} {v0 : Value} {fs0 : List Value} {A : Option Addr} {ps : List (Nat × List UInt8)} {fs : List Value} {X : List UInt8} (h : Stl F G w wr d D T gl gt v0 fs0 A ps fs X) : Stl F G w wr.drew d D T gl gt v0 fs0 A ps fs X := by
  have s := Save.up (F := fun _ => False) (Below.refl wr.heap.size wr).drew
  exact ⟨h.dsk.up (Below.refl _ _).drew, h.row.save s (fun _ _ _ h => h), h.wrs.save s (fun _ _ _ _ _ h => h.elim), h.save.drew, h.len⟩

theorem zero_str (w : World) : (zeroValue 9).run Try.prog w = .ok (.string ⟨#[]⟩) w := by kernel_rfl

set_option maxHeartbeats 4000000 in
theorem settle_any {F G : Nat → Prop} {w : World} {d : Nat} {D : Dk} {T : List (List UInt8)} {gl gt : Nat} {v0 : Value} {fs0 : List Value} (ok : D.Ok) (h : DskAt F w d D T gl gt v0 fs0) (hT : T.length = D.many) (A : Option Addr) (c : Nat) (ps : List (Nat × List UInt8)) (fs : List Value)
    (hps : ∀ p ∈ ps, p.1 < D.many ∧ p.2.length = D.size) (hn : ps.length ≤ 100000) (hr : RowW w A fs) (hw : Wrs G w D.size gt ps fs) (f : Nat) (hf : f ≤ D.size) :
    Calls Try.prog 27 #[dp d, .slice A ps.length c, .int .i64 (f : Nat)] w fun e w' => e = .returned (.tuple #[]) ∧ DskAt F w' d (D.settled ps f) (List.replicate D.many []) gl gt (.slice none 0 0) [] ∧ Save F w w' := by
  have hm := ok.m1
  have hN : D.many * D.size ≤ 16777216 := Nat.le_trans (Nat.mul_le_mul ok.m2 ok.s2) (by omega)
  have st : Stl F G w w d D T gl gt v0 fs0 A ps fs (prog D.size D.L ps f 0) := by
    rw [prog_zero]
    exact ⟨h, hr, hw, Save.refl _ _, ok.len⟩
  have OK := Lib.hid ok
  have HP := Lib.hid hps
  have HT := Lib.hid hT
  clear h hr hw ok hps hT
  obtain ⟨n, hnn⟩ : ∃ n, n = ps.length := ⟨_, rfl⟩
  rw [← hnn] at hn ⊢
  have HN := Lib.hid hnn
  obtain ⟨N, hNN⟩ : ∃ N, N = D.many * D.size := ⟨_, rfl⟩
  rw [← hNN] at hN
  have HNN := Lib.hid hNN
  clear hnn hNN
  have HF := Lib.hid hf
  have ST := Lib.hid st
  clear st hf
  go_enter Try.func27, Try.ntmps27
  go_wp2_with fail
  go_loopw [10] (fun i wr => ∃ k : Nat, k ≤ n ∧ i = .int .i64 (k : Nat) ∧ Hid (Stl F G w wr d D T gl gt v0 fs0 A ps fs (prog D.size D.L ps f k))) (fun i _ => n - (intOf i).toNat)
  case atStart => exact ⟨0, by omega, rfl, ST⟩
  case round =>
    obtain ⟨k, hk, rfl, HS⟩ := hrel
    by_cases hlt : k < n
    · have hkl : k < ps.length := by rw [← HN.out]; exact hlt
      have hfl : k < fs.length := by rw [HS.out.wrs.len]; exact hkl
      obtain ⟨g, l, hA, hg, hfr⟩ := HS.out.row.out (by omega)
      subst hA
      have cf := hg.at (hfr k fs[k] (List.getElem?_eq_getElem hfl))
      have hpk : ps[k]? = some ps[k] := List.getElem?_eq_getElem hkl
      obtain ⟨bf, bs, hfk, hbf, hbs, _, _, hne⟩ := HS.out.wrs.wr k ps[k] fs[k] hpk (List.getElem?_eq_getElem hfl)
      rw [hfk] at cf
      obtain ⟨hp1, hp2⟩ := HP.out ps[k] (List.getElem_mem hkl)
      have HPK := Lib.hid hpk
      clear hfk hfr hpk
      generalize ps[k] = p at *
      obtain ⟨at', b⟩ := p
      dsimp only at hp1 hp2 hbf hbs
      have hro := room (n := D.size) hp1
      rw [← HNN.out] at hro
      have hs1 := OK.out.s1
      have hs2 := OK.out.s2
      have klt : (k : Int) < (n : Int) := by omega
      have cd1 := HS.out.dsk.hD.at (i := 1) rfl
      rw [show ({ D with L := prog D.size D.L ps f k } : Dk).many * ({ D with L := prog D.size D.L ps f k } : Dk).size = N from HNN.out.symm] at cd1
      have cd0 : wr.cell? ⟨d, 0, none⟩ = some (.int .i64 (D.size : Nat)) := HS.out.dsk.hD.at (i := 0) rfl
      have hlen := HS.out.len
      rw [← HNN.out] at hlen
      have hL := HS.out.dsk.hL
      have CL := Lib.hid (fun x (hx : x ≤ b.length) (W : World) h1 h2 h3 => laid_any gl N bf bs (at' * D.size) x b (prog D.size D.L ps f k) hlen (by omega) (by omega) hx hN (by omega) W h1 h2 h3)
      have HBF := Lib.hid hbf
      have HBS := Lib.hid hbs
      have HL := Lib.hid hL
      have HB := Lib.hid hp2
      have HRO := Lib.hid hro
      clear hg hlen hL hbf hbs hp2 hro hne hs1 hs2
      by_cases hl2 : k + 1 < n
      · have k2 : (k : Int) < (n : Int) - 1 := by omega
        go_wp2_with fail
        go_still_tail 9, (by kernel_rfl)
        change wpList _ _ _ _ _ wr.drew
        go_wp2_with fail
        refine (CL.out D.size (by rw [HB.out]; exact Nat.le_refl _) _ (HBF.out.drew) (HBS.out.drew) (HL.out.drew)).mono ?_
        rintro e w1 ⟨rfl, hw1⟩
        have HW1 := Lib.hid hw1
        clear hw1
        go_wp2_with fail
        go_roundw
        case rel =>
          refine ⟨k + 1, by omega, by go_num, Lib.hid ?_⟩
          rw [HW1.out]
          refine Stl.step HS.out.drew.drew _ _ ?_ ?_
          · rw [List.length_take, HB.out, Nat.min_self, ← HNN.out]; exact HRO.out
          · rw [List.take_of_length_le (by rw [HB.out]; exact Nat.le_refl _)]
            exact prog_mid HPK.out (by rw [← HN.out]; exact hl2)
        case measure => simp [intOf]; omega
      · have k2 : (n : Int) - 1 ≤ (k : Int) := by omega
        go_wp2_with fail
        refine (CL.out f (by rw [HB.out]; exact HF.out) _ HBF.out HBS.out HL.out).mono ?_
        rintro e w1 ⟨rfl, hw1⟩
        have HW1 := Lib.hid hw1
        clear hw1
        go_wp2_with fail
        go_roundw
        case rel =>
          refine ⟨k + 1, by omega, by go_num, Lib.hid ?_⟩
          rw [HW1.out]
          refine Stl.step HS.out.drew _ _ ?_ ?_
          · rw [List.length_take, HB.out, ← HNN.out]; have := HRO.out; have := HF.out; omega
          · exact prog_end HPK.out (by rw [← HN.out]; omega)
        case measure => simp [intOf]; omega
    · obtain rfl : k = n := by omega
      have h1 := HS.out.dsk
      rw [HN.out, prog_last] at h1
      have cd2 := h1.hD.at (i := 2) rfl
      have cf2 := h1.hD.free 2
      have h2 := h1.gone
      have hd3 : (wr.setCell ⟨d, 2, none⟩ (.slice none 0 0)).cell? ⟨d, 3, none⟩ = some (.slice (some ⟨gt, 0, none⟩) D.many D.many) := h2.hD.at (i := 3) rfl
      have hth := h2.hT.there 0 D.many (by simp [txs, HT.out])
      have hcl : ∀ ty, (Builtin.clear_ #[42] ty #[.slice (some ⟨gt, 0, none⟩) D.many D.many]).run Try.prog (wr.setCell ⟨d, 2, none⟩ (.slice none 0 0)) = .ok (.tuple #[]) ((wr.setCell ⟨d, 2, none⟩ (.slice none 0 0)).setCells gt 0 (List.replicate D.many (.string ⟨#[]⟩))) :=
        fun ty => Lib.run_clear_slice _ 42 9 ty (.string ⟨#[]⟩) Try.underlying42 zero_str rfl rfl gt 0 D.many D.many (by omega) (fun j hj => (hth j hj).1) (fun j hj => (hth j hj).2)
      have H2 := Lib.hid h2
      clear h1 h2 hth
      go_wp2_with (simp only [hcl])
      go_end0
      have h3 := H2.out.cleared
      rw [HT.out] at h3
      exact ⟨rfl, h3, (HS.out.save.setCell (p := ⟨d, 2, none⟩) (Or.inl HS.out.dsk.fd) _).setCells _ _ (Or.inl HS.out.dsk.ft)⟩

theorem Wrs.is {F : Nat → Prop} {w : World} {n gt : Nat} {P : List (Nat × List UInt8)} {fs : List Value} (h : Wrs F w n gt P fs) : ∀ f ∈ fs, IsWr f := by
  intro f hf
  obtain ⟨i, hi, rfl⟩ := List.mem_iff_getElem.1 hf
  have hp : i < P.length := by rw [← h.len]; exact hi
  obtain ⟨bf, bs, e, _⟩ := h.wr i P[i] fs[i] (List.getElem?_eq_getElem hp) (List.getElem?_eq_getElem hi)
  exact ⟨_, _, e⟩

theorem lats_settled (D : Dk) (P : List (Nat × List UInt8)) (f : Nat) : lats (D.settled P f) = List.replicate D.many [] := lats_none rfl

set_option maxHeartbeats 1000000 in
theorem flush_any {F : Nat → Prop} {w : World} {d : Nat} {D : Dk} (h : Dsk F w d D) (hP : D.P.length ≤ 100000) :
    Calls Try.prog 15 #[dp d] w fun e w' => e = .returned (.int .i64 (D.flush.2 : Nat)) ∧ Dsk F w' d D.flush.1 ∧ Save F w w' := by
  have C := ready_any h
  have fl := h.ok.flush
  unfold Dk.flush at fl ⊢
  unfold Dk.rdy at C
  cases hdn : D.down with
  | true =>
    rw [hdn, if_pos rfl] at fl C
    rw [if_pos rfl]
    have HH := Lib.hid h
    have K := Lib.hid C
    clear h C
    go_enter Try.func15, Try.ntmps15
    go_wp2_with fail
    refine K.out.mono ?_; rintro e w1 ⟨rfl, rfl⟩
    go_wp2_with fail
    go_ret
    exact ⟨rfl, HH.out, Save.refl _ _⟩
  | false =>
    rw [hdn, if_neg (by simp)] at fl C
    rw [if_neg (by simp)]
    have ok := h.ok
    obtain ⟨_, gl, gt, v, fs, h⟩ := h
    have N := count_any ok hdn h
    obtain ⟨A, c, rfl, hr⟩ := RowW.of_own h.own
    have ST : ∀ w1, DskAt F w1 d D.counted (lats D) gl gt (.slice A D.P.length c) fs → Calls Try.prog 27 #[dp d, .slice A D.P.length c, .int .i64 (D.size : Nat)] w1 fun e w' => e = .returned (.tuple #[]) ∧ DskAt F w' d (D.counted.settled D.P D.size) (List.replicate D.counted.many []) gl gt (.slice none 0 0) [] ∧ Save F w1 w' := by
      intro w1 h1
      have hr1 : RowW w1 A fs := by
        obtain ⟨A', c', e, hr'⟩ := RowW.of_own h1.own
        injection e with e1
        rw [e1]; exact hr'
      have hw1 := h1.hW
      rw [D.counted_P] at hw1
      exact settle_any ok.counted h1 (by rw [lats_len, D.counted_many]) A c D.P fs (fun p hp => by rw [D.counted_many, D.counted_size]; exact ok.pend p hp) hP hr1 hw1 D.size (by rw [D.counted_size]; exact Nat.le_refl _)
    have FL := Lib.hid fl
    have HS := Lib.hid ST
    have K := Lib.hid C
    have NN := Lib.hid N
    clear C N ST h hr ok fl hP
    go_enter Try.func15, Try.ntmps15
    go_wp2_with fail
    refine K.out.mono ?_; rintro e w1 ⟨rfl, rfl⟩
    go_wp2_with fail
    refine NN.out.mono ?_; rintro e w1 ⟨rfl, h1, s1, _⟩
    have c0 := h1.hD.at (i := 0) rfl
    rw [D.counted_size] at c0
    have c2 := h1.hD.at (i := 2) rfl
    have H1 := Lib.hid h1
    have S1 := Lib.hid s1
    clear h1 s1
    go_wp2_with fail
    go_still_tail 9, (by kernel_rfl)
    change wpList _ _ _ _ _ w1.drew
    go_wp2_with fail
    refine (HS.out _ (H1.out.up (Below.refl _ _).drew)).mono ?_; rintro e w2 ⟨rfl, h2, s2⟩
    have H2 := Lib.hid h2
    have S2 := Lib.hid s2
    clear h2 s2
    go_wp2_with fail
    go_ret
    refine ⟨rfl, ⟨FL.out, gl, gt, _, _, by rw [lats_settled]; exact H2.out⟩, ?_⟩
    exact S1.out.drew.trans (S2.out.mono fun _ _ h => Or.inl h)

end Go.Proofs.Ytihajcjfppmfjaa
