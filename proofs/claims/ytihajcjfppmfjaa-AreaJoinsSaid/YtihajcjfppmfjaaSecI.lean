/- A disk's Crash. -/
import Derived.Test.YtihajcjfppmfjaaSecH
namespace Go.Proofs.Ytihajcjfppmfjaa
open Go.RowKit Sec

theorem kp_both {α β : Type} (R : α → β → Prop) : ∀ (P : List α) (fs : List β) (K : List Bool), fs.length = P.length → (∀ (i : Nat) (p : α) (f : β), P[i]? = some p → fs[i]? = some f → R p f) →
    (kp fs K).length = (kp P K).length ∧ ∀ (i : Nat) (p : α) (f : β), (kp P K)[i]? = some p → (kp fs K)[i]? = some f → R p f
  | [], [], K, _, _ => by cases K <;> exact ⟨rfl, fun i p f hp => by simp [kp] at hp⟩
  | [], _ :: _, _, h, _ => by simp at h
  | _ :: _, [], _, h, _ => by simp at h
  | q :: P, g :: fs, [], _, _ => ⟨rfl, fun i p f hp => by simp [kp] at hp⟩
  | q :: P, g :: fs, b :: K, h, hR => by
    obtain ⟨h1, h2⟩ := kp_both R P fs K (by simpa using h) (fun i p f hp hf => hR (i + 1) p f (by simpa using hp) (by simpa using hf))
    cases b with
    | false => exact ⟨by simpa [kp] using h1, by simpa [kp] using h2⟩
    | true =>
      refine ⟨by simp [kp, h1], fun i p f hp hf => ?_⟩
      cases i with
      | zero =>
        simp [kp] at hp hf
        exact hR 0 p f (by simp [hp]) (by simp [hf])
      | succ i => exact h2 i p f (by simpa [kp] using hp) (by simpa [kp] using hf)

theorem Wrs.kept {F : Nat → Prop} {w : World} {n gt : Nat} {P : List (Nat × List UInt8)} {fs : List Value} (h : Wrs F w n gt P fs) (K : List Bool) : Wrs F w n gt (kp P K) (kp fs K) := by
  obtain ⟨h1, h2⟩ := kp_both (Wr F w n gt) P fs K h.len h.wr
  exact ⟨h1, h2⟩

set_option maxHeartbeats 1000000 in
theorem crash_raw {F : Nat → Prop} {w : World} {d : Nat} {D : Dk} {gl gt : Nat} {v : Value} {fs : List Value} (ok : D.Ok) (h : DskAt F w d D (lats D) gl gt v fs) (hP : D.P.length ≤ 100000) (K : List Bool) (A2 : Option Addr) (c2 : Nat) (hK : K.length ≤ 9223372036854775807) (hB : BoSl w A2 K) (t : Int) :
    Calls Try.prog 16 #[dp d, .slice A2 K.length c2, .int .i64 t] w fun e w' => e = .returned (.int .i64 0) ∧ DskAt F w' d (D.crash K t) (List.replicate D.many []) gl gt (.slice none 0 0) [] ∧ Save F w w' := by
  obtain ⟨A, c, rfl, hr⟩ := RowW.of_own h.own
  have hlf : fs.length = D.P.length := h.hW.len
  have KE := by
    have := kept_raw d A A2 fs K c c2 (by omega) hK h.hW.is w (by rw [hlf]; exact h.hD.at rfl) hr hB
    exact Lib.hid this
  have ST := Lib.hid (fun w1 v1 (b : Below w.heap.size w w1) (ho : OwnW w.heap.size v1 (kp fs K) w1) => by
    obtain ⟨A1, c1, e, hr1⟩ := RowW.of_own ho.out
    have hl := (h.hW.kept K).len
    rw [hl] at e
    have := settle_any (D := D) ok (h.up b) (lats_len D) A1 c1 (kp D.P K) (kp fs K) (fun p hp => ok.pend p (kp_mem _ _ hp)) (by have := kp_len D.P K; omega) hr1 ((h.up b).hW.kept K) (D.tear t) (by unfold Dk.tear; split <;> omega)
    rw [← e] at this
    exact this)
  have c0 := h.hD.at (i := 0) rfl
  have HH := Lib.hid h
  have fin : ∀ w2, DskAt F w2 d (D.settled (kp D.P K) (D.tear t)) (List.replicate D.many []) gl gt (.slice none 0 0) [] → DskAt F ((w2.setCell ⟨d, 4, none⟩ (.bool false)).setCell ⟨d, 5, none⟩ (.int .i64 0)) d (D.crash K t) (List.replicate D.many []) gl gt (.slice none 0 0) [] := by
    intro w2 h2
    exact (h2.flag 4 (.bool false) { D.settled (kp D.P K) (D.tear t) with br := false } rfl rfl rfl rfl).flag 5 (.int .i64 0) (D.crash K t) rfl rfl rfl rfl
  have FIN := Lib.hid fin
  obtain ⟨m, hm⟩ : ∃ m, m = K.length := ⟨_, rfl⟩
  rw [← hm] at KE ⊢
  have htr : (t < 0 ∧ D.tear t = D.size) ∨ (0 ≤ t ∧ (D.size : Int) < t ∧ D.tear t = D.size) ∨ (0 ≤ t ∧ t ≤ (D.size : Int) ∧ D.tear t = t.toNat) := by unfold Dk.tear; split <;> omega
  clear hm h hr hB hP hK ok fin hlf
  generalize D.tear t = r at *
  rcases htr with ⟨h0, rfl⟩ | ⟨h0, h1, rfl⟩ | ⟨h0, h1, rfl⟩
  · skip
    go_enter Try.func16, Try.ntmps16
    go_wp2_with fail
    refine KE.out.mono ?_; rintro e w1 ⟨v1, rfl, ho, hb⟩
    have HO := Lib.hid ho
    have HB := Lib.hid hb
    clear ho hb
    go_wp2_with fail
    refine (ST.out w1 v1 HB.out HO.out).mono ?_; rintro e w2 ⟨rfl, h2, s2⟩
    have a4 := h2.hD.at (i := 4) rfl
    have f4 := h2.hD.free 4
    have a5 := h2.hD.at (i := 5) rfl
    have f5 := h2.hD.free 5
    have H2 := Lib.hid h2
    have S2 := Lib.hid s2
    clear h2 s2
    go_wp2_with fail
    go_ret
    refine ⟨rfl, FIN.out _ H2.out, (((Save.up (F := F) HB.out).trans (S2.out.mono fun _ _ h => Or.inl h)).setCell (p := ⟨d, 4, none⟩) (Or.inl HH.out.fd) _).setCell (p := ⟨d, 5, none⟩) (Or.inl HH.out.fd) _⟩
  · skip
    go_enter Try.func16, Try.ntmps16
    go_wp2_with fail
    refine KE.out.mono ?_; rintro e w1 ⟨v1, rfl, ho, hb⟩
    have HO := Lib.hid ho
    have HB := Lib.hid hb
    clear ho hb
    go_wp2_with fail
    refine (ST.out w1 v1 HB.out HO.out).mono ?_; rintro e w2 ⟨rfl, h2, s2⟩
    have a4 := h2.hD.at (i := 4) rfl
    have f4 := h2.hD.free 4
    have a5 := h2.hD.at (i := 5) rfl
    have f5 := h2.hD.free 5
    have H2 := Lib.hid h2
    have S2 := Lib.hid s2
    clear h2 s2
    go_wp2_with fail
    go_ret
    refine ⟨rfl, FIN.out _ H2.out, (((Save.up (F := F) HB.out).trans (S2.out.mono fun _ _ h => Or.inl h)).setCell (p := ⟨d, 4, none⟩) (Or.inl HH.out.fd) _).setCell (p := ⟨d, 5, none⟩) (Or.inl HH.out.fd) _⟩
  · obtain ⟨k, rfl⟩ : ∃ k : Nat, t = k := ⟨t.toNat, by omega⟩
    rw [Int.toNat_natCast] at ST FIN
    go_enter Try.func16, Try.ntmps16
    go_wp2_with fail
    refine KE.out.mono ?_; rintro e w1 ⟨v1, rfl, ho, hb⟩
    have HO := Lib.hid ho
    have HB := Lib.hid hb
    clear ho hb
    go_wp2_with fail
    refine (ST.out w1 v1 HB.out HO.out).mono ?_; rintro e w2 ⟨rfl, h2, s2⟩
    have a4 := h2.hD.at (i := 4) rfl
    have f4 := h2.hD.free 4
    have a5 := h2.hD.at (i := 5) rfl
    have f5 := h2.hD.free 5
    have H2 := Lib.hid h2
    have S2 := Lib.hid s2
    clear h2 s2
    go_wp2_with fail
    go_ret
    refine ⟨rfl, FIN.out _ H2.out, (((Save.up (F := F) HB.out).trans (S2.out.mono fun _ _ h => Or.inl h)).setCell (p := ⟨d, 4, none⟩) (Or.inl HH.out.fd) _).setCell (p := ⟨d, 5, none⟩) (Or.inl HH.out.fd) _⟩

theorem crash_any {F : Nat → Prop} {w : World} {d : Nat} {D : Dk} (h : Dsk F w d D) (hP : D.P.length ≤ 100000) (K : List Bool) (A2 : Option Addr) (c2 : Nat) (hK : K.length ≤ 9223372036854775807) (hB : BoSl w A2 K) (t : Int) :
    Calls Try.prog 16 #[dp d, .slice A2 K.length c2, .int .i64 t] w fun e w' => e = .returned (.int .i64 0) ∧ Dsk F w' d (D.crash K t) ∧ Save F w w' := by
  obtain ⟨ok, gl, gt, v, fs, h⟩ := h
  refine (crash_raw ok h hP K A2 c2 hK hB t).mono ?_
  rintro e w' ⟨rfl, h1, h2⟩
  exact ⟨rfl, ⟨ok.crash K t, gl, gt, _, _, by rw [lats_none (show (D.crash K t).P = [] from rfl)]; exact h1⟩, h2⟩

end Go.Proofs.Ytihajcjfppmfjaa
