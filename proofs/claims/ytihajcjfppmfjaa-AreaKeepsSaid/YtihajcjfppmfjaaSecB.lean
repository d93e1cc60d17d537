/- The small calls of a disk: ready, unfit, count; Pending, Image, Break. -/
import Derived.Test.YtihajcjfppmfjaaSecA
namespace Go.Proofs.Ytihajcjfppmfjaa
open Go.RowKit Sec

/-- A pointer to a disk. -/
abbrev dp (d : Nat) : Value := .pointer (some ⟨d, 0, none⟩)

theorem ready_raw (d : Nat) (b : Bool) (l : Nat) (w : World) (h4 : w.cell? ⟨d, 4, none⟩ = some (.bool b)) (h5 : w.cell? ⟨d, 5, none⟩ = some (.int .i64 (l : Nat))) :
    Calls Try.prog 25 #[dp d] w fun e w' => e = .returned (.int .i64 ((if b && l == 0 then 9 else 0 : Nat) : Nat)) ∧ w = w' := by
  cases b with
  | false =>
    go_enter Try.func25, Try.ntmps25
    go_wp2_with fail
    go_ret
    exact ⟨rfl, rfl⟩
  | true =>
    by_cases hl : l = 0
    · subst hl
      go_enter Try.func25, Try.ntmps25
      go_wp2_with fail
      go_ret
      exact ⟨rfl, rfl⟩
    · have e1 : ((l : Int) == 0) = false := by simp; omega
      have e2 : (l == 0) = false := by simp; omega
      rw [e2]
      clear e2 hl
      go_enter Try.func25, Try.ntmps25
      go_wp2_with fail
      go_ret
      exact ⟨rfl, rfl⟩

theorem ready_any {F : Nat → Prop} {w : World} {d : Nat} {D : Dk} (h : Dsk F w d D) : Calls Try.prog 25 #[dp d] w fun e w' => e = .returned (.int .i64 (D.rdy : Nat)) ∧ w = w' := by
  obtain ⟨_, gl, gt, v, fs, h⟩ := h
  exact ready_raw d D.br D.left w (h.hD.at rfl) (h.hD.at rfl)

theorem ready_nil (w : World) : Calls Try.prog 25 #[.pointer none] w fun e w' => e = .returned (.int .i64 5) ∧ w = w' := by
  go_enter Try.func25, Try.ntmps25
  go_wp2_with fail
  go_ret
  exact ⟨rfl, rfl⟩

theorem unfit_raw (d : Nat) (r : Nat) (m : Nat) (at' : Int) (A : Addr) (w : World) (C : Calls Try.prog 25 #[dp d] w fun e w' => e = .returned (.int .i64 (r : Nat)) ∧ w = w') (h3 : w.cell? ⟨d, 3, none⟩ = some (.slice (some A) m m)) :
    Calls Try.prog 29 #[dp d, .int .i64 at'] w fun e w' => e = .returned (.int .i64 ((if r ≠ 0 then r else if at' < 0 ∨ (m : Int) ≤ at' then 6 else 0 : Nat) : Nat)) ∧ w = w' := by
  have K := Lib.hid C
  clear C
  by_cases hr : r = 0
  · subst hr
    by_cases h0 : at' < 0
    · rw [if_neg (by simp), if_pos (Or.inl h0)]
      go_enter Try.func29, Try.ntmps29
      go_wp2_with fail
      refine K.out.mono ?_; rintro e w' ⟨rfl, rfl⟩
      go_wp2_with fail
      go_ret
      exact ⟨rfl, rfl⟩
    · by_cases h1 : (m : Int) ≤ at'
      · rw [if_neg (by simp), if_pos (Or.inr h1)]
        have h0' : 0 ≤ at' := by omega
        go_enter Try.func29, Try.ntmps29
        go_wp2_with fail
        refine K.out.mono ?_; rintro e w' ⟨rfl, rfl⟩
        go_wp2_with fail
        go_ret
        exact ⟨rfl, rfl⟩
      · rw [if_neg (by simp), if_neg (by omega)]
        have h0' : 0 ≤ at' := by omega
        have h1' : at' < m := by omega
        go_enter Try.func29, Try.ntmps29
        go_wp2_with fail
        refine K.out.mono ?_; rintro e w' ⟨rfl, rfl⟩
        go_wp2_with fail
        go_ret
        exact ⟨rfl, rfl⟩
  · rw [if_pos hr]
    have e1 : ((r : Int) == 0) = false := by simp; omega
    have e2 : ((r : Int) != 0) = true := by simp; omega
    clear hr
    go_enter Try.func29, Try.ntmps29
    go_wp2_with fail
    refine K.out.mono ?_; rintro e w' ⟨rfl, rfl⟩
    go_wp2_with fail
    go_ret
    exact ⟨rfl, rfl⟩

theorem unfit_any {F : Nat → Prop} {w : World} {d : Nat} {D : Dk} (h : Dsk F w d D) (at' : Int) : Calls Try.prog 29 #[dp d, .int .i64 at'] w fun e w' => e = .returned (.int .i64 (D.unfit at' : Nat)) ∧ w = w' := by
  have C := ready_any h
  obtain ⟨_, gl, gt, v, fs, h⟩ := h
  refine (unfit_raw d D.rdy D.many at' ⟨gt, 0, none⟩ w C (h.hD.at rfl)).mono ?_
  rintro e w' ⟨rfl, rfl⟩
  refine ⟨?_, rfl⟩
  unfold Dk.unfit Dk.rdy
  cases D.down <;> simp

theorem unfit_nil (at' : Int) (w : World) : Calls Try.prog 29 #[.pointer none, .int .i64 at'] w fun e w' => e = .returned (.int .i64 5) ∧ w = w' := by
  go_enter Try.func29, Try.ntmps29
  go_wp2_with fail
  refine (ready_nil _).mono ?_; rintro e w' ⟨rfl, rfl⟩
  go_wp2_with fail
  go_ret
  exact ⟨rfl, rfl⟩

/-- What count leaves. -/
theorem count_raw (d : Nat) (b : Bool) (l : Nat) (w : World) (hl : l < 9223372036854775808) (hb : b = true → 0 < l) (h4 : w.cell? ⟨d, 4, none⟩ = some (.bool b)) (h5 : w.cell? ⟨d, 5, none⟩ = some (.int .i64 (l : Nat))) (hf : w.frozen? ⟨d, 5, none⟩ = false) :
    Calls Try.prog 26 #[dp d] w fun e w' => e = .returned (.tuple #[]) ∧ w' = if b then w.setCell ⟨d, 5, none⟩ (.int .i64 ((l - 1 : Nat) : Nat)) else w := by
  cases b with
  | false =>
    go_enter Try.func26, Try.ntmps26
    go_wp2_with fail
    go_end0
    exact ⟨rfl, rfl⟩
  | true =>
    obtain ⟨k, rfl⟩ : ∃ k, l = k + 1 := ⟨l - 1, by have := hb rfl; omega⟩
    clear hb
    go_enter Try.func26, Try.ntmps26
    go_wp2_with fail
    go_end0
    refine ⟨rfl, ?_⟩
    simp
    try omega

theorem count_any {F : Nat → Prop} {w : World} {d : Nat} {D : Dk} {T : List (List UInt8)} {gl gt : Nat} {v : Value} {fs : List Value} (ok : D.Ok) (hdn : D.down = false) (h : DskAt F w d D T gl gt v fs) :
    Calls Try.prog 26 #[dp d] w fun e w' => e = .returned (.tuple #[]) ∧ DskAt F w' d D.counted T gl gt v fs ∧ Save F w w' ∧ w'.heap.size = w.heap.size := by
  have hb : D.br = true → 0 < D.left := fun hb => by
    unfold Dk.down at hdn
    rw [hb] at hdn
    simp at hdn
    omega
  refine (count_raw d D.br D.left w ok.lf hb (h.hD.at rfl) (h.hD.at rfl) (h.hD.free 5)).mono ?_
  rintro e w' ⟨rfl, rfl⟩
  refine ⟨rfl, ?_⟩
  by_cases hbr : D.br = true
  · rw [if_pos hbr]
    refine ⟨?_, (Save.refl _ _).setCell (p := ⟨d, 5, none⟩) (Or.inl h.fd) _, by simp [World.setCell]⟩
    refine h.flag 5 _ D.counted ?_ D.counted_L D.counted_P D.counted_size
    unfold dcs
    rw [D.counted_size, D.counted_many, D.counted_br]
    simp [Dk.counted, hbr]
  · rw [if_neg hbr]
    refine ⟨?_, Save.refl _ _, rfl⟩
    rwa [show D.counted = D by simp [Dk.counted, hbr]]

theorem image_raw (d gl n : Nat) (l : List UInt8) (hn : l.length = n) (w : World) (h1 : w.cell? ⟨d, 1, none⟩ = some (.slice (some ⟨gl, 0, none⟩) n n)) (hL : Has w gl 5 (bys l)) :
    Calls Try.prog 11 #[dp d] w fun e w' => e = .returned (.string ⟨l.toArray⟩) ∧ w = w' := by
  have ht := bytes_text w gl 0 n l hL.whole
  rw [hn] at ht
  clear hL hn
  go_enter Try.func11, Try.ntmps11
  go_wp2_with fail
  go_ret
  exact ⟨rfl, rfl⟩

theorem image_any {F : Nat → Prop} {w : World} {d : Nat} {D : Dk} (h : Dsk F w d D) : Calls Try.prog 11 #[dp d] w fun e w' => e = .returned (.string ⟨D.L.toArray⟩) ∧ w = w' := by
  obtain ⟨ok, gl, gt, v, fs, h⟩ := h
  exact image_raw d gl _ D.L ok.len w (h.hD.at rfl) h.hL

theorem break_any {F : Nat → Prop} {w : World} {d : Nat} {D : Dk} (h : Dsk F w d D) (n : Int) (hn : n < 9223372036854775808) :
    Calls Try.prog 14 #[dp d, .int .i64 n] w fun e w' => e = .returned (.int .i64 ((D.brk n).2 : Nat)) ∧ Dsk F w' d (D.brk n).1 ∧ Save F w w' ∧ w'.heap.size = w.heap.size := by
  have ok := h.ok.brk n hn
  obtain ⟨_, gl, gt, v, fs, h⟩ := h
  have f4 := h.hD.free 4
  have f5 := h.hD.free 5
  have c4 := h.hD.at (i := 4) rfl
  have c5 := h.hD.at (i := 5) rfl
  unfold Dk.brk at ok ⊢
  by_cases h0 : n < 0
  · rw [if_pos h0] at ok ⊢
    have HH := Lib.hid h
    have OK := Lib.hid ok
    clear h ok f4 f5 c4 c5
    go_enter Try.func14, Try.ntmps14
    go_wp2_with fail
    go_ret
    exact ⟨rfl, ⟨OK.out, gl, gt, v, fs, HH.out⟩, Save.refl _ _, rfl⟩
  · rw [if_neg h0] at ok ⊢
    obtain ⟨k, rfl⟩ : ∃ k : Nat, n = k := ⟨n.toNat, by omega⟩
    have HH := Lib.hid h
    have OK := Lib.hid ok
    have h0' : ¬ ((k : Int) < 0) := by omega
    clear h ok h0 hn
    go_enter Try.func14, Try.ntmps14
    go_wp2_with fail
    go_ret
    refine ⟨rfl, ⟨OK.out, gl, gt, v, fs, ?_⟩, ((Save.refl _ _).setCell (p := ⟨d, 4, none⟩) (Or.inl HH.out.fd) _).setCell (p := ⟨d, 5, none⟩) (Or.inl HH.out.fd) _, by simp [World.setCell]⟩
    exact (HH.out.flag 4 (.bool true) { D with br := true } rfl rfl rfl rfl).flag 5 (.int .i64 k) { D with br := true, left := k } rfl rfl rfl rfl

end Go.Proofs.Ytihajcjfppmfjaa
