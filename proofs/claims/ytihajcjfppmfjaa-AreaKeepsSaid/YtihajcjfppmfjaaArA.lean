/- The small calls of an area: Size of its disk, size, Len, unfit, New, Sync. -/
import Derived.Test.YtihajcjfppmfjaaSecI
import Derived.Test.YtihajcjfppmfjaaPureArea
import Derived.Deep.QuietTactic
import Derived.BigQuiet
namespace Go.Proofs.Ytihajcjfppmfjaa
open Go.RowKit Sec

theorem size_raw (d gt m n : Nat) (w : World) (h0 : w.cell? ⟨d, 0, none⟩ = some (.int .i64 (n : Nat))) (h3 : w.cell? ⟨d, 3, none⟩ = some (.slice (some ⟨gt, 0, none⟩) m m)) :
    Calls Try.prog 17 #[dp d] w fun e w' => e = .returned (.tuple #[.int .i64 (m : Nat), .int .i64 (n : Nat)]) ∧ ∃ k, w' = w.drewN k := by
  go_enter Try.func17, Try.ntmps17
  go_wp2_with fail
  go_quiet (fail)
  go_wp2_with fail
  go_ret2
  exact ⟨rfl, _, rfl⟩

theorem size_nil (w : World) :
    Calls Try.prog 17 #[.pointer none] w fun e w' => e = .returned (.tuple #[.int .i64 0, .int .i64 0]) ∧ w' = w := by
  go_enter Try.func17, Try.ntmps17
  go_wp2_with fail
  go_ret2
  exact ⟨rfl, rfl⟩

theorem drewN_below {w : World} (k : Nat) : Below w.heap.size w (w.drewN k) := ⟨rfl, rfl, rfl, Nat.le_refl _, fun _ _ => rfl⟩

theorem size_any {F : Nat → Prop} {w : World} {d : Nat} {D : Dk} (h : Dsk F w d D) :
    Calls Try.prog 17 #[dp d] w fun e w' => e = .returned (.tuple #[.int .i64 (D.many : Nat), .int .i64 (D.size : Nat)]) ∧ ∃ k, w' = w.drewN k := by
  obtain ⟨_, gl, gt, v, fs, h⟩ := h
  exact size_raw d gt D.many D.size w (h.hD.at rfl) (h.hD.at rfl)

/-- A pointer to an area. -/
abbrev ap (a : Nat) : Value := .pointer (some ⟨a, 0, none⟩)

/-- An area in memory: its disk, its first sector, how many there are. -/
structure Arr (F : Nat → Prop) (w : World) (a d : Nat) (D : Dk) (f m : Nat) : Prop where
  dsk : Dsk F w d D
  hA : Has w a 49 [dp d, .int .i64 (f : Nat), .int .i64 (m : Nat)]
  out : ¬ F a
  bd : ∀ k, F k → k < w.heap.size
  one : 1 ≤ m
  fit : f + m ≤ D.many

section
variable {F : Nat → Prop} {w : World} {a d : Nat} {D : Dk} {f m : Nat}

theorem Arr.save (h : Arr F w a d D f m) {R : Nat → Prop} {w' : World} (s : Save R w w') (hR : ∀ k, F k → k < w.heap.size → ¬ R k) (ha : ¬ R a) : Arr F w' a d D f m :=
  ⟨h.dsk.save s hR, s.has h.hA ha, h.out, fun k hk => Nat.lt_of_lt_of_le (h.bd k hk) s.size, h.one, h.fit⟩
theorem Arr.up (h : Arr F w a d D f m) {w' : World} (b : Below w.heap.size w w') : Arr F w' a d D f m :=
  h.save (Save.up (F := fun _ => False) b) (fun _ _ _ h => h) (fun h => h)
theorem Arr.lt (h : Arr F w a d D f m) : a < w.heap.size := h.hA.lt
/-- .. with what a call leaves of its disk. -/
theorem Arr.with (h : Arr F w a d D f m) {w' : World} {E : Dk} (hd : Dsk F w' d E) (s : Save F w w') (hm : E.many = D.many) : Arr F w' a d E f m :=
  ⟨hd, s.has h.hA h.out, h.out, fun k hk => Nat.lt_of_lt_of_le (h.bd k hk) s.size, h.one, by rw [hm]; exact h.fit⟩
/-- Blocks of which F speaks, and all new ones that are there. -/
def Ext (F : Nat → Prop) (w w' : World) (k : Nat) : Prop := Grow F w k ∧ k < w'.heap.size
theorem Arr.grew (h : Arr F w a d D f m) {w' : World} {E : Dk} (hd : Dsk (Grow F w) w' d E) (s : Save F w w') (hm : E.many = D.many) : Arr (Ext F w w') w' a d E f m :=
  ⟨hd.narrow, s.has h.hA h.out, fun hg => by rcases hg.1 with hg | hg; exact h.out hg; have := h.lt; omega, fun _ hk => hk.2, h.one, by rw [hm]; exact h.fit⟩
theorem Arr.nums (h : Arr F w a d D f m) : 1 ≤ m ∧ m ≤ 4096 ∧ f ≤ 4096 ∧ 64 ≤ D.size ∧ D.size ≤ 1024 ∧ m * D.size ≤ 4194304 ∧ (f + m) * D.size ≤ D.many * D.size := by
  have ok := h.dsk.ok
  have h1 := h.one
  have h2 := h.fit
  have h3 := ok.m2
  refine ⟨h1, by omega, by omega, ok.s1, ok.s2, ?_, Nat.mul_le_mul_right _ h2⟩
  exact Nat.le_trans (Nat.mul_le_mul (show m ≤ 4096 by omega) ok.s2) (by omega)
end

/-- How many bytes a sector has. -/
theorem asize_any {F : Nat → Prop} {w : World} {a d : Nat} {D : Dk} {f m : Nat} (h : Arr F w a d D f m) :
    Calls Try.prog 24 #[ap a] w fun e w' => e = .returned (.int .i64 (D.size : Nat)) ∧ ∃ k, w' = w.drewN k := by
  have C := Lib.hid (size_any h.dsk)
  have h0 := h.hA.at (i := 0) rfl
  clear h
  go_enter Try.func24, Try.ntmps24
  go_wp2_with fail
  refine C.out.mono ?_; rintro e w' ⟨rfl, k, rfl⟩
  go_wp2_with fail
  go_ret
  exact ⟨rfl, k, rfl⟩

/-- Len. -/
theorem alen_any {F : Nat → Prop} {w : World} {a d : Nat} {D : Dk} {f m : Nat} (h : Arr F w a d D f m) :
    Calls Try.prog 13 #[ap a] w fun e w' => e = .returned (.int .i64 ((m * D.size : Nat) : Nat)) ∧ ∃ k, w' = w.drewN k := by
  obtain ⟨n1, n2, n3, n4, n5, n6, n7⟩ := h.nums
  have C := Lib.hid (fun k => asize_any (h.up (drewN_below k)))
  have h2 := h.hA.at (i := 2) rfl
  have hw : IntKind.i64.wrap ((m : Int) * (D.size : Int)) = ((m * D.size : Nat) : Int) := by
    rw [show (m : Int) * (D.size : Int) = ((m * D.size : Nat) : Int) by simp]
    exact IntWalk.i64_in _ (by omega)
  generalize m * D.size = q at *
  generalize D.size = n at *
  clear h n1 n2 n3 n4 n5 n6 n7
  go_enter Try.func13, Try.ntmps13
  go_wp2_with fail
  go_quiet ((go_at_call 24; exact Calls.quiet_of (C.out _)))
  go_wp2_with fail
  go_ret
  exact ⟨rfl, _, rfl⟩

/-- Why n places from one on can't be got or put. -/
def aunfit (q : Nat) (at' n : Int) : Nat := if at' < 0 ∨ n < 0 ∨ (q : Int) - n < at' then 6 else 0

theorem aunfit_any {F : Nat → Prop} {w : World} {a d : Nat} {D : Dk} {f m : Nat} (h : Arr F w a d D f m) (at' n : Int) (hn : n < 9223372036854775808) :
    Calls Try.prog 19 #[ap a, .int .i64 at', .int .i64 n] w fun e w' => e = .returned (.int .i64 (aunfit (m * D.size) at' n : Nat)) ∧ ∃ k, w' = w.drewN k := by
  have hq := h.nums.2.2.2.2.2.1
  have C := Lib.hid (alen_any h)
  generalize m * D.size = q at *
  clear h
  unfold aunfit
  by_cases h1 : at' < 0
  · rw [if_pos (Or.inl h1)]
    go_enter Try.func19, Try.ntmps19
    go_wp2_with fail
    go_ret
    exact ⟨rfl, 0, rfl⟩
  by_cases h2 : n < 0
  · rw [if_pos (Or.inr (Or.inl h2))]
    have h1' : 0 ≤ at' := by omega
    go_enter Try.func19, Try.ntmps19
    go_wp2_with fail
    go_ret
    exact ⟨rfl, 0, rfl⟩
  have h1' : 0 ≤ at' := by omega
  have h2' : 0 ≤ n := by omega
  have hw : IntKind.i64.wrap ((q : Int) - n) = (q : Int) - n := IntWalk.i64_in _ (by omega)
  have hw2 : wrap64 ((q : Int) - n) = (q : Int) - n := IntWalk.wrap64_in _ ⟨by omega, by omega⟩
  by_cases h3 : (q : Int) - n < at'
  · rw [if_pos (Or.inr (Or.inr h3))]
    clear h1 h2 hn
    go_enter Try.func19, Try.ntmps19
    go_wp2_with fail
    refine C.out.mono ?_; rintro e w' ⟨rfl, k, rfl⟩
    go_wp2_with fail
    go_ret
    exact ⟨rfl, k, rfl⟩
  · rw [if_neg (by omega)]
    have h3' : at' ≤ (q : Int) - n := by omega
    clear h1 h2 h3 hn
    go_enter Try.func19, Try.ntmps19
    go_wp2_with fail
    refine C.out.mono ?_; rintro e w' ⟨rfl, k, rfl⟩
    go_wp2_with fail
    go_ret
    exact ⟨rfl, k, rfl⟩

theorem anew_nil (f m : Int) (w : World) : Calls Try.prog 7 #[.pointer none, .int .i64 f, .int .i64 m] w fun e w' => e = .returned (.tuple #[.pointer none, .int .i64 5]) ∧ w' = w := by
  go_enter Try.func7, Try.ntmps7
  go_wp2_with fail
  go_ret2
  exact ⟨rfl, rfl⟩

/-- New: sectors that the disk has not. -/
theorem anew_bad {F : Nat → Prop} {w : World} {d : Nat} {D : Dk} (h : Dsk F w d D) (f m : Int) (hm : m < 9223372036854775808) (hb : m < 1 ∨ f < 0 ∨ (D.many : Int) - m < f) :
    Calls Try.prog 7 #[dp d, .int .i64 f, .int .i64 m] w fun e w' => e = .returned (.tuple #[.pointer none, .int .i64 1]) ∧ ∃ k, w' = w.drewN k := by
  have hq := h.ok.m2
  have C := Lib.hid (size_any h)
  generalize D.many = q at *
  generalize D.size = s at *
  clear h
  by_cases h1 : m < 1
  · clear hb
    go_enter Try.func7, Try.ntmps7
    go_wp2_with fail
    refine C.out.mono ?_; rintro e w' ⟨rfl, k, rfl⟩
    go_wp2_with fail
    go_ret2
    exact ⟨rfl, k, rfl⟩
  have h1' : 1 ≤ m := by omega
  by_cases h2 : f < 0
  · clear hb
    go_enter Try.func7, Try.ntmps7
    go_wp2_with fail
    refine C.out.mono ?_; rintro e w' ⟨rfl, k, rfl⟩
    go_wp2_with fail
    go_ret2
    exact ⟨rfl, k, rfl⟩
  have h2' : 0 ≤ f := by omega
  have h3 : (q : Int) - m < f := by omega
  have hw : IntKind.i64.wrap ((q : Int) - m) = (q : Int) - m := IntWalk.i64_in _ (by omega)
  have hw2 : wrap64 ((q : Int) - m) = (q : Int) - m := IntWalk.wrap64_in _ ⟨by omega, by omega⟩
  clear hb h1 h2 hm
  go_enter Try.func7, Try.ntmps7
  go_wp2_with fail
  refine C.out.mono ?_; rintro e w' ⟨rfl, k, rfl⟩
  go_wp2_with fail
  go_ret2
  exact ⟨rfl, k, rfl⟩

/-- New: an area. -/
theorem anew_ok {F : Nat → Prop} {w : World} {d : Nat} {D : Dk} (h : Dsk F w d D) (hF : ∀ k, F k → k < w.heap.size) (f m : Nat) (h1 : 1 ≤ m) (h2 : f + m ≤ D.many) :
    Calls Try.prog 7 #[dp d, .int .i64 (f : Nat), .int .i64 (m : Nat)] w fun e w' => ∃ a, e = .returned (.tuple #[ap a, .int .i64 0]) ∧ w.heap.size ≤ a ∧ Arr F w' a d D f m ∧ Below w.heap.size w w' := by
  have hq := h.ok.m2
  have HH := Lib.hid h
  have C := Lib.hid (size_any h)
  have H2 := Lib.hid h2
  have HF := Lib.hid hF
  have a1 : (1 : Int) ≤ m := by omega
  have a2 : (f : Int) ≤ (D.many : Int) - (m : Int) := by omega
  have hw : IntKind.i64.wrap ((D.many : Int) - (m : Int)) = (D.many : Int) - (m : Int) := IntWalk.i64_in _ (by omega)
  have hw2 : wrap64 ((D.many : Int) - (m : Int)) = (D.many : Int) - (m : Int) := IntWalk.wrap64_in _ ⟨by omega, by omega⟩
  clear h h2 hF
  go_enter Try.func7, Try.ntmps7
  go_wp2_with fail
  refine C.out.mono ?_; rintro e w' ⟨rfl, k, rfl⟩
  go_wp2_with fail
  go_ret2
  refine ⟨w.heap.size, rfl, Nat.le_refl _, ⟨(HH.out.up (drewN_below k)).up (up_alloc (Below.refl _ _) _), Has.make _ _ _, fun hf => by have := HF.out _ hf; omega, fun k hk => Nat.lt_of_lt_of_le (HF.out k hk) (up_alloc (drewN_below _) _).size, h1, H2.out⟩, up_alloc (drewN_below k) _⟩

/-- Sync: the disk's Flush. -/
theorem sync_any {F : Nat → Prop} {w : World} {a d : Nat} {D : Dk} {f m : Nat} (h : Arr F w a d D f m) (hP : D.P.length ≤ 100000) :
    Calls Try.prog 10 #[ap a] w fun e w' => e = .returned (.int .i64 (D.flush.2 : Nat)) ∧ Arr F w' a d D.flush.1 f m ∧ Save F w w' := by
  have C := Lib.hid (flush_any h.dsk hP)
  have h0 := h.hA.at (i := 0) rfl
  have HH := Lib.hid h
  have hm : D.flush.1.many = D.many := by unfold Dk.flush Dk.settled; split; rfl; exact D.counted_many
  have HM := Lib.hid hm
  clear h hm
  go_enter Try.func10, Try.ntmps10
  go_wp2_with fail
  refine C.out.mono ?_; rintro e w' ⟨rfl, hd, s⟩
  have HD := Lib.hid hd
  have HS := Lib.hid s
  clear hd s
  go_wp2_with fail
  go_ret
  exact ⟨rfl, HH.out.with HD.out HS.out HM.out, HS.out⟩

end Go.Proofs.Ytihajcjfppmfjaa
