/- Areas that a call has made itself; the calls on a disk that no Break is on; the document's row. -/
import Derived.Test.YtihajcjfppmfjaaArE
import Derived.Test.YtihajcjfppmfjaaSecJ
namespace Go.Proofs.Ytihajcjfppmfjaa
open Go.RowKit Sec

/-- An area that the call itself made: it and all blocks of its disk are from block B on. -/
def AM (B : Nat) (w : World) (a d : Nat) (D : Dk) (f m : Nat) : Prop := B ≤ a ∧ ∃ F, Arr F w a d D f m ∧ ∀ k, F k → B ≤ k

section
variable {B : Nat} {w : World} {a d : Nat} {D : Dk} {f m : Nat}

theorem AM.up {w' : World} (h : AM B w a d D f m) (b : Below w.heap.size w w') : AM B w' a d D f m := by
  obtain ⟨h1, F, h2, h3⟩ := h
  exact ⟨h1, F, h2.up b, h3⟩
theorem AM.ok (h : AM B w a d D f m) : D.Ok := by obtain ⟨_, F, h2, _⟩ := h; exact h2.dsk.ok
theorem AM.nums (h : AM B w a d D f m) : 1 ≤ m ∧ m ≤ 4096 ∧ f ≤ 4096 ∧ 64 ≤ D.size ∧ D.size ≤ 1024 ∧ m * D.size ≤ 4194304 ∧ (f + m) * D.size ≤ D.many * D.size := by obtain ⟨_, F, h2, _⟩ := h; exact h2.nums

theorem am_new {F : Nat → Prop} (hB : ∀ k, F k → B ≤ k) (h : Dsk F w d D) (hw : B ≤ w.heap.size) (f m : Nat) (h1 : 1 ≤ m) (h2 : f + m ≤ D.many) :
    Calls Try.prog 7 #[dp d, .int .i64 (f : Nat), .int .i64 (m : Nat)] w fun e w' => ∃ a, e = .returned (.tuple #[ap a, .int .i64 0]) ∧ AM B w' a d D f m ∧ Below B w w' := by
  refine (anew_ok h.narrow (fun _ hk => hk.2) f m h1 h2).mono ?_
  rintro e w' ⟨a, rfl, ha, hA, b⟩
  exact ⟨a, rfl, ⟨Nat.le_trans hw ha, _, hA, fun k hk => hB k hk.1⟩, b.mono hw⟩

theorem AM.saved {F : Nat → Prop} {w' : World} (hF : ∀ k, F k → B ≤ k) (hB : B ≤ w.heap.size) (s : Save F w w') : Below B w w' := s.below hF hB

/-- A call of the disk itself. -/
theorem AM.disk (h : AM B w a d D f m) : ∃ F, Arr F w a d D f m ∧ ∀ k, F k → B ≤ k := h.2

theorem put_mine (hB : B ≤ w.heap.size) (h : AM B w a d D f m) (hP : D.P.length ≤ 90000) (o : Nat) (b : List UInt8) (hr : o + b.length ≤ m * D.size) :
    Calls Try.prog 9 #[ap a, .int .i64 (o : Nat), .string ⟨b.toArray⟩] w fun e w' => ∃ r E, e = .returned (.int .i64 (r : Nat)) ∧ (∃ j, D.Put f o b j E r) ∧ AM B w' a d E f m ∧ Below B w w' := by
  obtain ⟨h1, F, h2, h3⟩ := h
  refine (put_any h2 hP o b hr).mono ?_
  rintro e w' ⟨r, E, rfl, hp, hA, s⟩
  refine ⟨r, E, rfl, hp, ⟨h1, _, hA, fun k hk => ?_⟩, s.below h3 hB⟩
  rcases hk.1 with hk | hk
  · exact h3 k hk
  · exact Nat.le_trans hB hk

theorem get_mine (hB : B ≤ w.heap.size) (h : AM B w a d D f m) (o n : Nat) (hr : o + n ≤ m * D.size) :
    Calls Try.prog 12 #[ap a, .int .i64 (o : Nat), .int .i64 (n : Nat)] w fun e w' => ∃ r t E, e = .returned (.tuple #[.string ⟨List.toArray t⟩, .int .i64 (r : Nat)]) ∧ D.Got f o n E t r ∧ AM B w' a d E f m ∧ Below B w w' := by
  obtain ⟨h1, F, h2, h3⟩ := h
  refine (get_any h2 o n hr).mono ?_
  rintro e w' ⟨r, t, E, rfl, hg, hA, s⟩
  exact ⟨r, t, E, rfl, hg, ⟨h1, F, hA, h3⟩, s.below h3 hB⟩

theorem async_mine (hB : B ≤ w.heap.size) (h : AM B w a d D f m) (hP : D.P.length ≤ 100000) :
    Calls Try.prog 10 #[ap a] w fun e w' => e = .returned (.int .i64 (D.flush.2 : Nat)) ∧ AM B w' a d D.flush.1 f m ∧ Below B w w' := by
  obtain ⟨h1, F, h2, h3⟩ := h
  refine (sync_any h2 hP).mono ?_
  rintro e w' ⟨rfl, hA, s⟩
  exact ⟨rfl, ⟨h1, F, hA, h3⟩, s.below h3 hB⟩

theorem aimage_mine (h : AM B w a d D f m) : Calls Try.prog 11 #[dp d] w fun e w' => e = .returned (.string ⟨D.L.toArray⟩) ∧ w = w' := by
  obtain ⟨h1, F, h2, h3⟩ := h
  exact image_any h2.dsk

theorem abreak_mine (hB : B ≤ w.heap.size) (h : AM B w a d D f m) (n : Int) (hn : n < 9223372036854775808) :
    Calls Try.prog 14 #[dp d, .int .i64 n] w fun e w' => e = .returned (.int .i64 ((D.brk n).2 : Nat)) ∧ AM B w' a d (D.brk n).1 f m ∧ Below B w w' := by
  obtain ⟨h1, F, h2, h3⟩ := h
  refine (break_any h2.dsk n hn).mono ?_
  rintro e w' ⟨rfl, hd, s, _⟩
  exact ⟨rfl, ⟨h1, F, h2.with hd s (by unfold Dk.brk; split <;> rfl), h3⟩, s.below h3 hB⟩

theorem aflush_mine (hB : B ≤ w.heap.size) (h : AM B w a d D f m) (hP : D.P.length ≤ 100000) :
    Calls Try.prog 15 #[dp d] w fun e w' => e = .returned (.int .i64 (D.flush.2 : Nat)) ∧ AM B w' a d D.flush.1 f m ∧ Below B w w' := by
  obtain ⟨h1, F, h2, h3⟩ := h
  refine (flush_any h2.dsk hP).mono ?_
  rintro e w' ⟨rfl, hd, s⟩
  exact ⟨rfl, ⟨h1, F, h2.with hd s (by unfold Dk.flush Dk.settled; split; rfl; exact D.counted_many), h3⟩, s.below h3 hB⟩

theorem acrash_mine (hB : B ≤ w.heap.size) (h : AM B w a d D f m) (hP : D.P.length ≤ 100000) (t : Int) :
    Calls Try.prog 16 #[dp d, .slice none 0 0, .int .i64 t] w fun e w' => e = .returned (.int .i64 0) ∧ AM B w' a d (D.crash [] t) f m ∧ Below B w w' := by
  obtain ⟨h1, F, h2, h3⟩ := h
  refine (crash_any h2.dsk hP [] none 0 (by simp) (BoSl.nil w) t).mono ?_
  rintro e w' ⟨rfl, hd, s⟩
  exact ⟨rfl, ⟨h1, F, h2.with hd s rfl, h3⟩, s.below h3 hB⟩

theorem aread_mine (hB : B ≤ w.heap.size) (h : AM B w a d D f m) (k : Int) :
    Calls Try.prog 18 #[dp d, .int .i64 k] w fun e w' => e = .returned (.tuple #[.string ⟨(D.read k).2.1.toArray⟩, .int .i64 ((D.read k).2.2 : Nat)]) ∧ AM B w' a d (D.read k).1 f m ∧ Below B w w' := by
  obtain ⟨h1, F, h2, h3⟩ := h
  refine (read_any h2.dsk k).mono ?_
  rintro e w' ⟨rfl, hd, s, _⟩
  exact ⟨rfl, ⟨h1, F, h2.with hd s (by unfold Dk.read; split; exact D.counted_many; rfl), h3⟩, s.below h3 hB⟩

theorem alen_mine (h : AM B w a d D f m) : Calls Try.prog 13 #[ap a] w fun e w' => e = .returned (.int .i64 ((m * D.size : Nat) : Nat)) ∧ Below w.heap.size w w' := by
  obtain ⟨h1, F, h2, h3⟩ := h
  exact (alen_any h2).mono fun _ _ ⟨he, k, hk⟩ => ⟨he, hk ▸ drewN_below k⟩

theorem anew_bad_mine (h : AM B w a d D f m) (g n : Int) (hn : n < 9223372036854775808) (hb : n < 1 ∨ g < 0 ∨ (D.many : Int) - n < g) :
    Calls Try.prog 7 #[dp d, .int .i64 g, .int .i64 n] w fun e w' => e = .returned (.tuple #[.pointer none, .int .i64 1]) ∧ Below w.heap.size w w' := by
  obtain ⟨h1, F, h2, h3⟩ := h
  exact (anew_bad h2.dsk g n hn hb).mono fun _ _ ⟨he, k, hk⟩ => ⟨he, hk ▸ drewN_below k⟩
end

section
variable {F : Nat → Prop} {w : World} {a d : Nat} {D : Dk} {f m : Nat}

theorem aunfit_or (q : Nat) (o n : Int) : aunfit q o n = 0 ∨ aunfit q o n = 6 := by unfold aunfit; split <;> simp
theorem aunfit_in {q : Nat} {o n : Int} (h : aunfit q o n = 0) : 0 ≤ o ∧ 0 ≤ n ∧ o + n ≤ q := by
  unfold aunfit at h
  split at h
  · cases h
  · omega

/-- A Put of places that the area has not. -/
theorem put_bad (h : Arr F w a d D f m) (o : Int) (b : ByteArray) (hb : b.size ≤ 4611686018427387904) (hu : aunfit (m * D.size) o (b.size : Nat) = 6) :
    Calls Try.prog 9 #[ap a, .int .i64 o, .string b] w fun e w' => e = .returned (.int .i64 6) ∧ Below w.heap.size w w' := by
  have U := aunfit_any h o (b.size : Nat) (by omega)
  rw [hu] at U
  have CU := Lib.hid U
  clear h U hu
  go_enter Try.func9, Try.ntmps9
  go_wp2_with fail
  refine CU.out.mono ?_; rintro e w1 ⟨rfl, k1, rfl⟩
  go_wp2_with fail
  go_ret
  exact ⟨rfl, drewN_below k1⟩

/-- .. a Get. -/
theorem get_bad (h : Arr F w a d D f m) (o n : Int) (hn : n < 9223372036854775808) (hu : aunfit (m * D.size) o n = 6) :
    Calls Try.prog 12 #[ap a, .int .i64 o, .int .i64 n] w fun e w' => e = .returned (.tuple #[.string ⟨#[]⟩, .int .i64 6]) ∧ Below w.heap.size w w' := by
  have U := aunfit_any h o n hn
  rw [hu] at U
  have CU := Lib.hid U
  clear h U hu
  go_enter Try.func12, Try.ntmps12
  go_wp2_with fail
  refine CU.out.mono ?_; rintro e w1 ⟨rfl, k1, rfl⟩
  go_wp2_with fail
  go_ret2
  exact ⟨rfl, drewN_below k1⟩
end

end Go.Proofs.Ytihajcjfppmfjaa
