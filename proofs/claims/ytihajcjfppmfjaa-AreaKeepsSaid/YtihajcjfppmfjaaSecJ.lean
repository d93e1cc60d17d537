/- So many of one byte; calls of a disk that the call itself made. -/
import Derived.Test.YtihajcjfppmfjaaSecI
namespace Go.Proofs.Ytihajcjfppmfjaa
open Go.RowKit Sec

theorem rep_snoc (k : Nat) (c : UInt8) : List.replicate k c ++ [c] = List.replicate (k + 1) c := by
  rw [List.replicate_succ', ]

/-- A disk that the call itself made: all of its blocks are from block B on. -/
abbrev Mine (B : Nat) (w : World) (d : Nat) (D : Dk) : Prop := Dsk (fun k => B ≤ k) w d D

theorem grow_mine {B : Nat} {w : World} (hB : B ≤ w.heap.size) : ∀ k, Grow (fun k => B ≤ k) w k → B ≤ k := fun k hk => by
  rcases hk with hk | hk
  · exact hk
  · exact Nat.le_trans hB hk

section
variable {B : Nat} {w : World} {d : Nat} {D : Dk}

theorem write_mine (hB : B ≤ w.heap.size) (h : Mine B w d D) (hP : D.P.length < 100000) (at' : Int) (b : List UInt8) (hbl : b.length ≤ 16777216) :
    Calls Try.prog 31 #[dp d, .int .i64 at', .string ⟨b.toArray⟩] w fun e w' => e = .returned (.int .i64 ((D.write at' b).2 : Nat)) ∧ Mine B w' d (D.write at' b).1 ∧ Below B w w' :=
  (write_any h hP at' b hbl).mono fun _ _ ⟨he, h1, h2⟩ => ⟨he, h1.mono (grow_mine hB), h2.below (fun _ h => h) hB⟩

theorem read_mine (hB : B ≤ w.heap.size) (h : Mine B w d D) (at' : Int) :
    Calls Try.prog 18 #[dp d, .int .i64 at'] w fun e w' => e = .returned (.tuple #[.string ⟨(D.read at').2.1.toArray⟩, .int .i64 ((D.read at').2.2 : Nat)]) ∧ Mine B w' d (D.read at').1 ∧ Below B w w' :=
  (read_any h at').mono fun _ _ ⟨he, h1, h2, _⟩ => ⟨he, h1, h2.below (fun _ h => h) hB⟩

theorem flush_mine (hB : B ≤ w.heap.size) (h : Mine B w d D) (hP : D.P.length ≤ 100000) :
    Calls Try.prog 15 #[dp d] w fun e w' => e = .returned (.int .i64 (D.flush.2 : Nat)) ∧ Mine B w' d D.flush.1 ∧ Below B w w' :=
  (flush_any h hP).mono fun _ _ ⟨he, h1, h2⟩ => ⟨he, h1, h2.below (fun _ h => h) hB⟩

theorem crash_mine (hB : B ≤ w.heap.size) (h : Mine B w d D) (hP : D.P.length ≤ 100000) (K : List Bool) (A2 : Option Addr) (n2 c2 : Nat) (hn2 : n2 = K.length) (hK : K.length ≤ 9223372036854775807) (hb : BoSl w A2 K) (t : Int) :
    Calls Try.prog 16 #[dp d, .slice A2 n2 c2, .int .i64 t] w fun e w' => e = .returned (.int .i64 0) ∧ Mine B w' d (D.crash K t) ∧ Below B w w' := by
  subst hn2
  exact (crash_any h hP K A2 c2 hK hb t).mono fun _ _ ⟨he, h1, h2⟩ => ⟨he, h1, h2.below (fun _ h => h) hB⟩

theorem break_mine (hB : B ≤ w.heap.size) (h : Mine B w d D) (n : Int) (hn : n < 9223372036854775808) :
    Calls Try.prog 14 #[dp d, .int .i64 n] w fun e w' => e = .returned (.int .i64 ((D.brk n).2 : Nat)) ∧ Mine B w' d (D.brk n).1 ∧ Below B w w' :=
  (break_any h n hn).mono fun _ _ ⟨he, h1, h2, _⟩ => ⟨he, h1, h2.below (fun _ h => h) hB⟩

theorem BoSl.nil (w : World) : BoSl w none [] := ⟨fun h => by simp at h⟩

end

theorem flush_nil (w : World) : Calls Try.prog 15 #[.pointer none] w fun e w' => e = .returned (.int .i64 5) ∧ w = w' := by
  go_enter Try.func15, Try.ntmps15
  go_wp2_with fail
  refine (ready_nil _).mono ?_; rintro e w' ⟨rfl, rfl⟩
  go_wp2_with fail
  go_ret
  exact ⟨rfl, rfl⟩

end Go.Proofs.Ytihajcjfppmfjaa
