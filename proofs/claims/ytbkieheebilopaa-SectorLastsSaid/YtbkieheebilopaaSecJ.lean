/- So many of one byte; calls of a disk that the call itself made. -/
import Derived.Test.YtbkieheebilopaaSecI
namespace Go.Proofs.Ytbkieheebilopaa
open Go.RowKit Sec

theorem rep_snoc (k : Nat) (c : UInt8) : List.replicate k c ++ [c] = List.replicate (k + 1) c := by
  rw [List.replicate_succ', ]

set_option maxHeartbeats 1000000 in
theorem full_any (c : UInt8) (n : Nat) (hn : n ≤ 1000000) (w : World) :
    Calls Try.prog 12 #[.int .u8 (c.toNat : Nat), .int .i64 (n : Nat)] w fun e w' => e = .returned (.string ⟨(List.replicate n c).toArray⟩) ∧ Below w.heap.size w w' := by
  have hnil : OwnB w.heap.size (.slice none 0 0) [] w := ⟨⟨by simp [bys], Or.inl ⟨rfl, rfl⟩⟩⟩
  have HNL := Lib.hid hnil
  clear hnil
  go_enter Try.func12, Try.ntmps12
  go_wp2_with fail
  go_loopw [5, 6] (fun v i wr => ∃ k : Nat, k ≤ n ∧ i = .int .i64 (k : Nat) ∧ Hid (OwnB w.heap.size v (List.replicate k c) wr) ∧ Hid (Below w.heap.size w wr)) (fun _ i _ => n - (intOf i).toNat)
  case atStart => exact ⟨0, by omega, rfl, HNL, Lib.hid (Below.refl _ _)⟩
  case round =>
    obtain ⟨k, hk, rfl, HO, HB⟩ := hrel
    by_cases hlt : k < n
    · have k1 : (k : Int) < (n : Int) := by omega
      have hz := HB.out.size
      have e := Lib.hid (rep_snoc k c)
      go_wp2_with (refine wpList_push rfl (.tmp 12) (.tmp 14) rfl w.heap.size _ (List.replicate k c) rfl (HO.out.alloc _) wr.heap.size 1 [c] rfl (Has.make wr _ [_]) rfl (by omega) (by simp; omega) (by simp; omega) ?_; intro v' w' ho hb; replace ho := Lib.hid ho; replace hb := Lib.hid hb)
      go_roundw
      case rel => exact ⟨k + 1, by omega, by go_num, Lib.hid (by rw [← e.out]; exact ho.out), Lib.hid ((HB.out.alloc hz _).trans hb.out)⟩
      case measure => simp [intOf]; omega
    · obtain rfl : k = n := by omega
      have ht := HO.out.text
      go_wp2_with fail
      go_ret
      exact ⟨rfl, HB.out⟩

/-- A disk that the call itself made: all of its blocks are from block B on. -/
abbrev Mine (B : Nat) (w : World) (d : Nat) (D : Dk) : Prop := Dsk (fun k => B ≤ k) w d D

theorem grow_mine {B : Nat} {w : World} (hB : B ≤ w.heap.size) : ∀ k, Grow (fun k => B ≤ k) w k → B ≤ k := fun k hk => by
  rcases hk with hk | hk
  · exact hk
  · exact Nat.le_trans hB hk

section
variable {B : Nat} {w : World} {d : Nat} {D : Dk}

theorem write_mine (hB : B ≤ w.heap.size) (h : Mine B w d D) (hP : D.P.length < 100000) (at' : Int) (b : List UInt8) (hbl : b.length ≤ 16777216) :
    Calls Try.prog 16 #[dp d, .int .i64 at', .string ⟨b.toArray⟩] w fun e w' => e = .returned (.int .i64 ((D.write at' b).2 : Nat)) ∧ Mine B w' d (D.write at' b).1 ∧ Below B w w' :=
  (write_any h hP at' b hbl).mono fun _ _ ⟨he, h1, h2⟩ => ⟨he, h1.mono (grow_mine hB), h2.below (fun _ h => h) hB⟩

theorem read_mine (hB : B ≤ w.heap.size) (h : Mine B w d D) (at' : Int) :
    Calls Try.prog 11 #[dp d, .int .i64 at'] w fun e w' => e = .returned (.tuple #[.string ⟨(D.read at').2.1.toArray⟩, .int .i64 ((D.read at').2.2 : Nat)]) ∧ Mine B w' d (D.read at').1 ∧ Below B w w' :=
  (read_any h at').mono fun _ _ ⟨he, h1, h2, _⟩ => ⟨he, h1, h2.below (fun _ h => h) hB⟩

theorem flush_mine (hB : B ≤ w.heap.size) (h : Mine B w d D) (hP : D.P.length ≤ 100000) :
    Calls Try.prog 13 #[dp d] w fun e w' => e = .returned (.int .i64 (D.flush.2 : Nat)) ∧ Mine B w' d D.flush.1 ∧ Below B w w' :=
  (flush_any h hP).mono fun _ _ ⟨he, h1, h2⟩ => ⟨he, h1, h2.below (fun _ h => h) hB⟩

theorem crash_mine (hB : B ≤ w.heap.size) (h : Mine B w d D) (hP : D.P.length ≤ 100000) (K : List Bool) (A2 : Option Addr) (n2 c2 : Nat) (hn2 : n2 = K.length) (hK : K.length ≤ 9223372036854775807) (hb : BoSl w A2 K) (t : Int) :
    Calls Try.prog 9 #[dp d, .slice A2 n2 c2, .int .i64 t] w fun e w' => e = .returned (.int .i64 0) ∧ Mine B w' d (D.crash K t) ∧ Below B w w' := by
  subst hn2
  exact (crash_any h hP K A2 c2 hK hb t).mono fun _ _ ⟨he, h1, h2⟩ => ⟨he, h1, h2.below (fun _ h => h) hB⟩

theorem break_mine (hB : B ≤ w.heap.size) (h : Mine B w d D) (n : Int) (hn : n < 9223372036854775808) :
    Calls Try.prog 15 #[dp d, .int .i64 n] w fun e w' => e = .returned (.int .i64 ((D.brk n).2 : Nat)) ∧ Mine B w' d (D.brk n).1 ∧ Below B w w' :=
  (break_any h n hn).mono fun _ _ ⟨he, h1, h2, _⟩ => ⟨he, h1, h2.below (fun _ h => h) hB⟩

theorem BoSl.nil (w : World) : BoSl w none [] := ⟨fun h => by simp at h⟩

end

theorem flush_nil (w : World) : Calls Try.prog 13 #[.pointer none] w fun e w' => e = .returned (.int .i64 5) ∧ w = w' := by
  go_enter Try.func13, Try.ntmps13
  go_wp2_with fail
  refine (ready_nil _).mono ?_; rintro e w' ⟨rfl, rfl⟩
  go_wp2_with fail
  go_ret
  exact ⟨rfl, rfl⟩

end Go.Proofs.Ytbkieheebilopaa
