/- The document's rows for a disk hold: what blackboxlaw07.stored returns. -/
import Derived.Test.YtbkieheebilopaaSecJ
namespace Go.Proofs.Ytbkieheebilopaa.Sec

def sa : List UInt8 := List.replicate 64 97
def sb : List UInt8 := List.replicate 64 98
def sz : List UInt8 := List.replicate 64 0
def sz2 : List UInt8 := List.replicate 128 0
def sz3 : List UInt8 := List.replicate 61 0
def sx : List UInt8 := [98, 98, 98] ++ sz3
def sD0 : Dk := Dk.new 2 64
def sD1 : Dk := (sD0.write 1 sa).1
def sD2 : Dk := (sD1.read 1).1
def sD3 : Dk := sD2.crash [] (-1)
def sD4 : Dk := (sD3.read 1).1
def sD5 : Dk := (sD4.write 0 sb).1
def sD6 : Dk := sD5.crash [true] 3
def sD7 : Dk := (sD6.read 0).1

theorem st1 : (sD0.write 1 sa).2 = 0 := by decide
theorem st2 : (sD1.read 1).2 = (sa, 0) := by decide
theorem st3 : sD2.L = sz2 := by decide
theorem st4 : (sD3.read 1).2 = (sz, 0) := by decide
theorem st5 : (sD4.write 0 sb).2 = 0 := by decide
theorem st6 : (sD6.read 0).2 = (sx, 0) := by decide
theorem st7 : (sD7.write 2 sa).2 = 6 := by decide
theorem sp0 : sD0.P.length = 0 := by decide
theorem sp2 : sD2.P.length = 1 := by decide
theorem sp4 : sD4.P.length = 0 := by decide
theorem sp5 : sD5.P.length = 1 := by decide
theorem sp7 : sD7.P.length = 0 := by decide

end Go.Proofs.Ytbkieheebilopaa.Sec
namespace Go.Proofs.Ytbkieheebilopaa
open Go.RowKit Sec

section
variable {B : Nat} {w : World} {d : Nat}

theorem new_two (w : World) : Calls Try.prog 14 #[.int .i64 2, .int .i64 64] w fun e w' => ∃ d, e = .returned (.tuple #[dp d, .int .i64 0]) ∧ Mine w.heap.size w' d sD0 ∧ Below w.heap.size w w' :=
  new_ok 2 64 (by omega) (by omega) (by omega) (by omega) w

theorem c_w1 (hB : B ≤ w.heap.size) (h : Mine B w d sD0) : Calls Try.prog 16 #[dp d, .int .i64 1, .string ⟨sa.toArray⟩] w fun e w' => e = .returned (.int .i64 0) ∧ Mine B w' d sD1 ∧ Below B w w' := by
  have := write_mine hB h (by rw [sp0]; omega) 1 sa (by simp [sa])
  rw [st1] at this
  exact this
theorem c_r2 (hB : B ≤ w.heap.size) (h : Mine B w d sD1) : Calls Try.prog 11 #[dp d, .int .i64 1] w fun e w' => e = .returned (.tuple #[.string ⟨sa.toArray⟩, .int .i64 0]) ∧ Mine B w' d sD2 ∧ Below B w w' := by
  have := read_mine hB h 1
  rw [st2] at this
  exact this
theorem c_i3 (h : Mine B w d sD2) : Calls Try.prog 8 #[dp d] w fun e w' => e = .returned (.string ⟨sz2.toArray⟩) ∧ w = w' := by
  have := image_any h
  rw [st3] at this
  exact this
theorem c_c3 (hB : B ≤ w.heap.size) (h : Mine B w d sD2) : Calls Try.prog 9 #[dp d, .slice none 0 0, .int .i64 (-1)] w fun e w' => e = .returned (.int .i64 0) ∧ Mine B w' d sD3 ∧ Below B w w' :=
  crash_mine hB h (by rw [sp2]; omega) [] none 0 0 rfl (by simp) (BoSl.nil w) (-1)
theorem c_r4 (hB : B ≤ w.heap.size) (h : Mine B w d sD3) : Calls Try.prog 11 #[dp d, .int .i64 1] w fun e w' => e = .returned (.tuple #[.string ⟨sz.toArray⟩, .int .i64 0]) ∧ Mine B w' d sD4 ∧ Below B w w' := by
  have := read_mine hB h 1
  rw [st4] at this
  exact this
theorem c_w5 (hB : B ≤ w.heap.size) (h : Mine B w d sD4) : Calls Try.prog 16 #[dp d, .int .i64 0, .string ⟨sb.toArray⟩] w fun e w' => e = .returned (.int .i64 0) ∧ Mine B w' d sD5 ∧ Below B w w' := by
  have := write_mine hB h (by rw [sp4]; omega) 0 sb (by simp [sb])
  rw [st5] at this
  exact this
theorem c_c6 (hB : B ≤ w.heap.size) (h : Mine B w d sD5) {g : Nat} {t : TypeId} (hg : Has w g t [.bool true]) : Calls Try.prog 9 #[dp d, .slice (some ⟨g, 0, none⟩) 1 1, .int .i64 3] w fun e w' => e = .returned (.int .i64 0) ∧ Mine B w' d sD6 ∧ Below B w w' :=
  crash_mine hB h (by rw [sp5]; omega) [true] (some ⟨g, 0, none⟩) 1 1 rfl (by simp) ⟨fun _ => ⟨g, 0, rfl, fun i b hb => by
    cases i with
    | zero => simp at hb; subst hb; exact hg.at rfl
    | succ i => simp at hb⟩⟩ 3
theorem c_r7 (hB : B ≤ w.heap.size) (h : Mine B w d sD6) : Calls Try.prog 11 #[dp d, .int .i64 0] w fun e w' => e = .returned (.tuple #[.string ⟨sx.toArray⟩, .int .i64 0]) ∧ Mine B w' d sD7 ∧ Below B w w' := by
  have := read_mine hB h 0
  rw [st6] at this
  exact this
theorem c_w8 (hB : B ≤ w.heap.size) (h : Mine B w d sD7) : Calls Try.prog 16 #[dp d, .int .i64 2, .string ⟨sa.toArray⟩] w fun e w' => e = .returned (.int .i64 6) ∧ Below B w w' := by
  have := write_mine hB h (by rw [sp7]; omega) 2 sa (by simp [sa])
  rw [st7] at this
  exact this.mono fun _ _ ⟨h1, _, h2⟩ => ⟨h1, h2⟩
end

theorem full_a (w : World) : Calls Try.prog 12 #[.int .u8 97, .int .i64 64] w fun e w' => e = .returned (.string ⟨sa.toArray⟩) ∧ Below w.heap.size w w' := full_any 97 64 (by omega) w
theorem full_b (w : World) : Calls Try.prog 12 #[.int .u8 98, .int .i64 64] w fun e w' => e = .returned (.string ⟨sb.toArray⟩) ∧ Below w.heap.size w w' := full_any 98 64 (by omega) w
theorem full_z (w : World) : Calls Try.prog 12 #[.int .u8 0, .int .i64 64] w fun e w' => e = .returned (.string ⟨sz.toArray⟩) ∧ Below w.heap.size w w' := full_any 0 64 (by omega) w
theorem full_z2 (w : World) : Calls Try.prog 12 #[.int .u8 0, .int .i64 128] w fun e w' => e = .returned (.string ⟨sz2.toArray⟩) ∧ Below w.heap.size w w' := full_any 0 128 (by omega) w
theorem full_z3 (w : World) : Calls Try.prog 12 #[.int .u8 0, .int .i64 61] w fun e w' => e = .returned (.string ⟨sz3.toArray⟩) ∧ Below w.heap.size w w' := full_any 0 61 (by omega) w

theorem sx_text : (⟨#[98, 98, 98]⟩ : ByteArray) ++ ⟨sz3.toArray⟩ = ⟨sx.toArray⟩ := by
  apply ByteArray.ext
  simp [sx]

set_option maxHeartbeats 2000000 in
set_option maxRecDepth 100000 in
theorem stored_any (w : World) : Calls Try.prog 6 #[] w fun e w' => e = .returned (.bool true) ∧ Below w.heap.size w w' := by
  have hx := sx_text
  have hl : ¬ 9223372036854775807 < (⟨#[98, 98, 98]⟩ : ByteArray).size + (⟨sz3.toArray⟩ : ByteArray).size := by
    rw [text_list]; simp [sz3]; decide
  go_enter Try.func6, Try.ntmps6
  go_wp2_with fail
  refine (new_two _).mono ?_; rintro e w1 ⟨d, rfl, M1, b1⟩
  have M := Lib.hid M1
  have Bl := Lib.hid b1
  clear M1 b1
  go_wp2_with fail
  refine (full_a _).mono ?_; rintro e w2 ⟨rfl, b⟩
  replace M := Lib.hid (M.out.up b)
  replace Bl := Lib.hid (up_trans Bl.out b)
  clear b
  go_wp2_with fail
  refine (c_w1 Bl.out.size M.out).mono ?_; rintro e w3 ⟨rfl, m, b⟩
  replace M := Lib.hid m
  replace Bl := Lib.hid (Bl.out.trans b)
  clear m b
  go_wp2_with fail
  refine (c_r2 Bl.out.size M.out).mono ?_; rintro e w4 ⟨rfl, m, b⟩
  replace M := Lib.hid m
  replace Bl := Lib.hid (Bl.out.trans b)
  clear m b
  go_wp2_with fail
  refine (c_i3 M.out).mono ?_; rintro e w4 ⟨rfl, rfl⟩
  go_wp2_with fail
  refine (c_c3 Bl.out.size M.out).mono ?_; rintro e w5 ⟨rfl, m, b⟩
  replace M := Lib.hid m
  replace Bl := Lib.hid (Bl.out.trans b)
  clear m b
  go_wp2_with fail
  refine (c_r4 Bl.out.size M.out).mono ?_; rintro e w6 ⟨rfl, m, b⟩
  replace M := Lib.hid m
  replace Bl := Lib.hid (Bl.out.trans b)
  clear m b
  go_wp2_with fail
  refine (full_b _).mono ?_; rintro e w7 ⟨rfl, b⟩
  replace M := Lib.hid (M.out.up b)
  replace Bl := Lib.hid (up_trans Bl.out b)
  clear b
  go_wp2_with fail
  refine (c_w5 Bl.out.size M.out).mono ?_; rintro e w8 ⟨rfl, m, b⟩
  replace M := Lib.hid m
  replace Bl := Lib.hid (Bl.out.trans b)
  clear m b
  go_wp2_with fail
  refine (c_c6 (Nat.le_trans Bl.out.size (by simp)) (M.out.up ((Below.refl _ _).alloc (Nat.le_refl _) _)) (Has.make w8 _ [.bool true])).mono ?_; rintro e w9 ⟨rfl, m, b⟩
  replace M := Lib.hid m
  replace Bl := Lib.hid ((Bl.out.alloc Bl.out.size _).trans b)
  clear m b
  go_wp2_with fail
  refine (c_r7 Bl.out.size M.out).mono ?_; rintro e w10 ⟨rfl, m, b⟩
  replace M := Lib.hid m
  replace Bl := Lib.hid (Bl.out.trans b)
  clear m b
  go_wp2_with fail
  refine (full_a _).mono ?_; rintro e w11 ⟨rfl, b⟩
  replace M := Lib.hid (M.out.up b)
  replace Bl := Lib.hid (up_trans Bl.out b)
  clear b
  go_wp2_with fail
  refine (full_z2 _).mono ?_; rintro e w12 ⟨rfl, b⟩
  replace M := Lib.hid (M.out.up b)
  replace Bl := Lib.hid (up_trans Bl.out b)
  clear b
  go_wp2_with fail
  refine (full_z _).mono ?_; rintro e w13 ⟨rfl, b⟩
  replace M := Lib.hid (M.out.up b)
  replace Bl := Lib.hid (up_trans Bl.out b)
  clear b
  go_wp2_with fail
  refine (full_z3 _).mono ?_; rintro e w14 ⟨rfl, b⟩
  replace M := Lib.hid (M.out.up b)
  replace Bl := Lib.hid (up_trans Bl.out b)
  clear b
  go_wp2_with fail
  refine (flush_nil _).mono ?_; rintro e w14 ⟨rfl, rfl⟩
  go_wp2_with fail
  refine (c_w8 Bl.out.size M.out).mono ?_; rintro e w15 ⟨rfl, b⟩
  replace Bl := Lib.hid (Bl.out.trans b)
  clear b
  go_wp2_with fail
  go_ret
  exact ⟨rfl, Bl.out⟩

end Go.Proofs.Ytbkieheebilopaa
