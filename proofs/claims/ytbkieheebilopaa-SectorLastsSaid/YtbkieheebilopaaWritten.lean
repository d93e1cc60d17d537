/- A disk of some writes, flushed behind the first so many: what blackboxlaw07.written returns. -/
import Derived.Test.YtbkieheebilopaaStored
namespace Go.Proofs.Ytbkieheebilopaa.Sec

/-- The byte of a write. -/
def wb (k : Nat) : UInt8 := UInt8.ofNat (k + 1)

theorem wb_nat {k : Nat} (h : k < 255) : (wb k).toNat = k + 1 := by
  unfold wb
  rw [UInt8.toNat_ofNat']
  omega

/-- One step more. -/
def stp (fl : Int) (D : Dk) (k : Nat) (a : Int) : Dk := ((if (k : Int) = fl then D.flush.1 else D).write a (List.replicate D.size (wb k))).1

/-- The disk behind so many steps. -/
def wst (fl : Int) (D : Dk) (ats : List Int) : Nat → Dk
  | 0 => D
  | k + 1 => stp fl (wst fl D ats k) k (ats.getD k 0)

theorem Dk.flush_P (D : Dk) : D.flush.1.P.length ≤ D.P.length := by
  unfold Dk.flush
  split
  · exact Nat.le_refl _
  · exact Nat.zero_le _
theorem Dk.flush_size (D : Dk) : D.flush.1.size = D.size := by
  unfold Dk.flush
  split
  · rfl
  · exact D.counted_size
theorem Dk.flush_many (D : Dk) : D.flush.1.many = D.many := by
  unfold Dk.flush
  split
  · rfl
  · exact D.counted_many
theorem Dk.write_P (D : Dk) (a : Int) (b : List UInt8) : (D.write a b).1.P.length ≤ D.P.length + 1 := by
  unfold Dk.write
  split
  · split
    · simp
    · exact Nat.le_succ _
  · exact Nat.le_succ _
theorem Dk.write_size (D : Dk) (a : Int) (b : List UInt8) : (D.write a b).1.size = D.size := by
  unfold Dk.write
  split
  · split
    · exact D.counted_size
    · rfl
  · rfl
theorem Dk.write_many (D : Dk) (a : Int) (b : List UInt8) : (D.write a b).1.many = D.many := by
  unfold Dk.write
  split
  · split
    · exact D.counted_many
    · rfl
  · rfl

theorem stp_size (fl : Int) (D : Dk) (k : Nat) (a : Int) : (stp fl D k a).size = D.size := by
  unfold stp
  rw [Dk.write_size]
  split
  · exact D.flush_size
  · rfl
theorem stp_many (fl : Int) (D : Dk) (k : Nat) (a : Int) : (stp fl D k a).many = D.many := by
  unfold stp
  rw [Dk.write_many]
  split
  · exact D.flush_many
  · rfl
theorem stp_P (fl : Int) (D : Dk) (k : Nat) (a : Int) : (stp fl D k a).P.length ≤ D.P.length + 1 := by
  unfold stp
  refine Nat.le_trans (Dk.write_P _ _ _) ?_
  split
  · have := D.flush_P; omega
  · exact Nat.le_refl _

theorem wst_size (fl : Int) (D : Dk) (ats : List Int) : ∀ k, (wst fl D ats k).size = D.size
  | 0 => rfl
  | k + 1 => by rw [wst, stp_size, wst_size fl D ats k]
theorem wst_many (fl : Int) (D : Dk) (ats : List Int) : ∀ k, (wst fl D ats k).many = D.many
  | 0 => rfl
  | k + 1 => by rw [wst, stp_many, wst_many fl D ats k]
theorem wst_P (fl : Int) (D : Dk) (ats : List Int) : ∀ k, (wst fl D ats k).P.length ≤ D.P.length + k
  | 0 => Nat.le_refl _
  | k + 1 => by
    have h1 := stp_P fl (wst fl D ats k) k (ats.getD k 0)
    have h2 := wst_P fl D ats k
    rw [wst]; omega

end Go.Proofs.Ytbkieheebilopaa.Sec
namespace Go.Proofs.Ytbkieheebilopaa
open Go.RowKit Sec

/-- A slice of ints in memory, a nil one too. -/
structure InSl (W : World) (A : Option Addr) (l : List Int) : Prop where
  out : 0 < l.length → ∃ g o, A = some ⟨g, o, none⟩ ∧ ∀ (i : Nat) (x : Int), l[i]? = some x → W.cell? ⟨g, o + i, none⟩ = some (.int .i64 x)

theorem InSl.up {W W' : World} {A : Option Addr} {l : List Int} (h : InSl W A l) (b : Below W.heap.size W W') : InSl W' A l := by
  refine ⟨fun hl => ?_⟩
  obtain ⟨g, o, hA, hc⟩ := h.out hl
  refine ⟨g, o, hA, fun i x hx => ?_⟩
  have h1 := hc i x hx
  exact (World.cell?_of_block (b.block g (World.block_lt_of_cell? W _ h1))).trans h1

theorem full_at (k n : Nat) (hk : k < 255) (hn : n ≤ 1000000) (w : World) : Calls Try.prog 12 #[.int .u8 (1 + (k : Int)), .int .i64 (n : Nat)] w fun e w' => e = .returned (.string ⟨(List.replicate n (wb k)).toArray⟩) ∧ Below w.heap.size w w' := by
  have := full_any (wb k) n hn w
  rw [wb_nat hk] at this
  rwa [show ((k + 1 : Nat) : Int) = 1 + (k : Int) by omega] at this

theorem write_ret {B : Nat} {w : World} {d : Nat} {D : Dk} (hB : B ≤ w.heap.size) (h : Mine B w d D) (hP : D.P.length < 100000) (a : Int) (b : List UInt8) (hbl : b.length ≤ 16777216) :
    Calls Try.prog 16 #[dp d, .int .i64 a, .string ⟨b.toArray⟩] w fun e w' => ∃ r : Int, e = .returned (.int .i64 r) ∧ Mine B w' d (D.write a b).1 ∧ Below B w w' :=
  (write_mine hB h hP a b hbl).mono fun _ _ ⟨he, h1, h2⟩ => ⟨_, he, h1, h2⟩

theorem flush_ret {B : Nat} {w : World} {d : Nat} {D : Dk} (hB : B ≤ w.heap.size) (h : Mine B w d D) (hP : D.P.length ≤ 100000) :
    Calls Try.prog 13 #[dp d] w fun e w' => ∃ r : Int, e = .returned (.int .i64 r) ∧ Mine B w' d D.flush.1 ∧ Below B w w' :=
  (flush_mine hB h hP).mono fun _ _ ⟨he, h1, h2⟩ => ⟨_, he, h1, h2⟩

/-- What a call of written leaves. -/
def Writ (m n : Nat) (fl : Int) (ats : List Int) (w : World) (e : Ending) (w' : World) : Prop := ∃ d, e = .returned (dp d) ∧ Mine w.heap.size w' d (wst fl (Dk.new m n) ats ats.length) ∧ Below w.heap.size w w'

set_option maxHeartbeats 4000000 in
theorem written_ok (m n : Nat) (h1 : 1 ≤ m) (h2 : m ≤ 64) (h3 : 64 ≤ n) (h4 : n ≤ 1024) (fl : Int) (A : Option Addr) (ats : List Int) (c : Nat) (hl : ats.length ≤ 60) (w : World) (hA : InSl w A ats) :
    Calls Try.prog 7 #[.int .i64 (m : Nat), .int .i64 (n : Nat), .int .i64 fl, .slice A ats.length c, .int .u8 1] w (Writ m n fl ats w) := by
  have HA := Lib.hid hA
  have NW := Lib.hid (new_ok m n h1 (by omega) h3 h4 w)
  have hm : (m : Int) ≤ 64 := by omega
  have HN := Lib.hid h4
  clear hA h1 h2 h3 h4
  obtain ⟨l, hll⟩ : ∃ l, l = ats.length := ⟨_, rfl⟩
  rw [← hll] at hl ⊢
  have hli : (l : Int) ≤ 60 := by omega
  have HL := Lib.hid hll
  clear hll
  go_enter Try.func7, Try.ntmps7
  go_wp2_with fail
  refine NW.out.mono ?_; rintro e w1 ⟨d, rfl, M1, b1⟩
  have M := Lib.hid M1
  have Bl := Lib.hid b1
  clear M1 b1
  go_wp2_with fail
  go_loopw [13] (fun i wr => ∃ k : Nat, k ≤ l ∧ i = .int .i64 (k : Nat) ∧ Hid (Mine w.heap.size wr d (wst fl (Dk.new m n) ats k)) ∧ Hid (Below w.heap.size w wr)) (fun i _ => l - (intOf i).toNat)
  case atStart => exact ⟨0, by omega, rfl, M, Bl⟩
  case round =>
    obtain ⟨k, hk, rfl, HM, HB⟩ := hrel
    by_cases hlt : k < l
    · have klt : (k : Int) < (l : Int) := by omega
      have hka : k < ats.length := by rw [← HL.out]; exact hlt
      obtain ⟨g, o, hA, hc⟩ := HA.out.out (by omega)
      subst hA
      have ca0 := hc k ats[k] (List.getElem?_eq_getElem hka)
      have glt := World.block_lt_of_cell? w _ ca0
      have ca := ((HB.out.cell (p := ⟨g, o + k, none⟩) glt).trans ca0 : wr.cell? ⟨g, o + k, none⟩ = some (.int .i64 ats[k]))
      clear ca0
      have hw1 : IntKind.u8.wrap (k : Int) = (k : Int) := by rw [IntKind.wrap_u8']; omega
      have hw2 : IntKind.u8.wrap (1 + (k : Int)) = 1 + (k : Int) := by rw [IntKind.wrap_u8']; omega
      have HS : Hid (wst fl (Dk.new m n) ats (k + 1) = stp fl (wst fl (Dk.new m n) ats k) k ats[k]) := by
        show wst fl (Dk.new m n) ats (k + 1) = _
        rw [wst, List.getD_eq_getElem?_getD, List.getElem?_eq_getElem hka]; rfl
      have HP := Lib.hid (wst_P fl (Dk.new m n) ats k)
      have HZ := Lib.hid (wst_size fl (Dk.new m n) ats k)
      clear hc
      generalize ats[k] = a at *
      generalize wst fl (Dk.new m n) ats k = D at *
      obtain ⟨X, hX⟩ : ∃ X, X = List.replicate n (wb k) := ⟨_, rfl⟩
      have FC : Hid (∀ w, Calls Try.prog 12 #[.int .u8 (1 + (k : Int)), .int .i64 (n : Nat)] w fun e w' => e = .returned (.string ⟨X.toArray⟩) ∧ Below w.heap.size w w') := by
        rw [hX]; exact fun w => full_at k n (by omega) (by have := HN.out; omega) w
      have HX := Lib.hid hX
      have DP : D.P.length < 100000 := by have := HP.out; simp [Dk.new] at this; omega
      have XL : X.length ≤ 16777216 := by rw [hX]; simp; have := HN.out; omega
      clear hX
      by_cases hf : (k : Int) = fl
      · subst hf
        go_wp2_with fail
        refine (flush_ret HB.out.size HM.out (Nat.le_of_lt DP)).mono ?_; rintro e w2 ⟨r0, rfl, m2, b2⟩
        have ca2 := ((b2.cell (p := ⟨g, o + k, none⟩) glt).trans ca : w2.cell? ⟨g, o + k, none⟩ = some (.int .i64 a))
        have M2 := Lib.hid m2
        have B2 := Lib.hid (HB.out.trans b2)
        have FP : D.flush.1.P.length < 100000 := by have := D.flush_P; omega
        clear m2 b2
        go_wp2_with fail
        go_region_law (first
          | (go_simp; (with_reducible refine (FC.out _).mono ?_); rintro e wn ⟨rfl, bn⟩; have cn := ((bn.cell (p := ⟨g, o + k, none⟩) (World.block_lt_of_cell? _ _ ca2)).trans ca2 : wn.cell? ⟨g, o + k, none⟩ = some (.int .i64 a)); have bs : w.heap.size ≤ wn.heap.size := Nat.le_trans B2.out.size bn.size; have mn := Lib.hid ((M2.out.up (Below.refl _ _).drew).up bn); replace bn := Lib.hid bn; dsimp only)
          | (go_simp; (with_reducible refine (write_ret bs mn.out FP a X XL).mono ?_); rintro e wm ⟨r, rfl, mm, bm⟩; replace mm := Lib.hid mm; replace bm := Lib.hid bm; dsimp only))
        all_goals
          go_wp2_with fail
          go_roundw
          case rel =>
            refine ⟨k + 1, by omega, by go_num, Lib.hid ?_, Lib.hid ?_⟩
            · rw [HS.out]
              have hm' := mm.out
              rw [HX.out] at hm'
              unfold stp
              rw [HZ.out, if_pos rfl]
              exact hm'
            · exact (((up_trans B2.out (Below.refl _ _).drew).trans (bn.out.mono B2.out.size))).trans bm.out
          case measure => simp [intOf]; omega
      · have hne : ((k : Int) == fl) = false := by simpa using hf
        go_wp2_with fail
        go_region_law (first
          | (go_simp; (with_reducible refine (FC.out _).mono ?_); rintro e wn ⟨rfl, bn⟩; have cn := ((bn.cell (p := ⟨g, o + k, none⟩) (World.block_lt_of_cell? _ _ ca)).trans ca : wn.cell? ⟨g, o + k, none⟩ = some (.int .i64 a)); have bs : w.heap.size ≤ wn.heap.size := Nat.le_trans HB.out.size bn.size; have mn := Lib.hid ((HM.out.up (Below.refl _ _).drew).up bn); replace bn := Lib.hid bn; dsimp only)
          | (go_simp; (with_reducible refine (write_ret bs mn.out DP a X XL).mono ?_); rintro e wm ⟨r, rfl, mm, bm⟩; replace mm := Lib.hid mm; replace bm := Lib.hid bm; dsimp only))
        all_goals
          go_wp2_with fail
          go_roundw
          case rel =>
            refine ⟨k + 1, by omega, by go_num, Lib.hid ?_, Lib.hid ?_⟩
            · rw [HS.out]
              have hm' := mm.out
              rw [HX.out] at hm'
              unfold stp
              rw [HZ.out, if_neg hf]
              exact hm'
            · exact (((up_trans HB.out (Below.refl _ _).drew).trans (bn.out.mono HB.out.size))).trans bm.out
          case measure => simp [intOf]; omega
    · obtain rfl : k = l := by omega
      rw [HL.out] at HM
      go_wp2_with fail
      go_ret
      exact ⟨d, rfl, HM.out, HB.out⟩

end Go.Proofs.Ytbkieheebilopaa
