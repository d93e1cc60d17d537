/- An area of a disk that no Break is on, told by two lists alone: what its disk reads as, and what lasts; the document's row for areas. -/
import Derived.Test.YtihajcjfppmfjaaArF
namespace Go.Proofs.Ytihajcjfppmfjaa
open Go.RowKit Sec

/-- An area that the call itself made, on a disk with no Break: M sectors of s bytes, that read as V; L lasts; at most p writes are pending. -/
def AS (B : Nat) (w : World) (a d f m M s : Nat) (V L : List UInt8) (p : Nat) : Prop := ∃ D, AM B w a d D f m ∧ D.br = false ∧ D.many = M ∧ D.size = s ∧ D.view = V ∧ D.L = L ∧ D.P.length ≤ p

section
variable {B : Nat} {w : World} {a d f m M s : Nat} {V L : List UInt8} {p : Nat}

theorem AS.up {w' : World} (h : AS B w a d f m M s V L p) (b : Below w.heap.size w w') : AS B w' a d f m M s V L p := by
  obtain ⟨D, h1, h2⟩ := h
  exact ⟨D, h1.up b, h2⟩

theorem AS.facts (h : AS B w a d f m M s V L p) : 1 ≤ m ∧ m ≤ 4096 ∧ f ≤ 4096 ∧ 64 ≤ s ∧ s ≤ 1024 ∧ m * s ≤ 4194304 ∧ (f + m) * s ≤ M * s ∧ V.length = M * s ∧ L.length = M * s ∧ M ≤ 4096 := by
  obtain ⟨D, h1, h2, rfl, rfl, rfl, rfl, h3⟩ := h
  obtain ⟨n1, n2, n3, n4, n5, n6, n7⟩ := h1.nums
  exact ⟨n1, n2, n3, n4, n5, n6, n7, Dk.view_len h1.ok, h1.ok.len, h1.ok.m2⟩

theorem as_new {M s : Nat} (h1 : 1 ≤ M) (h2 : M ≤ 4096) (h3 : 64 ≤ s) (h4 : s ≤ 1024) {F : Nat → Prop} (hB : ∀ k, F k → B ≤ k) (h : Dsk F w d (Dk.new M s)) (hw : B ≤ w.heap.size) (f m : Nat) (h5 : 1 ≤ m) (h6 : f + m ≤ M) :
    Calls Try.prog 7 #[dp d, .int .i64 (f : Nat), .int .i64 (m : Nat)] w fun e w' => ∃ a, e = .returned (.tuple #[ap a, .int .i64 0]) ∧ AS B w' a d f m M s (List.replicate (M * s) 0) (List.replicate (M * s) 0) 0 ∧ Below B w w' := by
  have _ := h1; have _ := h2; have _ := h3; have _ := h4
  refine (am_new hB h hw f m h5 h6).mono ?_
  rintro e w' ⟨a, rfl, hA, b⟩
  exact ⟨a, rfl, ⟨_, hA, rfl, rfl, rfl, rfl, rfl, Nat.le_refl _⟩, b⟩

theorem as_put (hB : B ≤ w.heap.size) (h : AS B w a d f m M s V L p) (hp : p ≤ 90000) (o : Int) (b : List UInt8) (hl : b.length ≤ 20000) :
    Calls Try.prog 9 #[ap a, .int .i64 o, .string ⟨b.toArray⟩] w fun e w' => e = .returned (.int .i64 (aunfit (m * s) o (b.length : Nat) : Nat)) ∧
      AS B w' a d f m M s (if aunfit (m * s) o (b.length : Nat) = 0 then lay V (f * s + o.toNat) b else V) L (p + M) ∧ Below B w w' := by
  obtain ⟨D, h1, h2, rfl, rfl, rfl, rfl, h3⟩ := h
  have hm2 := h1.ok.m2
  rcases aunfit_or (m * D.size) o (b.length : Nat) with hu | hu
  · rw [hu, if_pos rfl]
    obtain ⟨u1, u2, u3⟩ := aunfit_in hu
    obtain ⟨o, rfl⟩ : ∃ k : Nat, o = k := ⟨o.toNat, by omega⟩
    rw [Int.toNat_natCast]
    refine (put_mine hB h1 (by omega) o b (by omega)).mono ?_
    rintro e w' ⟨r, E, rfl, ⟨j, hq⟩, hA, bl⟩
    obtain ⟨q1, q2, q3, q4⟩ := hq.all h2
    subst q1
    refine ⟨rfl, ⟨E, hA, q3, hq.to.up.many, hq.to.up.size, q2, q4, ?_⟩, bl⟩
    have := hq.few
    rw [hq.to.P, List.length_append, Dk.puts_len]; omega
  · rw [hu, if_neg (by decide)]
    obtain ⟨a1, F, a2, a3⟩ := h1
    refine (put_bad a2 o ⟨b.toArray⟩ (by rw [text_list]; omega) (by rw [text_list]; exact hu)).mono ?_
    rintro e w' ⟨rfl, bl⟩
    exact ⟨rfl, ⟨D, ⟨a1, F, a2.up bl, a3⟩, h2, rfl, rfl, rfl, rfl, by omega⟩, bl.mono hB⟩

theorem as_get (hB : B ≤ w.heap.size) (h : AS B w a d f m M s V L p) (o n : Int) (hn : n < 9223372036854775808) :
    Calls Try.prog 12 #[ap a, .int .i64 o, .int .i64 n] w fun e w' => e = .returned (.tuple #[.string ⟨(if aunfit (m * s) o n = 0 then (V.drop (f * s + o.toNat)).take n.toNat else []).toArray⟩, .int .i64 (aunfit (m * s) o n : Nat)]) ∧
      AS B w' a d f m M s V L p ∧ Below B w w' := by
  obtain ⟨D, h1, h2, rfl, rfl, rfl, rfl, h3⟩ := h
  rcases aunfit_or (m * D.size) o n with hu | hu
  · rw [hu, if_pos rfl]
    obtain ⟨u1, u2, u3⟩ := aunfit_in hu
    obtain ⟨o, rfl⟩ : ∃ k : Nat, o = k := ⟨o.toNat, by omega⟩
    obtain ⟨n, rfl⟩ : ∃ k : Nat, n = k := ⟨n.toNat, by omega⟩
    rw [Int.toNat_natCast, Int.toNat_natCast]
    refine (get_mine hB h1 o n (by omega)).mono ?_
    rintro e w' ⟨r, t, E, rfl, hq, hA, bl⟩
    obtain ⟨rfl, rfl, rfl⟩ := hq.all h2
    exact ⟨rfl, ⟨_, hA, h2, rfl, rfl, rfl, rfl, h3⟩, bl⟩
  · rw [hu, if_neg (by decide)]
    obtain ⟨a1, F, a2, a3⟩ := h1
    refine (get_bad a2 o n hn hu).mono ?_
    rintro e w' ⟨rfl, bl⟩
    exact ⟨rfl, ⟨D, ⟨a1, F, a2.up bl, a3⟩, h2, rfl, rfl, rfl, rfl, h3⟩, bl.mono hB⟩

theorem as_sync (hB : B ≤ w.heap.size) (h : AS B w a d f m M s V L p) (hp : p ≤ 100000) :
    Calls Try.prog 10 #[ap a] w fun e w' => e = .returned (.int .i64 0) ∧ AS B w' a d f m M s V V 0 ∧ Below B w w' := by
  obtain ⟨D, h1, h2, rfl, rfl, rfl, rfl, h3⟩ := h
  have hd : D.down = false := by unfold Dk.down; rw [h2]; rfl
  obtain ⟨q1, q2, q3⟩ := Dk.flush_view h1.ok hd
  refine (async_mine hB h1 (by omega)).mono ?_
  rintro e w' ⟨rfl, hA, bl⟩
  rw [q3]
  have hf : D.flush.1 = D.counted.settled D.P D.size := by unfold Dk.flush; rw [hd]; simp
  refine ⟨rfl, ⟨_, hA, ?_, ?_, ?_, q2, q1, ?_⟩, bl⟩
  · rw [hf]; exact D.counted_br.trans h2
  · rw [hf]; exact D.counted_many
  · rw [hf]; exact D.counted_size
  · rw [hf]; exact Nat.le_refl 0

theorem as_image (h : AS B w a d f m M s V L p) : Calls Try.prog 11 #[dp d] w fun e w' => e = .returned (.string ⟨L.toArray⟩) ∧ w = w' := by
  obtain ⟨D, h1, h2, rfl, rfl, rfl, rfl, h3⟩ := h
  exact aimage_mine h1

theorem as_read (hB : B ≤ w.heap.size) (h : AS B w a d f m M s V L p) (k : Nat) (hk : k < M) :
    Calls Try.prog 18 #[dp d, .int .i64 (k : Nat)] w fun e w' => e = .returned (.tuple #[.string ⟨(Sc s V k).toArray⟩, .int .i64 0]) ∧ AS B w' a d f m M s V L p ∧ Below B w w' := by
  obtain ⟨D, h1, h2, rfl, rfl, rfl, rfl, h3⟩ := h
  have hu : D.unfit (k : Nat) = 0 := by rw [Dk.unfit_in hk]; unfold Dk.down; rw [h2]; rfl
  have hr : D.read (k : Nat) = (D, Sc D.size D.view k, 0) := by
    unfold Dk.read
    rw [if_pos hu, Int.toNat_natCast, Dk.sec_view h1.ok hk]
    have : D.counted = D := by unfold Dk.counted; rw [h2]; rfl
    rw [this]
  refine (aread_mine hB h1 (k : Nat)).mono ?_
  rw [hr]
  rintro e w' ⟨rfl, hA, bl⟩
  exact ⟨rfl, ⟨D, hA, h2, rfl, rfl, rfl, rfl, h3⟩, bl⟩

theorem as_len (h : AS B w a d f m M s V L p) : Calls Try.prog 13 #[ap a] w fun e w' => e = .returned (.int .i64 ((m * s : Nat) : Nat)) ∧ Below w.heap.size w w' := by
  obtain ⟨D, h1, h2, rfl, rfl, rfl, rfl, h3⟩ := h
  exact alen_mine h1

theorem as_bad (h : AS B w a d f m M s V L p) (g n : Int) (hn : n < 9223372036854775808) (hb : n < 1 ∨ g < 0 ∨ (M : Int) - n < g) :
    Calls Try.prog 7 #[dp d, .int .i64 g, .int .i64 n] w fun e w' => e = .returned (.tuple #[.pointer none, .int .i64 1]) ∧ Below w.heap.size w w' := by
  obtain ⟨D, h1, h2, rfl, rfl, rfl, rfl, h3⟩ := h
  exact anew_bad_mine h1 g n hn hb
end

end Go.Proofs.Ytihajcjfppmfjaa
namespace Go.Proofs.Ytihajcjfppmfjaa.Sec
def pZ : List UInt8 := List.replicate 256 0
def pV : List UInt8 := lay pZ 126 [97, 98, 99, 100]
def pS : List UInt8 := Sc 64 pV 1
set_option maxRecDepth 100000 in
theorem pG : (pV.drop 125).take 6 = [0, 97, 98, 99, 100, 0] := by decide
set_option maxRecDepth 100000 in
theorem pL : pS.length = 64 := by decide
set_option maxRecDepth 100000 in
theorem pE : pS.drop 62 = [97, 98] := by decide
end Go.Proofs.Ytihajcjfppmfjaa.Sec
namespace Go.Proofs.Ytihajcjfppmfjaa
open Go.RowKit Sec

section
variable {B : Nat} {w : World} {a d : Nat}

/-- The areas of the document's row. -/
abbrev PA (B : Nat) (w : World) (a d : Nat) (V : List UInt8) (p : Nat) : Prop := AS B w a d 1 2 4 64 V pZ p

theorem pl_new {F : Nat → Prop} (hB : ∀ k, F k → B ≤ k) (h : Dsk F w d (Dk.new 4 64)) (hw : B ≤ w.heap.size) :
    Calls Try.prog 7 #[dp d, .int .i64 1, .int .i64 2] w fun e w' => ∃ a, e = .returned (.tuple #[ap a, .int .i64 0]) ∧ PA B w' a d pZ 0 ∧ Below B w w' :=
  as_new (by omega) (by omega) (by omega) (by omega) hB h hw 1 2 (by omega) (by omega)
theorem pl_put (hB : B ≤ w.heap.size) (h : PA B w a d pZ 0) : Calls Try.prog 9 #[ap a, .int .i64 62, .string ⟨#[97, 98, 99, 100]⟩] w fun e w' => e = .returned (.int .i64 0) ∧ PA B w' a d pV 4 ∧ Below B w w' :=
  as_put hB h (by omega) 62 [97, 98, 99, 100] (by decide)
theorem pl_get (hB : B ≤ w.heap.size) (h : PA B w a d pV 4) : Calls Try.prog 12 #[ap a, .int .i64 61, .int .i64 6] w fun e w' => e = .returned (.tuple #[.string ⟨#[0, 97, 98, 99, 100, 0]⟩, .int .i64 0]) ∧ PA B w' a d pV 4 ∧ Below B w w' := by
  have := as_get hB h 61 6 (by omega)
  rw [show aunfit (2 * 64) 61 6 = 0 from rfl, if_pos rfl, show (1 * 64 + (61 : Int).toNat) = 125 from rfl, show ((6 : Int).toNat) = 6 from rfl, pG] at this
  exact this
theorem pl_over (hB : B ≤ w.heap.size) (h : PA B w a d pV 4) : Calls Try.prog 12 #[ap a, .int .i64 126, .int .i64 3] w fun e w' => e = .returned (.tuple #[.string ⟨#[]⟩, .int .i64 6]) ∧ PA B w' a d pV 4 ∧ Below B w w' :=
  as_get hB h 126 3 (by omega)
theorem pl_read (hB : B ≤ w.heap.size) (h : PA B w a d pV 4) : Calls Try.prog 18 #[dp d, .int .i64 1] w fun e w' => e = .returned (.tuple #[.string ⟨pS.toArray⟩, .int .i64 0]) ∧ PA B w' a d pV 4 ∧ Below B w w' :=
  as_read hB h 1 (by omega)
theorem pl_bad (h : PA B w a d pV 4) : Calls Try.prog 7 #[dp d, .int .i64 3, .int .i64 2] w fun e w' => e = .returned (.tuple #[.pointer none, .int .i64 1]) ∧ Below w.heap.size w w' :=
  as_bad h 3 2 (by omega) (by omega)
theorem pl_len (h : PA B w a d pV 4) : Calls Try.prog 13 #[ap a] w fun e w' => e = .returned (.int .i64 128) ∧ Below w.heap.size w w' := as_len h
end

set_option maxHeartbeats 2000000 in
set_option maxRecDepth 100000 in
/-- The document's row holds. -/
theorem placed_any (w : World) : Calls Try.prog 8 #[] w fun e w' => e = .returned (.bool true) ∧ Below w.heap.size w w' := by
  have hN : ∀ w, Calls Try.prog 6 #[.int .i64 4, .int .i64 64] w (Newly 4 64 w) := fun w => new_ok 4 64 (by omega) (by omega) (by omega) (by omega) w
  have HN := Lib.hid hN
  have hs : (⟨pS.toArray⟩ : ByteArray).size = 64 := by rw [text_list, pL]
  have hx : (⟨pS.toArray⟩ : ByteArray).extract 62 64 = ⟨#[97, 98]⟩ := by
    rw [extract_mid, show (⟨pS.toArray⟩ : ByteArray).data.toList = pS from rfl, pE]; rfl
  clear hN
  go_enter Try.func8, Try.ntmps8
  go_wp2_with fail
  refine (HN.out _).mono ?_; rintro e w1 ⟨d, rfl, M1, b1⟩
  have M := Lib.hid M1
  have Bl := Lib.hid b1
  clear M1 b1
  go_wp2_with fail
  refine (pl_new (fun _ h => h) M.out Bl.out.size).mono ?_; rintro e w2 ⟨a, rfl, m, b⟩
  clear M
  have M := Lib.hid m
  replace Bl := Lib.hid (Bl.out.trans b)
  clear m b
  go_wp2_with fail
  refine (pl_put Bl.out.size M.out).mono ?_; rintro e w3 ⟨rfl, m, b⟩
  replace M := Lib.hid m
  replace Bl := Lib.hid (Bl.out.trans b)
  clear m b
  go_wp2_with fail
  refine (pl_get Bl.out.size M.out).mono ?_; rintro e w4 ⟨rfl, m, b⟩
  replace M := Lib.hid m
  replace Bl := Lib.hid (Bl.out.trans b)
  clear m b
  go_wp2_with fail
  refine (pl_read Bl.out.size M.out).mono ?_; rintro e w5 ⟨rfl, m, b⟩
  replace M := Lib.hid m
  replace Bl := Lib.hid (Bl.out.trans b)
  clear m b
  go_wp2_with fail
  refine (pl_over Bl.out.size M.out).mono ?_; rintro e w6 ⟨rfl, m, b⟩
  replace M := Lib.hid m
  replace Bl := Lib.hid (Bl.out.trans b)
  clear m b
  go_wp2_with fail
  refine (pl_bad M.out).mono ?_; rintro e w7 ⟨rfl, b⟩
  replace M := Lib.hid (M.out.up b)
  replace Bl := Lib.hid (up_trans Bl.out b)
  clear b
  go_wp2_with fail
  refine (pl_len M.out).mono ?_; rintro e w8 ⟨rfl, b⟩
  replace Bl := Lib.hid (up_trans Bl.out b)
  clear b
  go_wp2_with fail
  go_ret
  exact ⟨rfl, Bl.out⟩

end Go.Proofs.Ytihajcjfppmfjaa
