/- A disk's Read, whole; a new disk. -/
import Derived.Test.YtihajcjfppmfjaaSecD
namespace Go.Proofs.Ytihajcjfppmfjaa
open Go.RowKit Sec

theorem lats_at {D : Dk} {k : Nat} (h : k < D.many) : (txs (lats D))[k]? = some (.string ⟨(lat D.P k).toArray⟩) := by
  rw [txs_at _ (by rw [lats_len]; exact h)]
  simp [lats]

theorem read_any {F : Nat → Prop} {w : World} {d : Nat} {D : Dk} (h : Dsk F w d D) (at' : Int) :
    Calls Try.prog 18 #[dp d, .int .i64 at'] w fun e w' =>
      e = .returned (.tuple #[.string ⟨(D.read at').2.1.toArray⟩, .int .i64 ((D.read at').2.2 : Nat)]) ∧ Dsk F w' d (D.read at').1 ∧ Save F w w' ∧ w'.heap.size = w.heap.size := by
  have C := unfit_any h at'
  have rd := h.ok.read at'
  unfold Dk.read at rd ⊢
  by_cases hu : D.unfit at' = 0
  · rw [if_pos hu] at rd ⊢
    obtain ⟨hdn, h0, hk⟩ := Dk.unfit_at hu
    obtain ⟨k, rfl⟩ : ∃ k : Nat, at' = k := ⟨at'.toNat, by omega⟩
    rw [Int.toNat_natCast] at hk ⊢
    have ok := h.ok
    obtain ⟨_, gl, gt, v, fs, h⟩ := h
    have N := count_any ok hdn h
    have hl : (lat D.P k).length = 0 ∨ (lat D.P k).length = D.size := by
      rcases lat_len (fun p hp => (ok.pend p hp).2) k with h | h
      · exact Or.inl (by rw [h]; rfl)
      · exact Or.inr h
    unfold Dk.sec
    by_cases hz : (lat D.P k).length = 0
    · rw [if_pos hz]
      have hm := mul_in hk ok.m2 ok.s2
      have hr := room (n := D.size) hk
      have hN : D.many * D.size ≤ 16777216 := Nat.le_trans (Nat.mul_le_mul ok.m2 ok.s2) (by omega)
      have s1 := ok.s1
      have hlen : ((D.L.drop (k * D.size)).take D.size).length = D.size := by
        rw [List.length_take, List.length_drop, ok.len]; omega
      refine (read_lasts d gl gt D.size D.many k (k * D.size) (D.many * D.size) (D.unfit k) (lat D.P k) _ hz hu hk rfl hr (by omega) hN hlen w C
        (fun w' => DskAt F w' d D.counted (lats D) gl gt v fs ∧ Save F w w' ∧ w'.heap.size = w.heap.size) (fun w1 h => ⟨h.1.up ((Below.refl _ _).drew), h.2.1.drew, h.2.2⟩) N ?_ ?_ ?_ ?_ ?_).mono ?_
      · intro w1 q
        have := q.1.hD.at (i := 0) rfl
        rwa [D.counted_size] at this
      · intro w1 q
        have := q.1.hD.at (i := 1) rfl
        rwa [D.counted_size, D.counted_many] at this
      · intro w1 q
        have := q.1.hD.at (i := 3) rfl
        rwa [D.counted_many] at this
      · intro w1 q
        exact q.1.hT.at (lats_at hk)
      · intro w1 q
        have := q.1.hL.range (k * D.size) D.size
        rw [D.counted_L] at this
        rwa [show ((bys D.L).drop (k * D.size)).take D.size = bys ((D.L.drop (k * D.size)).take D.size) by simp [bys, List.map_take, List.map_drop]] at this
      · rintro e w' ⟨rfl, q⟩
        exact ⟨rfl, ⟨rd, gl, gt, v, fs, by rw [lats_count]; exact q.1⟩, q.2⟩
    · rw [if_neg hz]
      refine (read_late d gl gt D.size D.many k (D.unfit k) v (lat D.P k) (by omega) hu hk w C
        (fun w' => DskAt F w' d D.counted (lats D) gl gt v fs ∧ Save F w w' ∧ w'.heap.size = w.heap.size) N ?_ ?_).mono ?_
      · intro w1 q
        have := q.1.hD.at (i := 3) rfl
        rwa [D.counted_many] at this
      · intro w1 q
        exact q.1.hT.at (lats_at hk)
      · rintro e w' ⟨rfl, q⟩
        exact ⟨rfl, ⟨rd, gl, gt, v, fs, by rw [lats_count]; exact q.1⟩, q.2⟩
  · rw [if_neg hu] at rd ⊢
    have e1 : ((D.unfit at' : Int) == 0) = false := by simp; omega
    have e2 : ((D.unfit at' : Int) != 0) = true := by simp; omega
    have HH := Lib.hid h
    have K := Lib.hid C
    clear h C hu rd
    generalize D.unfit at' = r at *
    go_enter Try.func18, Try.ntmps18
    go_wp2_with fail
    refine K.out.mono ?_; rintro e w1 ⟨rfl, rfl⟩
    go_wp2_with fail
    go_ret2
    exact ⟨rfl, HH.out, Save.refl _ _, rfl⟩

theorem info_str : (Try.prog.info? 9).map (fun i => (i.zero, i.size, i.bytes)) = some (some (.string ⟨#[]⟩), 1, 16) := by kernel_rfl

theorem made_txs (n : Nat) : madeCells #[Value.string ⟨#[]⟩] n = (txs (List.replicate n [])).toArray := by
  unfold madeCells txs
  apply Array.ext
  · simp
  · intro i h1 h2
    simp [Nat.mod_one]

theorem run_make_txs (n : Nat) (hc : n ≤ 1000000) (w : World) :
    (Instr.makeSlice 42 (.int .i64 (n : Int)) (.int .i64 (n : Int))).run Try.prog w = .ok (.slice (some ⟨w.heap.size, 0, none⟩) n n) (w.alloc (.cells (txs (List.replicate n [])).toArray 9)) := by
  obtain ⟨i0, hi, hz0, hz1, hz2⟩ := info_parts info_str
  have hr := run_make (P := Try.prog) w 42 9 i0 _ Try.underlying42 hi hz0 .i64 .i64 n n (by omega) (by omega) (by rw [hz2]; omega) (by omega)
  rw [hz1] at hr
  simp only [Int.toNat_natCast, Nat.mul_one] at hr
  rw [hr, ← made_txs]
  rfl

theorem new_bad (m n : Int) (hb : m < 1 ∨ 4096 < m ∨ n < 64 ∨ 1024 < n) (w : World) :
    Calls Try.prog 6 #[.int .i64 m, .int .i64 n] w fun e w' => e = .returned (.tuple #[.pointer none, .int .i64 1]) ∧ w = w' := by
  by_cases h1 : m < 1
  · clear hb
    go_enter Try.func6, Try.ntmps6
    go_wp2_with fail
    go_ret2
    exact ⟨rfl, rfl⟩
  by_cases h2 : 4096 < m
  · have h1' : 1 ≤ m := by omega
    clear hb
    go_enter Try.func6, Try.ntmps6
    go_wp2_with fail
    go_ret2
    exact ⟨rfl, rfl⟩
  by_cases h3 : n < 64
  · have h1' : 1 ≤ m := by omega
    have h2' : m ≤ 4096 := by omega
    clear hb
    go_enter Try.func6, Try.ntmps6
    go_wp2_with fail
    go_ret2
    exact ⟨rfl, rfl⟩
  have h4 : 1024 < n := by omega
  have h1' : 1 ≤ m := by omega
  have h2' : m ≤ 4096 := by omega
  have h3' : 64 ≤ n := by omega
  clear hb
  go_enter Try.func6, Try.ntmps6
  go_wp2_with fail
  go_ret2
  exact ⟨rfl, rfl⟩

theorem new_at {m n : Nat} (ok : (Dk.new m n).Ok) {B d gl gt : Nat} {w : World} (hD : Has w d 45 (dcs (Dk.new m n) gl gt (.slice none 0 0))) (hL : Has w gl 5 (bys (List.replicate (m * n) 0))) (hT : Has w gt 9 (txs (List.replicate m [])))
    (h1 : B ≤ d) (h2 : B ≤ gl) (h3 : B ≤ gt) : Dsk (fun k => B ≤ k) w d (Dk.new m n) :=
  ⟨ok, gl, gt, .slice none 0 0, [], ⟨hD, hL, by rw [lats_none rfl]; exact hT, World.ownsRow_nil _ _ _ _, ⟨rfl, fun i p f hp => by simp [Dk.new] at hp⟩, h1, h2, h3, fun g hg => by cases hg⟩⟩

/-- What a call of New leaves. -/
def Newly (m n : Nat) (w : World) (e : Ending) (w' : World) : Prop := ∃ d, e = .returned (.tuple #[dp d, .int .i64 0]) ∧ Dsk (fun k => w.heap.size ≤ k) w' d (Dk.new m n) ∧ Below w.heap.size w w'

set_option maxHeartbeats 1000000 in
theorem new_ok (m n : Nat) (h1 : 1 ≤ m) (h2 : m ≤ 4096) (h3 : 64 ≤ n) (h4 : n ≤ 1024) (w : World) :
    Calls Try.prog 6 #[.int .i64 (m : Nat), .int .i64 (n : Nat)] w (Newly m n w) := by
  have a1 : (1 : Int) ≤ m := by omega
  have a2 : (m : Int) ≤ 4096 := by omega
  have a3 : (64 : Int) ≤ n := by omega
  have a4 : (n : Int) ≤ 1024 := by omega
  have hN : m * n ≤ 16777216 := Nat.le_trans (Nat.mul_le_mul h2 h4) (by omega)
  have OK := Lib.hid (Dk.new_ok h1 h2 h3 h4)
  obtain ⟨q, hq⟩ : ∃ q, q = m * n := ⟨_, rfl⟩
  have hw : IntKind.i64.wrap ((m : Int) * (n : Int)) = (q : Int) := by
    have : (m : Int) * (n : Int) = (q : Int) := by rw [hq]; simp
    rw [this]; exact IntWalk.i64_in _ (by omega)
  have m1 : ∀ w : World, (Instr.makeSlice 38 (.int .i64 (q : Int)) (.int .i64 (q : Int))).run Try.prog w = .ok (.slice (some ⟨w.heap.size, 0, none⟩) q q) (w.alloc (.cells (bys (List.replicate q 0)).toArray 5)) := fun w => run_make_bys q q (by omega) (by omega) w
  have m2 : ∀ w : World, (Instr.makeSlice 42 (.int .i64 (m : Int)) (.int .i64 (m : Int))).run Try.prog w = .ok (.slice (some ⟨w.heap.size, 0, none⟩) m m) (w.alloc (.cells (txs (List.replicate m [])).toArray 9)) := fun w => run_make_txs m (by omega) w
  obtain ⟨XL, hXL⟩ : ∃ X, X = (bys (List.replicate q 0)).toArray := ⟨_, rfl⟩
  obtain ⟨XT, hXT⟩ : ∃ X, X = (txs (List.replicate m [])).toArray := ⟨_, rfl⟩
  rw [← hXL] at m1
  rw [← hXT] at m2
  have HL := Lib.hid hXL
  have HT := Lib.hid hXT
  have HQ := Lib.hid hq
  clear hXL hXT hq hN h1 h2 h3 h4
  go_enter Try.func6, Try.ntmps6
  go_wp2_with fail
  go_region
  all_goals
    go_wp2_with fail
    go_ret2
    refine ⟨w.heap.size + 1 + 1, rfl, ?_, (up_alloc (up_alloc (up_alloc (Below.refl _ _) _) _) _).drew⟩
    have hq := HQ.out
    rw [HL.out, HT.out]
    subst hq
  · exact new_at OK.out (Has.drew (Has.make3 w _ _ _ _)) (Has.drew (Has.alloc (Has.alloc (Has.make w _ _) _) _)) (Has.drew (Has.alloc (Has.make2 w _ _ _) _)) (by omega) (by omega) (by omega)
  · exact new_at OK.out (Has.drew (Has.make3 w _ _ _ _)) (Has.drew (Has.alloc (Has.make2 w _ _ _) _)) (Has.drew (Has.alloc (Has.alloc (Has.make w _ _) _) _)) (by omega) (by omega) (by omega)

end Go.Proofs.Ytihajcjfppmfjaa
