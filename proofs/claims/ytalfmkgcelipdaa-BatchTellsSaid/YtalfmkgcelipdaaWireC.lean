/- A number, taken: the contract of wire.Take. -/
import Derived.Test.YtalfmkgcelipdaaWireK
import Derived.Test.YtalfmkgcelipdaaMem
import Derived.Deep.QuietTactic
import Derived.BigQuiet
import Derived.WalkMore
import Derived.ScopeJumps
import Derived.Lib.IndexBytes
namespace Go.Proofs.Ytalfmkgcelipdaa
open Go.RowKit Wire

/-- What a byte adds at place k, in 64 bits. -/
def shv (c : UInt8) (k : Nat) : Nat := c.toNat % 128 * 128 ^ k % 18446744073709551616
def nxt (x : Nat) (c : UInt8) (k : Nat) : Nat := x ||| shv c k
theorem shv_lt (c : UInt8) (k : Nat) : shv c k < 18446744073709551616 := Nat.mod_lt _ (by omega)

/-- Where the taking stands ahead of byte k. -/
structure Mid (l : List UInt8) (k x : Nat) : Prop where
  val : k ≤ 9 → x < 128 ^ k
  lt : x < 18446744073709551616
  all : tkGo k x (l.drop k) = tk l

theorem Mid.start (l : List UInt8) : Mid l 0 0 := ⟨fun _ => by decide, by omega, rfl⟩

theorem shv_val {c : UInt8} {k : Nat} (hk : k < 10) (h9 : ¬ (k = 9 ∧ 1 < c.toNat)) : shv c k = c.toNat % 128 * 128 ^ k := by
  apply Nat.mod_eq_of_lt
  have hm : c.toNat % 128 ≤ 127 := by omega
  have hmm : c.toNat % 128 * 128 ^ k ≤ 127 * 128 ^ k := Nat.mul_le_mul_right _ hm
  by_cases h : k = 9
  · subst h
    rw [pow_nine]; omega
  · have p : (128 : Nat) ^ (k + 1) ≤ 128 ^ 9 := pow_le_of (by omega)
    rw [Nat.pow_succ, pow_nine] at p
    omega

theorem nxt_val {l : List UInt8} {c : UInt8} {k x : Nat} (h : Mid l k x) (hk : k < 10) (h9 : ¬ (k = 9 ∧ 1 < c.toNat)) : nxt x c k = x + c.toNat % 128 * 128 ^ k := by
  unfold nxt
  have e : (128 : Nat) ^ k = 2 ^ (7 * k) := by rw [Nat.pow_mul]
  rw [shv_val hk h9, Nat.or_comm, nat_join (7 * k) _ _ (by rw [e, Nat.mul_mod_left]) (by rw [← e]; exact h.val (by omega)), Nat.add_comm]

theorem nxt_lt {l : List UInt8} {k x : Nat} (h : Mid l k x) (c : UInt8) : nxt x c k < 18446744073709551616 := Nat.or_lt_two_pow (n := 64) h.lt (shv_lt c k)

theorem drop_at {l : List UInt8} {k : Nat} (hl : k < l.length) : l.drop k = l[k] :: l.drop (k + 1) := List.drop_eq_getElem_cons hl

theorem Mid.next {l : List UInt8} {k x : Nat} (h : Mid l k x) (hk : k < 10) (hl : k < l.length) {c : UInt8} (hc : l[k] = c) (h128 : 128 ≤ c.toNat) : Mid l (k + 1) (nxt x c k) := by
  have ha := h.all
  rw [drop_at hl, hc] at ha
  by_cases h9 : k = 9
  · subst h9
    rw [tkGo_big (by omega)] at ha
    exact ⟨fun hh => by omega, nxt_lt h c, by rw [tkGo_ten (by omega)]; exact ha⟩
  · have hv := nxt_val h hk (c := c) (by omega)
    rw [tkGo_more (by omega) h128, ← hv] at ha
    refine ⟨fun _ => ?_, nxt_lt h c, ha⟩
    rw [hv, Nat.pow_succ]
    have hm : c.toNat % 128 ≤ 127 := by omega
    have hmm : c.toNat % 128 * 128 ^ k ≤ 127 * 128 ^ k := Nat.mul_le_mul_right _ hm
    have := h.val (by omega)
    omega

/-- Where the taking stands at the first byte below 128. -/
structure Landed (l : List UInt8) (k x : Nat) (c : UInt8) : Prop where
  big : k = 9 → 1 < c.toNat → tk l = (0, [], 6)
  zero : 0 < k → c.toNat = 0 → tk l = (0, [], 3)
  fine : ¬ (k = 9 ∧ 1 < c.toNat) → ¬ (c.toNat = 0 ∧ 0 < k) → tk l = (x, l.drop (k + 1), 0)

theorem Mid.land {l : List UInt8} {k x : Nat} (h : Mid l k x) (hk : k < 10) (hl : k < l.length) {c : UInt8} (hc : l[k] = c) (h128 : c.toNat < 128) : Landed l k (nxt x c k) c := by
  have ha := h.all
  rw [drop_at hl, hc] at ha
  refine ⟨fun h9 h1 => ?_, fun h0 hz => ?_, fun h9 h0 => ?_⟩
  · subst h9
    rw [← ha, tkGo_big h1]
  · rw [← ha, tkGo_zero hk h0 hz]
  · rw [← ha, tkGo_last hk h9 h128 h0, nxt_val h hk h9]

theorem Mid.more {l : List UInt8} {k x : Nat} (h : Mid l k x) (hk : k = l.length) (hs : l.length < 10) : tk l = (0, [], 4) := by
  rw [← h.all, hk, List.drop_length, tkGo_nil hs]
theorem Mid.range {l : List UInt8} {x : Nat} (h : Mid l 10 x) : tk l = (0, [], 6) := by
  rw [← h.all, tkGo_ten (by omega)]

theorem andNot128 (c : UInt8) : bits .andNot .u8 (c.toNat : Int) 128 = ((c.toNat % 128 : Nat) : Int) := by
  have := u8_andNot_nat c.toNat 128 c.toNat_lt (by omega)
  have h256 : ∀ x : Fin 256, (x.val &&& 127) = x.val % 128 := by decide +kernel
  have h2 := h256 ⟨c.toNat, c.toNat_lt⟩
  simp only at h2
  rw [show (128 : Int) = ((128 : Nat) : Int) from rfl, this, h2]

theorem wrap_sev (c : UInt8) (k : Nat) : IntKind.u64.wrap ((c.toNat : Int) % 128 * 2 ^ (7 * k)) = ((shv c k : Nat) : Int) := by
  rw [IntKind.wrap_u64]; unfold shv
  have h2 : (2 : Int) ^ (7 * k) = ((128 ^ k : Nat) : Int) := by rw [show (128 : Nat) = 2 ^ 7 from rfl, ← Nat.pow_mul]; simp
  rw [h2, show (c.toNat : Int) % 128 = ((c.toNat % 128 : Nat) : Int) by omega, ← Int.natCast_mul]
  omega

theorem min_ten (n : Nat) (W : World) : (Builtin.min_ #[3, 3] 3 #[.int .i64 (n : Int), .int .i64 10]).run Try.prog W = .ok (.int .i64 ((min n 10 : Nat) : Int)) W := by
  have h2 : (if (10 : Int) < (n : Int) then (10 : Int) else (n : Int)) = ((min n 10 : Nat) : Int) := by
    split <;> omega
  simp [Builtin.min_, Builtin.min2, h2]

theorem front_of (s : ByteArray) (k : Nat) : s.extract k s.size = ⟨(s.data.toList.drop k).toArray⟩ := by
  apply ByteArray.ext
  apply Array.toList_inj.1
  rw [Lib.extract_to_end]

set_option maxHeartbeats 1600000 in
set_option maxRecDepth 100000 in
theorem take_any (s : ByteArray) (hs : s.size ≤ maxLen) (w : World) :
    Calls Try.prog 48 #[.string s] w fun e w' => e = .returned (.tuple #[.int .u64 ((tk s.data.toList).1 : Nat), .string ⟨(tk s.data.toList).2.1.toArray⟩, .int .i64 ((tk s.data.toList).2.2 : Nat)]) ∧ Below w.heap.size w w' := by
  unfold maxLen at hs
  have hmin := min_ten s.size
  obtain ⟨m, hmm⟩ : ∃ m, m = min s.size 10 := ⟨_, rfl⟩
  rw [← hmm] at hmin
  have m1 : m ≤ s.size := by omega
  have m2 : m ≤ 10 := by omega
  have HM := Lib.hid hmm
  clear hmm
  have hS := Lib.hid (Mid.start s.data.toList)
  go_enter Try.func48, Try.ntmps48
  go_wp2_with fail
  refine wp_scope_jumps 0 (fun a' w' => w' = w ∧ ∃ (k x : Nat) (u7 u8 u9 u10 u11 u12 u13 u14 u15 u16 u17 u18 u19 u20 u21 u22 u23 u24 u25 u26 u27 u28 u29 u30 u31 u32 u33 u34 u35 u36 u37 u38 u39 u40 u41 u42 u43 u44 u45 u46 u47 u48 u49 u50 u51 u52 u53 : Value), a' = { tmps := #[.string s, undef, .int .u64 0, .string ⟨#[]⟩, .int .i64 0, .int .u64 (x : Nat), .int .i64 (k : Nat), u7, u8, u9, u10, u11, u12, u13, u14, u15, u16, u17, u18, u19, u20, u21, u22, u23, u24, u25, u26, u27, u28, u29, u30, u31, u32, u33, u34, u35, u36, u37, u38, u39, u40, u41, u42, u43, u44, u45, u46, u47, u48, u49, u50, u51, u52, u53], defers := [] } ∧ k < 10 ∧ (∃ hk : k < s.size, s[k].toNat < 128 ∧ Hid (Landed s.data.toList k x s[k]))) (fun a' _ => 0) rfl ?_ ?_
  · go_wp2_with fail
    go_loop [5, 6, 10] (fun n _ i => ∃ k x : Nat, k ≤ m ∧ i = .int .i64 k ∧ n = .int .u64 (x : Nat) ∧ Hid (Mid s.data.toList k x)) (fun _ _ i => m - (intOf i).toNat)
    case atStart => exact ⟨0, 0, by omega, rfl, rfl, hS⟩
    case round =>
      obtain ⟨k, x, hk, rfl, rfl, hH⟩ := hrel
      clear hmin hS
      by_cases hlt : k < m
      · have k0 : (0 : Int) ≤ (k : Int) := by omega
        have k1 : (k : Int) < (s.size : Int) := by omega
        have k9 : (k : Int) ≤ 9 := by omega
        have hkl : k < s.data.toList.length := by simp; omega
        have hx := hH.out.lt
        have x1 := andNot128 s[k]
        have x2 := wrap_sev s[k] k
        have x3 := u64_or_nat x (shv s[k] k) hx (shv_lt _ _)
        rw [show x ||| shv s[k] k = nxt x s[k] k from rfl] at x3
        have hN := nxt_lt hH.out s[k]
        have hsl := shv_lt s[k] k
        have hb := s[k].toNat_lt
        have hy : (((s[k]).toNat % 128 : Nat) : Int) = (s[k].toNat : Int) % 128 := by omega
        rw [hy] at x1
        clear hy
        by_cases hc : s[k].toNat < 128
        · have hc' : (s[k].toNat : Int) < 128 := by omega
          have HL := Lib.hid (hH.out.land (by omega) hkl (c := s[k]) rfl hc)
          have H0 := Lib.hid hc
          clear hc
          go_wp2_with fail
          go_step3
          exact ⟨rfl, rfl, k, nxt x s[k] k, _, _, _, _, _, _, _, _, _, _, _, _, _, _, _, _, _, _, _, _, _, _, _, _, _, _, _, _, _, _, _, _, _, _, _, _, _, _, _, _, _, _, _, _, _, _, _, rfl, by omega, by omega, H0.out, HL⟩
        · have hc' : ¬ (s[k].toNat : Int) < 128 := by omega
          have HL := Lib.hid (hH.out.next (by omega) hkl (c := s[k]) rfl (by omega))
          clear hc
          go_wp2_with fail
          go_round
          case rel => exact ⟨k + 1, _, by omega, by go_num, rfl, HL⟩
          case measure => simp [intOf]; omega
      · obtain rfl : k = m := by omega
        have hH2 := hH.out
        by_cases h10 : s.size < 10
        · have R := Lib.hid (hH.out.more (by have := HM.out; simp; omega) (by simp; omega))
          have h10' : (s.size : Int) < 10 := by omega
          go_wp2_with fail
          simp only [Exit.jump]
          go_ret3
          exact ⟨by rw [R.out]; rfl, Below.refl _ _⟩
        · obtain rfl : k = 10 := by have := HM.out; omega
          have R := Lib.hid hH.out.range
          have h10' : ¬ (s.size : Int) < 10 := by omega
          go_wp2_with fail
          simp only [Exit.jump]
          go_ret3
          exact ⟨by rw [R.out]; rfl, Below.refl _ _⟩
  · rintro a' w' ⟨rfl, k, x, u7, u8, u9, u10, u11, u12, u13, u14, u15, u16, u17, u18, u19, u20, u21, u22, u23, u24, u25, u26, u27, u28, u29, u30, u31, u32, u33, u34, u35, u36, u37, u38, u39, u40, u41, u42, u43, u44, u45, u46, u47, u48, u49, u50, u51, u52, u53, rfl, hk10, hk, hc, hL⟩
    have k0 : (0 : Int) ≤ (k : Int) := by omega
    have k1 : (k : Int) < (s.size : Int) := by omega
    have k9 : (k : Int) ≤ 9 := by omega
    by_cases hA : k = 9 ∧ 1 < s[k].toNat
    · obtain ⟨rfl, h1⟩ := hA
      have R := Lib.hid (hL.out.big rfl h1)
      have h1' : (1 : Int) < (s[9].toNat : Int) := by omega
      have d1 : decide ((1 : Int) < (s[9].toNat : Int)) = true := by simpa using h1'
      go_wp2_with fail
      simp only [Exit.jump]
      go_ret3
      exact ⟨by rw [R.out]; rfl, Below.refl _ _⟩
    · by_cases hB : s[k].toNat = 0 ∧ 0 < k
      · have R := Lib.hid (hL.out.zero hB.2 hB.1)
        obtain ⟨h0, hk0⟩ := hB
        have d1 : ((k : Int) == 9 && decide ((1 : Int) < (s[k].toNat : Int))) = false := by simp; omega
        have d2 : decide (0 < k) = true := by simpa using hk0
        have d3 : ((s[k].toNat : Int) == 0) = true := by rw [beq_iff_eq]; omega
        have d4 : decide ((1 : Int) < (s[k].toNat : Int)) = false := by simp; omega
        clear hA h0
        by_cases h9 : k = 9
        · subst h9
          go_wp2_with fail
          simp only [Exit.jump]
          go_ret3
          exact ⟨by rw [R.out]; rfl, Below.refl _ _⟩
        · have d9 : ((k : Int) == 9) = false := by rw [beq_eq_false_iff_ne]; omega
          go_wp2_with fail
          simp only [Exit.jump]
          go_ret3
          exact ⟨by rw [R.out]; rfl, Below.refl _ _⟩
      · have R := Lib.hid (hL.out.fine hA hB)
        have F := Lib.hid (front_of s (k + 1))
        have e1 := IntWalk.i64_in ((k : Int) + 1) (by omega)
        have e2 : (0 : Int) ≤ (k : Int) + 1 := by omega
        have e3 : ((k : Int) + 1).toNat = k + 1 := by omega
        have e4 : (k : Int) + 1 ≤ (s.size : Int) := by omega
        have E : Hid (Ending.returned (.tuple #[.int .u64 (x : Nat), .string (s.extract (k + 1) s.size), .int .i64 0]) = .returned (.tuple #[.int .u64 ((tk s.data.toList).1 : Nat), .string ⟨(tk s.data.toList).2.1.toArray⟩, .int .i64 ((tk s.data.toList).2.2 : Nat)])) := Lib.hid (by
          rw [R.out, F.out]; rfl)
        clear R F hL
        by_cases h9 : k = 9
        · have d9 : ((k : Int) == 9) = true := by rw [beq_iff_eq]; omega
          have d1 : decide ((1 : Int) < (s[k].toNat : Int)) = false := by simp; omega
          have d0 : 0 < k := by omega
          have d2 : decide (0 < k) = true := by simpa using d0
          have d3 : ((s[k].toNat : Int) == 0) = false := by rw [beq_eq_false_iff_ne]; omega
          clear hA hB h9
          go_wp2_with fail
          go_quiet (fail)
          go_wp2_with fail
          simp only [Exit.jump]
          go_ret3
          exact ⟨E.out, below_drewN (Below.refl _ _) _⟩
        · have d9 : ((k : Int) == 9) = false := by rw [beq_eq_false_iff_ne]; omega
          by_cases h0 : k = 0
          · have d2 : decide (0 < k) = false := by simpa using h0
            clear hA hB h9 h0
            go_wp2_with fail
            go_quiet (fail)
            go_wp2_with fail
            simp only [Exit.jump]
            go_ret3
            exact ⟨E.out, below_drewN (Below.refl _ _) _⟩
          · have d0 : 0 < k := by omega
            have d2 : decide (0 < k) = true := by simpa using d0
            have d3 : ((s[k].toNat : Int) == 0) = false := by rw [beq_eq_false_iff_ne]; omega
            clear hA hB h9 h0
            go_wp2_with fail
            go_quiet (fail)
            go_wp2_with fail
            simp only [Exit.jump]
            go_ret3
            exact ⟨E.out, below_drewN (Below.refl _ _) _⟩
end Go.Proofs.Ytalfmkgcelipdaa
