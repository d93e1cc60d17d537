/- Numbers of 64 bits: small laws. -/
import Derived.Test.YthhcopeejhhpgaaDoorBase
import Derived.Test.YthhcopeejhhpgaaDoorPureWire
import Derived.Deep.QuietTactic
import Derived.BigQuiet
import Derived.WalkMore
import Derived.ScopeJumps
import Derived.Lib.IndexBytes
namespace Go.Proofs.YthhcopeejhhpgaaDoor
open Go.RowKit Wire

theorem wf_u64 {n : Int} (h : (Lit.int .u64 n).wf = true) : ∃ k : Nat, n = k ∧ k < 18446744073709551616 := by
  have := bounds_u64 h
  exact ⟨n.toNat, by omega, by omega⟩

theorem ret_int {k : IntKind} {a b : Int} (h : a = b) : Ending.returned (.int k a) = .returned (.int k b) := by rw [h]

end Go.Proofs.YthhcopeejhhpgaaDoor

/- A number's bytes: contracts of wire.Put and the document's own. -/
namespace Go.Proofs.YthhcopeejhhpgaaDoor
open Go.RowKit Wire

/-- Where a row of bytes stands in the midst of a number's: what is there, and what is still to come. -/
structure Half (n m : Nat) (acc : List UInt8) : Prop where
  lt : m < 18446744073709551616
  all : acc ++ putL m = putL n
  len : acc.length ≤ 9

theorem Half.start {n : Nat} (h : n < 18446744073709551616) : Half n n [] := ⟨h, rfl, by simp⟩
theorem Half.next {n m : Nat} {acc : List UInt8} (h : Half n m acc) (hn : n < 18446744073709551616) (hm : 128 ≤ m) : Half n (m / 128) (acc ++ [UInt8.ofNat (m % 128 + 128)]) := by
  have e : acc ++ [UInt8.ofNat (m % 128 + 128)] ++ putL (m / 128) = putL n := by rw [← h.all, putL_ge hm]; simp
  refine ⟨by have := h.lt; omega, e, ?_⟩
  have h1 := putL_ten hn
  rw [← e, List.length_append] at h1
  have := putL_pos (m / 128)
  omega
theorem Half.done {n m : Nat} {acc : List UInt8} (h : Half n m acc) (hm : m < 128) : acc ++ [UInt8.ofNat m] = putL n := by rw [← h.all, putL_lt hm]

theorem u8_or128 (a : Nat) (h : a < 256) : bits .or .u8 (a : Int) 128 = (((UInt8.ofNat (a % 128 + 128)).toNat : Nat) : Int) := by
  have := u8_or_nat a 128 h (by omega)
  rw [show (128 : Int) = ((128 : Nat) : Int) from rfl, this, ofNat_toNat _ (by omega)]
  have h256 : ∀ x : Fin 256, (x.val ||| 128) = x.val % 128 + 128 := by decide +kernel
  have := h256 ⟨a, h⟩
  simp only at this
  rw [this]

set_option maxRecDepth 100000 in
theorem put_any (n : Nat) (hn : n < 18446744073709551616) (w : World) :
    Calls Tryd.prog 60 #[.int .u64 (n : Nat)] w fun e w' => e = .returned (.string ⟨(putL n).toArray⟩) ∧ Below w.heap.size w w' := by
  have m1 : ∀ w : World, (Instr.makeSlice 51 (.int .i64 0) (.int .i64 10)).run Tryd.prog w = .ok (.slice (some ⟨w.heap.size, 0, none⟩) 0 10) (w.alloc (.cells (bys (List.replicate 10 0)).toArray 5)) := fun w => run_make_bys 0 10 (by omega) (by omega) w
  have HN := Lib.hid hn
  have hS := Lib.hid (Half.start hn)
  clear hn
  go_enter Tryd.func60, Tryd.ntmps60
  go_wp2_with fail
  have o0 : OwnB w.heap.size (.slice (some ⟨w.heap.size, 0, none⟩) 0 10) [] (w.alloc (Obj.cells (bys (List.replicate 10 0)).toArray 5)) :=
    OwnB.of_block (l := []) (Nat.le_refl _) (Has.make w 5 (bys (List.replicate 10 0))) (by simp) (by omega)
  have HO := Lib.hid o0
  clear o0 m1
  go_loopw [0, 3] (fun x v wr => ∃ (m : Nat) (acc : List UInt8), x = .int .u64 (m : Nat) ∧ Hid (Half n m acc) ∧ OwnB w.heap.size v acc wr ∧ w.heap.size < wr.heap.size ∧ Below w.heap.size w wr) (fun x _ _ => (intOf x).toNat)
  case atStart => exact ⟨n, [], rfl, hS, HO.out, by simp, up_alloc (Below.refl _ _) _⟩
  case round =>
    clear HO hS
    obtain ⟨m, acc, rfl, hH, hO, hs, hb⟩ := hrel
    have hl := hH.out.len
    have hm1 := hH.out.lt
    have HO := Lib.hid hO
    have HB := Lib.hid hb
    have HL := Lib.hid hl
    have HM := Lib.hid hm1
    clear hO hb hl
    by_cases h : m < 128
    · have hD := Lib.hid (hH.out.done h)
      have h' : (m : Int) < 128 := by omega
      have e3 : (m : Int) = (((UInt8.ofNat m).toNat : Nat) : Int) := by rw [ofNat_toNat _ (by omega)]
      have E3 := Lib.hid e3
      clear e3
      go_wp2_with (refine wpList_push rfl (.tmp 15) (.tmp 18) rfl w.heap.size _ acc (by rfl) (HO.out.alloc _) wr.heap.size 1 [UInt8.ofNat m] (by rfl) (by simp only [bys, List.map, ← E3.out]; exact Has.make wr 5 _) rfl (by omega) (by have := HL.out; omega) (by simp; omega) ?_; intro v' w' hO' hB'; have ht := hO'.text)
      go_ret
      exact ⟨by rw [← hD.out]; rfl, (up_alloc HB.out _).trans (hB'.mono (by simp <;> omega))⟩
    · have hD := Lib.hid (hH.out.next HN.out (by omega))
      have h' : (128 : Int) ≤ (m : Int) := by omega
      have e2 := u8_or128 (m % 256) (by omega)
      rw [show m % 256 % 128 = m % 128 by omega, show ((m % 256 : Nat) : Int) = (m : Int) % 256 by omega] at e2
      generalize UInt8.ofNat (m % 128 + 128) = c at *
      go_wp2_with (refine wpList_push rfl (.tmp 9) (.tmp 13) rfl w.heap.size _ acc (by rfl) (HO.out.alloc _) wr.heap.size 1 [c] (by rfl) (Has.make wr 5 (bys [c])) rfl (by omega) (by have := HL.out; omega) (by simp; omega) ?_; intro v' w' hO' hB')
      have hsz := hB'.size
      simp at hsz
      go_roundw
      case rel => exact ⟨m / 128, acc ++ [c], by go_num, hD, hO', by omega, (up_alloc HB.out _).trans (hB'.mono (by simp <;> omega))⟩
      case measure => simp [intOf]; omega

set_option maxRecDepth 100000 in
theorem rput_any (n : Nat) (hn : n < 18446744073709551616) (w : World) :
    Calls Tryd.prog 42 #[.int .u64 (n : Nat)] w fun e w' => e = .returned (.string ⟨(putL n).toArray⟩) ∧ Below w.heap.size w w' := by
  have HN := Lib.hid hn
  have hS := Lib.hid (Half.start hn)
  clear hn
  go_enter Tryd.func42, Tryd.ntmps42
  go_wp2_with fail
  go_loopw [0, 3] (fun x v wr => ∃ (m : Nat) (acc : List UInt8), x = .int .u64 (m : Nat) ∧ Hid (Half n m acc) ∧ OwnB w.heap.size v acc wr ∧ w.heap.size ≤ wr.heap.size ∧ Below w.heap.size w wr) (fun x _ _ => (intOf x).toNat)
  case atStart => exact ⟨n, [], rfl, hS, ⟨World.ownsRow_nil _ _ _ _⟩, Nat.le_refl _, Below.refl _ _⟩
  case round =>
    clear hS
    obtain ⟨m, acc, rfl, hH, hO, hs, hb⟩ := hrel
    have hl := hH.out.len
    have hm1 := hH.out.lt
    have HO := Lib.hid hO
    have HB := Lib.hid hb
    have HL := Lib.hid hl
    clear hO hb hl
    by_cases h : m < 128
    · have hD := Lib.hid (hH.out.done h)
      have h' : (m : Int) < 128 := by omega
      have e3 : (m : Int) = (((UInt8.ofNat m).toNat : Nat) : Int) := by rw [ofNat_toNat _ (by omega)]
      have E3 := Lib.hid e3
      clear e3
      go_wp2_with (refine wpList_push rfl (.tmp 15) (.tmp 18) rfl w.heap.size _ acc (by rfl) (HO.out.alloc _) wr.heap.size 1 [UInt8.ofNat m] (by rfl) (by simp only [bys, List.map, ← E3.out]; exact Has.make wr 5 _) rfl (by omega) (by have := HL.out; omega) (by simp; omega) ?_; intro v' w' hO' hB'; have ht := hO'.text)
      go_ret
      exact ⟨by rw [← hD.out]; rfl, (up_alloc HB.out _).trans (hB'.mono (by simp <;> omega))⟩
    · have hD := Lib.hid (hH.out.next HN.out (by omega))
      have h' : (128 : Int) ≤ (m : Int) := by omega
      have e2 : (m : Int) % 128 + 128 = (((UInt8.ofNat (m % 128 + 128)).toNat : Nat) : Int) := by rw [ofNat_toNat _ (by omega)]; omega
      have E2 := Lib.hid e2
      clear e2
      generalize UInt8.ofNat (m % 128 + 128) = c at *
      go_wp2_with (refine wpList_push rfl (.tmp 6) (.tmp 11) rfl w.heap.size _ acc (by rfl) (HO.out.alloc _) wr.heap.size 1 [c] (by rfl) (by simp only [bys, List.map, ← E2.out]; exact Has.make wr 5 _) rfl (by omega) (by have := HL.out; omega) (by simp; omega) ?_; intro v' w' hO' hB')
      have hsz := hB'.size
      simp at hsz
      go_roundw
      case rel => exact ⟨m / 128, acc ++ [c], by go_num, hD, hO', by omega, (up_alloc HB.out _).trans (hB'.mono (by simp <;> omega))⟩
      case measure => simp [intOf]; omega

end Go.Proofs.YthhcopeejhhpgaaDoor

/- A number, taken: the contract of wire.Take. -/
namespace Go.Proofs.YthhcopeejhhpgaaDoor
open Go.RowKit Wire

/-- What a byte adds at place k, in 64 bits. -/
def shv (c : UInt8) (k : Nat) : Nat := c.toNat % 128 * 128 ^ k % 18446744073709551616
def nxt (x : Nat) (c : UInt8) (k : Nat) : Nat := x ||| shv c k
theorem shv_lt (c : UInt8) (k : Nat) : shv c k < 18446744073709551616 := Nat.mod_lt _ (by omega)

/-- Where the taking stands ahead of byte k. -/
structure Mid (l : List UInt8) (k x : Nat) : Prop where
  val : k ≤ 9 → x < 128 ^ k
  lt : x < 18446744073709551616
  all : tkGo k x (l.drop k) = tk l

theorem Mid.start (l : List UInt8) : Mid l 0 0 := ⟨fun _ => by decide, by omega, rfl⟩

theorem shv_val {c : UInt8} {k : Nat} (hk : k < 10) (h9 : ¬ (k = 9 ∧ 1 < c.toNat)) : shv c k = c.toNat % 128 * 128 ^ k := by
  apply Nat.mod_eq_of_lt
  have hm : c.toNat % 128 ≤ 127 := by omega
  have hmm : c.toNat % 128 * 128 ^ k ≤ 127 * 128 ^ k := Nat.mul_le_mul_right _ hm
  by_cases h : k = 9
  · subst h
    rw [pow_nine]; omega
  · have p : (128 : Nat) ^ (k + 1) ≤ 128 ^ 9 := pow_le_of (by omega)
    rw [Nat.pow_succ, pow_nine] at p
    omega

theorem nxt_val {l : List UInt8} {c : UInt8} {k x : Nat} (h : Mid l k x) (hk : k < 10) (h9 : ¬ (k = 9 ∧ 1 < c.toNat)) : nxt x c k = x + c.toNat % 128 * 128 ^ k := by
  unfold nxt
  have e : (128 : Nat) ^ k = 2 ^ (7 * k) := by rw [Nat.pow_mul]
  rw [shv_val hk h9, Nat.or_comm, nat_join (7 * k) _ _ (by rw [e, Nat.mul_mod_left]) (by rw [← e]; exact h.val (by omega)), Nat.add_comm]

theorem nxt_lt {l : List UInt8} {k x : Nat} (h : Mid l k x) (c : UInt8) : nxt x c k < 18446744073709551616 := Nat.or_lt_two_pow (n := 64) h.lt (shv_lt c k)

theorem drop_at {l : List UInt8} {k : Nat} (hl : k < l.length) : l.drop k = l[k] :: l.drop (k + 1) := List.drop_eq_getElem_cons hl

theorem Mid.next {l : List UInt8} {k x : Nat} (h : Mid l k x) (hk : k < 10) (hl : k < l.length) {c : UInt8} (hc : l[k] = c) (h128 : 128 ≤ c.toNat) : Mid l (k + 1) (nxt x c k) := by
  have ha := h.all
  rw [drop_at hl, hc] at ha
  by_cases h9 : k = 9
  · subst h9
    rw [tkGo_big (by omega)] at ha
    exact ⟨fun hh => by omega, nxt_lt h c, by rw [tkGo_ten (by omega)]; exact ha⟩
  · have hv := nxt_val h hk (c := c) (by omega)
    rw [tkGo_more (by omega) h128, ← hv] at ha
    refine ⟨fun _ => ?_, nxt_lt h c, ha⟩
    rw [hv, Nat.pow_succ]
    have hm : c.toNat % 128 ≤ 127 := by omega
    have hmm : c.toNat % 128 * 128 ^ k ≤ 127 * 128 ^ k := Nat.mul_le_mul_right _ hm
    have := h.val (by omega)
    omega

/-- Where the taking stands at the first byte below 128. -/
structure Landed (l : List UInt8) (k x : Nat) (c : UInt8) : Prop where
  big : k = 9 → 1 < c.toNat → tk l = (0, [], 6)
  zero : 0 < k → c.toNat = 0 → tk l = (0, [], 3)
  fine : ¬ (k = 9 ∧ 1 < c.toNat) → ¬ (c.toNat = 0 ∧ 0 < k) → tk l = (x, l.drop (k + 1), 0)

theorem Mid.land {l : List UInt8} {k x : Nat} (h : Mid l k x) (hk : k < 10) (hl : k < l.length) {c : UInt8} (hc : l[k] = c) (h128 : c.toNat < 128) : Landed l k (nxt x c k) c := by
  have ha := h.all
  rw [drop_at hl, hc] at ha
  refine ⟨fun h9 h1 => ?_, fun h0 hz => ?_, fun h9 h0 => ?_⟩
  · subst h9
    rw [← ha, tkGo_big h1]
  · rw [← ha, tkGo_zero hk h0 hz]
  · rw [← ha, tkGo_last hk h9 h128 h0, nxt_val h hk h9]

theorem Mid.more {l : List UInt8} {k x : Nat} (h : Mid l k x) (hk : k = l.length) (hs : l.length < 10) : tk l = (0, [], 4) := by
  rw [← h.all, hk, List.drop_length, tkGo_nil hs]
theorem Mid.range {l : List UInt8} {x : Nat} (h : Mid l 10 x) : tk l = (0, [], 6) := by
  rw [← h.all, tkGo_ten (by omega)]

theorem andNot128 (c : UInt8) : bits .andNot .u8 (c.toNat : Int) 128 = ((c.toNat % 128 : Nat) : Int) := by
  have := u8_andNot_nat c.toNat 128 c.toNat_lt (by omega)
  have h256 : ∀ x : Fin 256, (x.val &&& 127) = x.val % 128 := by decide +kernel
  have h2 := h256 ⟨c.toNat, c.toNat_lt⟩
  simp only at h2
  rw [show (128 : Int) = ((128 : Nat) : Int) from rfl, this, h2]

theorem wrap_sev (c : UInt8) (k : Nat) : IntKind.u64.wrap ((c.toNat : Int) % 128 * 2 ^ (7 * k)) = ((shv c k : Nat) : Int) := by
  rw [IntKind.wrap_u64]; unfold shv
  have h2 : (2 : Int) ^ (7 * k) = ((128 ^ k : Nat) : Int) := by rw [show (128 : Nat) = 2 ^ 7 from rfl, ← Nat.pow_mul]; simp
  rw [h2, show (c.toNat : Int) % 128 = ((c.toNat % 128 : Nat) : Int) by omega, ← Int.natCast_mul]
  omega

theorem min_ten (n : Nat) (W : World) : (Builtin.min_ #[3, 3] 3 #[.int .i64 (n : Int), .int .i64 10]).run Tryd.prog W = .ok (.int .i64 ((min n 10 : Nat) : Int)) W := by
  have h2 : (if (10 : Int) < (n : Int) then (10 : Int) else (n : Int)) = ((min n 10 : Nat) : Int) := by
    split <;> omega
  simp [Builtin.min_, Builtin.min2, h2]

theorem front_of (s : ByteArray) (k : Nat) : s.extract k s.size = ⟨(s.data.toList.drop k).toArray⟩ := by
  apply ByteArray.ext
  apply Array.toList_inj.1
  rw [Lib.extract_to_end]

set_option maxHeartbeats 1600000 in
set_option maxRecDepth 100000 in
theorem take_any (s : ByteArray) (hs : s.size ≤ maxLen) (w : World) :
    Calls Tryd.prog 96 #[.string s] w fun e w' => e = .returned (.tuple #[.int .u64 ((tk s.data.toList).1 : Nat), .string ⟨(tk s.data.toList).2.1.toArray⟩, .int .i64 ((tk s.data.toList).2.2 : Nat)]) ∧ Below w.heap.size w w' := by
  unfold maxLen at hs
  have hmin := min_ten s.size
  obtain ⟨m, hmm⟩ : ∃ m, m = min s.size 10 := ⟨_, rfl⟩
  rw [← hmm] at hmin
  have m1 : m ≤ s.size := by omega
  have m2 : m ≤ 10 := by omega
  have HM := Lib.hid hmm
  clear hmm
  have hS := Lib.hid (Mid.start s.data.toList)
  go_enter Tryd.func96, Tryd.ntmps96
  go_wp2_with fail
  refine wp_scope_jumps 0 (fun a' w' => w' = w ∧ ∃ (k x : Nat) (u7 u8 u9 u10 u11 u12 u13 u14 u15 u16 u17 u18 u19 u20 u21 u22 u23 u24 u25 u26 u27 u28 u29 u30 u31 u32 u33 u34 u35 u36 u37 u38 u39 u40 u41 u42 u43 u44 u45 u46 u47 u48 u49 u50 u51 u52 u53 : Value), a' = { tmps := #[.string s, undef, .int .u64 0, .string ⟨#[]⟩, .int .i64 0, .int .u64 (x : Nat), .int .i64 (k : Nat), u7, u8, u9, u10, u11, u12, u13, u14, u15, u16, u17, u18, u19, u20, u21, u22, u23, u24, u25, u26, u27, u28, u29, u30, u31, u32, u33, u34, u35, u36, u37, u38, u39, u40, u41, u42, u43, u44, u45, u46, u47, u48, u49, u50, u51, u52, u53], defers := [] } ∧ k < 10 ∧ (∃ hk : k < s.size, s[k].toNat < 128 ∧ Hid (Landed s.data.toList k x s[k]))) (fun a' _ => 0) rfl ?_ ?_
  · go_wp2_with fail
    go_loop [5, 6, 10] (fun n _ i => ∃ k x : Nat, k ≤ m ∧ i = .int .i64 k ∧ n = .int .u64 (x : Nat) ∧ Hid (Mid s.data.toList k x)) (fun _ _ i => m - (intOf i).toNat)
    case atStart => exact ⟨0, 0, by omega, rfl, rfl, hS⟩
    case round =>
      obtain ⟨k, x, hk, rfl, rfl, hH⟩ := hrel
      clear hmin hS
      by_cases hlt : k < m
      · have k0 : (0 : Int) ≤ (k : Int) := by omega
        have k1 : (k : Int) < (s.size : Int) := by omega
        have k9 : (k : Int) ≤ 9 := by omega
        have hkl : k < s.data.toList.length := by simp; omega
        have hx := hH.out.lt
        have x1 := andNot128 s[k]
        have x2 := wrap_sev s[k] k
        have x3 := u64_or_nat x (shv s[k] k) hx (shv_lt _ _)
        rw [show x ||| shv s[k] k = nxt x s[k] k from rfl] at x3
        have hN := nxt_lt hH.out s[k]
        have hsl := shv_lt s[k] k
        have hb := s[k].toNat_lt
        have hy : (((s[k]).toNat % 128 : Nat) : Int) = (s[k].toNat : Int) % 128 := by omega
        rw [hy] at x1
        clear hy
        by_cases hc : s[k].toNat < 128
        · have hc' : (s[k].toNat : Int) < 128 := by omega
          have HL := Lib.hid (hH.out.land (by omega) hkl (c := s[k]) rfl hc)
          have H0 := Lib.hid hc
          clear hc
          go_wp2_with fail
          go_step3
          exact ⟨rfl, rfl, k, nxt x s[k] k, _, _, _, _, _, _, _, _, _, _, _, _, _, _, _, _, _, _, _, _, _, _, _, _, _, _, _, _, _, _, _, _, _, _, _, _, _, _, _, _, _, _, _, _, _, _, _, rfl, by omega, by omega, H0.out, HL⟩
        · have hc' : ¬ (s[k].toNat : Int) < 128 := by omega
          have HL := Lib.hid (hH.out.next (by omega) hkl (c := s[k]) rfl (by omega))
          clear hc
          go_wp2_with fail
          go_round
          case rel => exact ⟨k + 1, _, by omega, by go_num, rfl, HL⟩
          case measure => simp [intOf]; omega
      · obtain rfl : k = m := by omega
        have hH2 := hH.out
        by_cases h10 : s.size < 10
        · have R := Lib.hid (hH.out.more (by have := HM.out; simp; omega) (by simp; omega))
          have h10' : (s.size : Int) < 10 := by omega
          go_wp2_with fail
          simp only [Exit.jump]
          go_ret3
          exact ⟨by rw [R.out]; rfl, Below.refl _ _⟩
        · obtain rfl : k = 10 := by have := HM.out; omega
          have R := Lib.hid hH.out.range
          have h10' : ¬ (s.size : Int) < 10 := by omega
          go_wp2_with fail
          simp only [Exit.jump]
          go_ret3
          exact ⟨by rw [R.out]; rfl, Below.refl _ _⟩
  · rintro a' w' ⟨rfl, k, x, u7, u8, u9, u10, u11, u12, u13, u14, u15, u16, u17, u18, u19, u20, u21, u22, u23, u24, u25, u26, u27, u28, u29, u30, u31, u32, u33, u34, u35, u36, u37, u38, u39, u40, u41, u42, u43, u44, u45, u46, u47, u48, u49, u50, u51, u52, u53, rfl, hk10, hk, hc, hL⟩
    have k0 : (0 : Int) ≤ (k : Int) := by omega
    have k1 : (k : Int) < (s.size : Int) := by omega
    have k9 : (k : Int) ≤ 9 := by omega
    by_cases hA : k = 9 ∧ 1 < s[k].toNat
    · obtain ⟨rfl, h1⟩ := hA
      have R := Lib.hid (hL.out.big rfl h1)
      have h1' : (1 : Int) < (s[9].toNat : Int) := by omega
      have d1 : decide ((1 : Int) < (s[9].toNat : Int)) = true := by simpa using h1'
      go_wp2_with fail
      simp only [Exit.jump]
      go_ret3
      exact ⟨by rw [R.out]; rfl, Below.refl _ _⟩
    · by_cases hB : s[k].toNat = 0 ∧ 0 < k
      · have R := Lib.hid (hL.out.zero hB.2 hB.1)
        obtain ⟨h0, hk0⟩ := hB
        have d1 : ((k : Int) == 9 && decide ((1 : Int) < (s[k].toNat : Int))) = false := by simp; omega
        have d2 : decide (0 < k) = true := by simpa using hk0
        have d3 : ((s[k].toNat : Int) == 0) = true := by rw [beq_iff_eq]; omega
        have d4 : decide ((1 : Int) < (s[k].toNat : Int)) = false := by simp; omega
        clear hA h0
        by_cases h9 : k = 9
        · subst h9
          go_wp2_with fail
          simp only [Exit.jump]
          go_ret3
          exact ⟨by rw [R.out]; rfl, Below.refl _ _⟩
        · have d9 : ((k : Int) == 9) = false := by rw [beq_eq_false_iff_ne]; omega
          go_wp2_with fail
          simp only [Exit.jump]
          go_ret3
          exact ⟨by rw [R.out]; rfl, Below.refl _ _⟩
      · have R := Lib.hid (hL.out.fine hA hB)
        have F := Lib.hid (front_of s (k + 1))
        have e1 := IntWalk.i64_in ((k : Int) + 1) (by omega)
        have e2 : (0 : Int) ≤ (k : Int) + 1 := by omega
        have e3 : ((k : Int) + 1).toNat = k + 1 := by omega
        have e4 : (k : Int) + 1 ≤ (s.size : Int) := by omega
        have E : Hid (Ending.returned (.tuple #[.int .u64 (x : Nat), .string (s.extract (k + 1) s.size), .int .i64 0]) = .returned (.tuple #[.int .u64 ((tk s.data.toList).1 : Nat), .string ⟨(tk s.data.toList).2.1.toArray⟩, .int .i64 ((tk s.data.toList).2.2 : Nat)])) := Lib.hid (by
          rw [R.out, F.out]; rfl)
        clear R F hL
        by_cases h9 : k = 9
        · have d9 : ((k : Int) == 9) = true := by rw [beq_iff_eq]; omega
          have d1 : decide ((1 : Int) < (s[k].toNat : Int)) = false := by simp; omega
          have d0 : 0 < k := by omega
          have d2 : decide (0 < k) = true := by simpa using d0
          have d3 : ((s[k].toNat : Int) == 0) = false := by rw [beq_eq_false_iff_ne]; omega
          clear hA hB h9
          go_wp2_with fail
          go_quiet (fail)
          go_wp2_with fail
          simp only [Exit.jump]
          go_ret3
          exact ⟨E.out, below_drewN (Below.refl _ _) _⟩
        · have d9 : ((k : Int) == 9) = false := by rw [beq_eq_false_iff_ne]; omega
          by_cases h0 : k = 0
          · have d2 : decide (0 < k) = false := by simpa using h0
            clear hA hB h9 h0
            go_wp2_with fail
            go_quiet (fail)
            go_wp2_with fail
            simp only [Exit.jump]
            go_ret3
            exact ⟨E.out, below_drewN (Below.refl _ _) _⟩
          · have d0 : 0 < k := by omega
            have d2 : decide (0 < k) = true := by simpa using d0
            have d3 : ((s[k].toNat : Int) == 0) = false := by rw [beq_eq_false_iff_ne]; omega
            clear hA hB h9 h0
            go_wp2_with fail
            go_quiet (fail)
            go_wp2_with fail
            simp only [Exit.jump]
            go_ret3
            exact ⟨E.out, below_drewN (Below.refl _ _) _⟩
end Go.Proofs.YthhcopeejhhpgaaDoor

/- A number, taken: the contract of the document's own Take. -/
namespace Go.Proofs.YthhcopeejhhpgaaDoor
open Go.RowKit Wire

theorem Mid.big {l : List UInt8} {k x : Nat} (h : Mid l k x) (hk : k = 9) (hl : k < l.length) {c : UInt8} (hc : l[k] = c) (h1 : 1 < c.toNat) : tk l = (0, [], 6) := by
  have ha := h.all
  rw [drop_at hl, hc] at ha
  subst hk
  rw [← ha, tkGo_big h1]

set_option maxHeartbeats 1600000 in
set_option maxRecDepth 100000 in
theorem rtake_any (s : ByteArray) (hs : s.size ≤ maxLen) (w : World) :
    Calls Tryd.prog 73 #[.string s] w fun e w' => e = .returned (.tuple #[.int .u64 ((tk s.data.toList).1 : Nat), .string ⟨(tk s.data.toList).2.1.toArray⟩, .int .i64 ((tk s.data.toList).2.2 : Nat)]) ∧ Below w.heap.size w w' := by
  unfold maxLen at hs
  have hS := Lib.hid (Mid.start s.data.toList)
  go_enter Tryd.func73, Tryd.ntmps73
  go_wp2_with fail
  go_loop [5, 6] (fun n i => ∃ k x : Nat, k ≤ 10 ∧ k ≤ s.size ∧ i = .int .i64 k ∧ n = .int .u64 (x : Nat) ∧ Hid (Mid s.data.toList k x)) (fun _ i => 10 - (intOf i).toNat)
  case atStart => exact ⟨0, 0, by omega, by omega, rfl, rfl, hS⟩
  case round =>
    obtain ⟨k, x, hk, hks, rfl, rfl, hH⟩ := hrel
    clear hS
    by_cases hlt : k < 10
    · by_cases hsz : k < s.size
      · have k0 : (0 : Int) ≤ (k : Int) := by omega
        have k1 : (k : Int) < (s.size : Int) := by omega
        have k1' : ¬ (s.size : Int) ≤ (k : Int) := by omega
        have k9 : (k : Int) ≤ 9 := by omega
        have hkl : k < s.data.toList.length := by simp; omega
        have hx := hH.out.lt
        have hb := s[k].toNat_lt
        by_cases hA : k = 9 ∧ 1 < s[k].toNat
        · have R := Lib.hid (hH.out.big hA.1 hkl (c := s[k]) rfl hA.2)
          have d9 : ((k : Int) == 9) = true := by rw [beq_iff_eq]; omega
          have d1 : decide (1 < s[k].toNat) = true := by simpa using hA.2
          have d0 : (1 : Int) < (s[k].toNat : Int) := by omega
          clear hA
          go_wp2_with fail
          go_ret3
          exact ⟨by rw [R.out]; rfl, Below.refl _ _⟩
        · have x2 := wrap_sev s[k] k
          have e1 := nxt_val hH.out hlt hA
          have hN := nxt_lt hH.out s[k]
          have x3 : IntKind.u64.wrap ((x : Int) + ((shv s[k] k : Nat) : Int)) = ((nxt x s[k] k : Nat) : Int) := by
            rw [IntWalk.u64_in _ (by rw [shv_val hlt hA]; omega), shv_val hlt hA, e1]; omega
          have HA := Lib.hid hA
          clear e1
          by_cases hc : s[k].toNat < 128
          · have hc' : (s[k].toNat : Int) < 128 := by omega
            have hL := hH.out.land (by omega) hkl (c := s[k]) rfl hc
            by_cases hB : s[k].toNat = 0 ∧ 0 < k
            · have R := Lib.hid (hL.zero hB.2 hB.1)
              have d1 : ¬ (1 : Int) < (s[k].toNat : Int) := by omega
              have d1' : decide ((1 : Int) < (s[k].toNat : Int)) = false := by simp; omega
              have d2 : decide (0 < k) = true := by simpa using hB.2
              have d0 : 0 < k := hB.2
              have d3 : ((s[k].toNat : Int) == 0) = true := by rw [beq_iff_eq]; omega
              clear hA hB hL hc
              by_cases h9 : k = 9
              · have d9 : ((k : Int) == 9) = true := by rw [beq_iff_eq]; omega
                clear h9
                go_wp2_with fail
                go_ret3
                exact ⟨by rw [R.out]; rfl, Below.refl _ _⟩
              · have d9 : ((k : Int) == 9) = false := by rw [beq_eq_false_iff_ne]; omega
                clear h9
                go_wp2_with fail
                go_ret3
                exact ⟨by rw [R.out]; rfl, Below.refl _ _⟩
            · have R := Lib.hid (hL.fine hA hB)
              have F := Lib.hid (front_of s (k + 1))
              have e1 := IntWalk.i64_in ((k : Int) + 1) (by omega)
              have e2 : (0 : Int) ≤ (k : Int) + 1 := by omega
              have e3 : ((k : Int) + 1).toNat = k + 1 := by omega
              have e4 : (k : Int) + 1 ≤ (s.size : Int) := by omega
              have E : Hid (Ending.returned (.tuple #[.int .u64 (nxt x s[k] k : Nat), .string (s.extract (k + 1) s.size), .int .i64 0]) = .returned (.tuple #[.int .u64 ((tk s.data.toList).1 : Nat), .string ⟨(tk s.data.toList).2.1.toArray⟩, .int .i64 ((tk s.data.toList).2.2 : Nat)])) := Lib.hid (by
                rw [R.out, F.out]; rfl)
              clear R F hL hc
              by_cases h0 : k = 0
              · have d2 : decide (0 < k) = false := by simp; omega
                have d9 : ((k : Int) == 9) = false := by rw [beq_eq_false_iff_ne]; omega
                clear hA hB h0
                by_cases hz : s[k].toNat = 0
                · have d3 : ((s[k].toNat : Int) == 0) = true := by rw [beq_iff_eq]; omega
                  clear hz
                  go_wp2_with fail
                  go_quiet (fail)
                  go_wp2_with fail
                  go_ret3
                  exact ⟨E.out, below_drewN (Below.refl _ _) _⟩
                · have d3 : ((s[k].toNat : Int) == 0) = false := by rw [beq_eq_false_iff_ne]; omega
                  clear hz
                  go_wp2_with fail
                  go_quiet (fail)
                  go_wp2_with fail
                  go_ret3
                  exact ⟨E.out, below_drewN (Below.refl _ _) _⟩
              · have d3 : ((s[k].toNat : Int) == 0) = false := by rw [beq_eq_false_iff_ne]; omega
                by_cases h9 : k = 9
                · have d9 : ((k : Int) == 9) = true := by rw [beq_iff_eq]; omega
                  have d1 : ¬ (1 : Int) < (s[k].toNat : Int) := by omega
                  have d1' : decide ((1 : Int) < (s[k].toNat : Int)) = false := by simp; omega
                  clear hA hB h0 h9
                  go_wp2_with fail
                  go_quiet (fail)
                  go_wp2_with fail
                  go_ret3
                  exact ⟨E.out, below_drewN (Below.refl _ _) _⟩
                · have d9 : ((k : Int) == 9) = false := by rw [beq_eq_false_iff_ne]; omega
                  clear hA hB h0 h9
                  go_wp2_with fail
                  go_quiet (fail)
                  go_wp2_with fail
                  go_ret3
                  exact ⟨E.out, below_drewN (Below.refl _ _) _⟩
          · have hc' : ¬ (s[k].toNat : Int) < 128 := by omega
            have HL := Lib.hid (hH.out.next (by omega) hkl (c := s[k]) rfl (by omega))
            have d9 : ((k : Int) == 9) = false := by rw [beq_eq_false_iff_ne]; omega
            clear hc hA
            go_wp2_with fail
            go_round
            case rel => exact ⟨k + 1, _, by omega, by omega, by go_num, rfl, HL⟩
            case measure => simp [intOf]; omega
      · have R := Lib.hid (hH.out.more (by simp; omega) (by simp; omega))
        have h' : (s.size : Int) ≤ (k : Int) := by omega
        go_wp2_with fail
        go_ret3
        exact ⟨by rw [R.out]; rfl, Below.refl _ _⟩
    · obtain rfl : k = 10 := by omega
      have R := Lib.hid hH.out.range
      go_wp2_with fail
      go_ret3
      exact ⟨by rw [R.out]; rfl, Below.refl _ _⟩
end Go.Proofs.YthhcopeejhhpgaaDoor

/- Fixed widths: contracts of wire.isWidth, wire.cut, wire.Fixed, wire.TakeFixed and the document's own. -/
namespace Go.Proofs.YthhcopeejhhpgaaDoor
open Go.RowKit Wire

/-- Is it a width? -/
def wide (k : Int) : Bool := decide (1 ≤ k ∧ k ≤ 8)
theorem wide_yes {k : Int} (h1 : 1 ≤ k) (h8 : k ≤ 8) : wide k = true := by simp [wide, h1, h8]
theorem wide_no {k : Int} (h : k < 1 ∨ 8 < k) : wide k = false := by simp [wide]; omega

theorem isWidth_any (k : Int) (w : World) : Calls Tryd.prog 64 #[.int .i64 k] w fun e w' => e = .returned (.bool (wide k)) ∧ w = w' := by
  by_cases h1 : 1 ≤ k
  · by_cases h8 : k ≤ 8
    · have H := Lib.hid (wide_yes h1 h8)
      go_enter Tryd.func64, Tryd.ntmps64
      go_wp2
      go_ret
      exact ⟨by rw [H.out]; rfl, rfl⟩
    · have H := Lib.hid (wide_no (k := k) (by omega))
      have d : decide (k ≤ 8) = false := by simpa using h8
      go_enter Tryd.func64, Tryd.ntmps64
      go_wp2
      go_ret
      exact ⟨by rw [H.out]; rfl, rfl⟩
  · have H := Lib.hid (wide_no (k := k) (by omega))
    have d : decide (1 ≤ k) = false := by simpa using h1
    go_enter Tryd.func64, Tryd.ntmps64
    go_wp2
    go_ret
    exact ⟨by rw [H.out]; rfl, rfl⟩

theorem cut_short {l : List UInt8} {n : Nat} (h : l.length < n) : cutL l n = ([], [], 4) := by rw [cutL, if_pos h]
theorem cut_long {l : List UInt8} {n : Nat} (h : n ≤ l.length) : cutL l n = (l.take n, l.drop n, 0) := by rw [cutL, if_neg (by omega)]

theorem back_of (s : ByteArray) (k : Nat) : s.extract k s.size = ⟨(s.data.toList.drop k).toArray⟩ := by
  apply ByteArray.ext
  apply Array.toList_inj.1
  rw [Lib.extract_to_end]
theorem head_of (s : ByteArray) (k : Nat) : s.extract 0 k = ⟨(s.data.toList.take k).toArray⟩ := by
  apply ByteArray.ext
  apply Array.toList_inj.1
  rw [Lib.extract_data]; simp

theorem cuti_any (s : ByteArray) (hs : s.size ≤ maxLen) (n : Nat) (hn : n < 9223372036854775808) (w : World) :
    Calls Tryd.prog 95 #[.string s, .int .i64 (n : Nat)] w fun e w' => e = .returned (.tuple #[.string ⟨(cutL s.data.toList n).1.toArray⟩, .string ⟨(cutL s.data.toList n).2.1.toArray⟩, .int .i64 ((cutL s.data.toList n).2.2 : Nat)]) ∧ Below w.heap.size w w' := by
  unfold maxLen at hs
  have hn0 : (0 : Int) ≤ (n : Int) := by omega
  by_cases h : s.size < n
  · have R := Lib.hid (cut_short (l := s.data.toList) (n := n) (by simpa using h))
    have h' : (s.size : Int) < (n : Int) := by omega
    go_enter Tryd.func95, Tryd.ntmps95
    go_wp2_with fail
    go_ret3
    exact ⟨by rw [R.out]; rfl, Below.refl _ _⟩
  · have R := Lib.hid (cut_long (l := s.data.toList) (n := n) (by simp; omega))
    have h' : (n : Int) ≤ (s.size : Int) := by omega
    have E : Hid (Ending.returned (.tuple #[.string (s.extract 0 n), .string (s.extract n s.size), .int .i64 0]) = .returned (.tuple #[.string ⟨(cutL s.data.toList n).1.toArray⟩, .string ⟨(cutL s.data.toList n).2.1.toArray⟩, .int .i64 ((cutL s.data.toList n).2.2 : Nat)])) := Lib.hid (by
      rw [R.out, back_of, head_of]; rfl)
    clear R
    go_enter Tryd.func95, Tryd.ntmps95
    go_wp2_with fail
    go_quiet (fail)
    go_wp2_with fail
    go_ret3
    exact ⟨E.out, below_drewN (Below.refl _ _) _⟩

theorem cutu_any (s : ByteArray) (hs : s.size ≤ maxLen) (n : Nat) (hn : n < 18446744073709551616) (w : World) :
    Calls Tryd.prog 99 #[.string s, .int .u64 (n : Nat)] w fun e w' => e = .returned (.tuple #[.string ⟨(cutL s.data.toList n).1.toArray⟩, .string ⟨(cutL s.data.toList n).2.1.toArray⟩, .int .i64 ((cutL s.data.toList n).2.2 : Nat)]) ∧ Below w.heap.size w w' := by
  unfold maxLen at hs
  have hn0 : (0 : Int) ≤ (n : Int) := by omega
  by_cases h : s.size < n
  · have R := Lib.hid (cut_short (l := s.data.toList) (n := n) (by simpa using h))
    have h' : (s.size : Int) < (n : Int) := by omega
    go_enter Tryd.func99, Tryd.ntmps99
    go_wp2_with fail
    go_ret3
    exact ⟨by rw [R.out]; rfl, Below.refl _ _⟩
  · have R := Lib.hid (cut_long (l := s.data.toList) (n := n) (by simp; omega))
    have h' : (n : Int) ≤ (s.size : Int) := by omega
    have E : Hid (Ending.returned (.tuple #[.string (s.extract 0 n), .string (s.extract n s.size), .int .i64 0]) = .returned (.tuple #[.string ⟨(cutL s.data.toList n).1.toArray⟩, .string ⟨(cutL s.data.toList n).2.1.toArray⟩, .int .i64 ((cutL s.data.toList n).2.2 : Nat)])) := Lib.hid (by
      rw [R.out, back_of, head_of]; rfl)
    clear R
    go_enter Tryd.func99, Tryd.ntmps99
    go_wp2_with fail
    go_quiet (fail)
    go_wp2_with fail
    go_ret3
    exact ⟨E.out, below_drewN (Below.refl _ _) _⟩
end Go.Proofs.YthhcopeejhhpgaaDoor

/- Fixed widths, put: contracts of wire.Fixed and the document's own. -/
namespace Go.Proofs.YthhcopeejhhpgaaDoor
open Go.RowKit Wire

theorem fxw_no {n : Nat} {k : Int} (h : k < 1 ∨ 8 < k) : fxw n k = [] := by rw [fxw, if_pos h]
theorem fxw_yes {n w : Nat} (h1 : 1 ≤ w) (h8 : w ≤ 8) : fxw n (w : Int) = fx n w := by
  rw [fxw, if_neg (by omega)]; simp

/-- A byte of a number, by a shift. -/
def byt (n j : Nat) : UInt8 := UInt8.ofNat (n / 256 ^ j % 256)
theorem fx_succ (n w : Nat) : fx n (w + 1) = byt n w :: fx n w := rfl

theorem shr_byte (n j : Nat) : IntKind.u8.wrap ((n : Int) / 2 ^ (8 * j)) = (((byt n j).toNat : Nat) : Int) := by
  have h2 : (2 : Int) ^ (8 * j) = ((256 ^ j : Nat) : Int) := by rw [show (256 : Nat) = 2 ^ 8 from rfl, ← Nat.pow_mul]; simp
  have h3 : (n : Int) / ((256 ^ j : Nat) : Int) = ((n / 256 ^ j : Nat) : Int) := by simp
  rw [h2, h3]
  unfold byt
  rw [ofNat_toNat _ (by omega), IntKind.wrap_u8]
  omega

set_option maxRecDepth 100000 in
theorem rfixed_any (n : Nat) (k : Int) (w : World) :
    Calls Tryd.prog 45 #[.int .u64 (n : Nat), .int .i64 k] w fun e w' => e = .returned (.string ⟨(fxw n k).toArray⟩) ∧ Below w.heap.size w w' := by
  by_cases h1 : 1 ≤ k
  · by_cases h8 : k ≤ 8
    · obtain ⟨d, rfl⟩ : ∃ d : Nat, k = d := ⟨k.toNat, by omega⟩
      have R := Lib.hid (fxw_yes (n := n) (w := d) (by omega) (by omega))
      have d1 : ¬ (d : Int) < 1 := by omega
      have d2 : decide ((8 : Int) < (d : Int)) = false := by simp; omega
      have d3 : ¬ (8 : Int) < (d : Int) := by omega
      go_enter Tryd.func45, Tryd.ntmps45
      go_wp2_with fail
      go_loopw [5, 6] (fun v i wr => ∃ (j : Nat) (acc : List UInt8), j ≤ d ∧ i = .int .i64 ((j : Int) - 1) ∧ Hid (acc ++ fx n j = fx n d ∧ acc.length ≤ 8) ∧ OwnB w.heap.size v acc wr ∧ Hid (w.heap.size ≤ wr.heap.size) ∧ Below w.heap.size w wr) (fun _ i _ => (intOf i + 1).toNat)
      case atStart => exact ⟨d, [], by omega, rfl, Lib.hid ⟨rfl, by simp⟩, ⟨World.ownsRow_nil _ _ _ _⟩, Lib.hid (Nat.le_refl _), Below.refl _ _⟩
      case round =>
        obtain ⟨j, acc, hj, rfl, hH, hO, hs, hb⟩ := hrel
        have HO := Lib.hid hO
        have HB := Lib.hid hb
        clear hO hb
        by_cases h0 : j = 0
        · subst h0
          have hF := Lib.hid (show acc = fx n d by have := hH.out.1; simpa [fx] using this)
          have ht := HO.out.text
          have hh : ((0 : Nat) : Int) - 1 = -1 := rfl
          go_wp2_with fail
          go_ret
          exact ⟨by rw [R.out, ← hF.out]; rfl, HB.out⟩
        · obtain ⟨i, rfl⟩ : ∃ i, j = i + 1 := ⟨j - 1, by omega⟩
          have e0 : ((i + 1 : Nat) : Int) - 1 = (i : Int) := by omega
          have i7 : (i : Int) ≤ 7 := by omega
          have i0 : (0 : Int) ≤ (i : Int) := by omega
          have sb := shr_byte n i
          have hH' := hH.out
          rw [fx_succ] at hH'
          have HN := Lib.hid (show (acc ++ [byt n i]) ++ fx n i = fx n d ∧ (acc ++ [byt n i]).length ≤ 8 from ⟨by rw [← hH'.1]; simp, by
            have := congrArg List.length hH'.1
            rw [fx_length, List.length_append, List.length_cons] at this
            simp; omega⟩)
          have HL := Lib.hid hH.out.2
          clear hH'
          generalize byt n i = c at *
          rw [e0]
          go_wp2_with (refine wpList_push rfl (.tmp 19) (.tmp 25) rfl w.heap.size _ acc (by rfl) (HO.out.alloc _) wr.heap.size 1 [c] (by rfl) (Has.make wr 5 (bys [c])) rfl (by omega) (by have := HL.out; omega) (by have := hs.out; simp <;> omega) ?_; intro v' w' hO' hB')
          have hsz := hB'.size
          simp at hsz
          go_roundw
          case rel => exact ⟨i, acc ++ [c], by omega, rfl, HN, hO', Lib.hid (by have := hs.out; omega), (up_alloc HB.out _).trans (hB'.mono (by have := hs.out; simp <;> omega))⟩
          case measure => simp [intOf]
    · have R := Lib.hid (fxw_no (n := n) (k := k) (by omega))
      have d1 : decide (k < 1) = false := by simp; omega
      have d2 : (8 : Int) < k := by omega
      go_enter Tryd.func45, Tryd.ntmps45
      go_wp2_with fail
      go_ret
      exact ⟨by rw [R.out]; rfl, Below.refl _ _⟩
  · have R := Lib.hid (fxw_no (n := n) (k := k) (by omega))
    have d1 : k < 1 := by omega
    go_enter Tryd.func45, Tryd.ntmps45
    go_wp2_with fail
    go_ret
    exact ⟨by rw [R.out]; rfl, Below.refl _ _⟩

theorem fill_set (l : List UInt8) (d j : Nat) (hl : l.length = d) (hj : j < d) (c : UInt8) (hc : l[j]? = some c) :
    (bys (l.take j ++ List.replicate (d - j) 0)).set j (.int .u8 c.toNat) = bys (l.take (j + 1) ++ List.replicate (d - (j + 1)) 0) := by
  have h1 : d - j = (d - (j + 1)) + 1 := by omega
  have h2 : (l.take j).length = j := by rw [List.length_take]; omega
  have h3 : l.take (j + 1) = l.take j ++ [c] := by rw [List.take_add_one, hc]; rfl
  unfold bys
  rw [h1, List.replicate_succ, h3, ← List.map_set (f := fun c : UInt8 => Value.int .u8 c.toNat) (a := c), List.set_append_right _ _ (by omega), h2]
  simp
theorem fill_at (l : List UInt8) (d j : Nat) (hl : l.length = d) (hj : j < d) : (bys (l.take j ++ List.replicate (d - j) 0))[j]? = some (.int .u8 0) := by
  have h1 : d - j = (d - (j + 1)) + 1 := by omega
  have h2 : (l.take j).length = j := by rw [List.length_take]; omega
  unfold bys
  rw [List.getElem?_map, List.getElem?_append_right (by omega), h2, h1]
  simp [List.replicate_succ]

set_option maxRecDepth 100000 in
theorem fixed_any (n : Nat) (k : Int) (w : World) :
    Calls Tryd.prog 38 #[.int .u64 (n : Nat), .int .i64 k] w fun e w' => e = .returned (.string ⟨(fxw n k).toArray⟩) ∧ Below w.heap.size w w' := by
  by_cases h : 1 ≤ k ∧ k ≤ 8
  · obtain ⟨d, rfl⟩ : ∃ d : Nat, k = d := ⟨k.toNat, by omega⟩
    have W := wide_yes h.1 h.2
    have R := Lib.hid (fxw_yes (n := n) (w := d) (by omega) (by omega))
    have m1 : ∀ w : World, (Instr.makeSlice 51 (.int .i64 (d : Int)) (.int .i64 (d : Int))).run Tryd.prog w = .ok (.slice (some ⟨w.heap.size, 0, none⟩) d d) (w.alloc (.cells (bys (List.replicate d 0)).toArray 5)) := fun w => run_make_bys d d (by omega) (by omega) w
    have d1 : (1 : Int) ≤ (d : Int) := by omega
    have d8 : (d : Int) ≤ 8 := by omega
    clear h
    go_enter Tryd.func38, Tryd.ntmps38
    go_wp2_with (go_at_call 64; refine (isWidth_any _ _).mono ?_; rintro e w' ⟨rfl, rfl⟩)
    go_loopw [6, 14] (fun _ i wr => ∃ j : Nat, j ≤ d ∧ i = .int .i64 j ∧ Has wr w.heap.size 5 (bys ((fx n d).take j ++ List.replicate (d - j) 0)) ∧ Below w.heap.size w wr) (fun _ i _ => d - (intOf i).toNat)
    case atStart => exact ⟨0, by omega, rfl, by simpa using Has.make w 5 (bys (List.replicate d 0)), up_alloc (Below.refl _ _) _⟩
    case round =>
      clear m1
      obtain ⟨j, hj, rfl, hH, hb⟩ := hrel
      have HB := Lib.hid hb
      have HH := Lib.hid hH
      clear hb hH
      by_cases hlt : j < d
      · obtain ⟨i, hi⟩ : ∃ i, i = d - 1 - j := ⟨_, rfl⟩
        have e0 : (d : Int) - 1 - (j : Int) = (i : Int) := by omega
        have i7 : (i : Int) ≤ 7 := by omega
        have i0 : (0 : Int) ≤ (i : Int) := by omega
        have j0 : (0 : Int) ≤ (j : Int) := by omega
        have j1 : (j : Int) < (d : Int) := by omega
        have sb := shr_byte n i
        have ha : (fx n d)[j]? = some (byt n i) := by rw [fx_at n d j hlt, hi]; rfl
        have HF := Lib.hid (fill_set (fx n d) d j (fx_length n d) hlt (byt n i) ha)
        have x1 := HH.out.free j
        have x2 := HH.out.at (fill_at (fx n d) d j (fx_length n d) hlt)
        clear hi ha
        generalize byt n i = c at *
        go_wp2_with fail
        go_roundw
        case rel => exact ⟨j + 1, by omega, by go_num, by rw [← HF.out]; exact HH.out.set j _, HB.out.setCell (p := ⟨w.heap.size, j, none⟩) (by simp) _⟩
        case measure => simp [intOf]; omega
      · obtain rfl : j = d := by omega
        have HO : OwnB w.heap.size (.slice (some ⟨w.heap.size, 0, none⟩) j j) (fx n j) wr := by
          have := OwnB.of_block (l := fx n j) (r := []) (n := j) (Nat.le_refl _) (by have := HH.out; rw [List.take_of_length_le (by rw [fx_length]; omega)] at this; simpa using this) (by simp [fx_length]) (by omega)
          rwa [fx_length] at this
        have ht := HO.text
        clear HO
        go_wp2_with fail
        go_ret
        exact ⟨by rw [R.out]; rfl, HB.out⟩
  · have W := wide_no (k := k) (by omega)
    have R := Lib.hid (fxw_no (n := n) (k := k) (by omega))
    clear h
    go_enter Tryd.func38, Tryd.ntmps38
    go_wp2_with (go_at_call 64; refine (isWidth_any _ _).mono ?_; rintro e w' ⟨rfl, rfl⟩)
    go_ret
    exact ⟨by rw [R.out]; rfl, Below.refl _ _⟩
end Go.Proofs.YthhcopeejhhpgaaDoor

/- Fixed widths, taken: contracts of wire.TakeFixed and the document's own. -/
namespace Go.Proofs.YthhcopeejhhpgaaDoor
open Go.RowKit Wire

theorem tkf_no {l : List UInt8} {k : Int} (h : k < 1 ∨ 8 < k) : tkf l k = (0, [], 1) := by rw [tkf, if_pos h]
theorem tkf_short {l : List UInt8} {d : Nat} (h1 : 1 ≤ d) (h8 : d ≤ 8) (h : l.length < d) : tkf l (d : Int) = (0, [], 4) := by
  rw [tkf, if_neg (by omega), if_pos (by omega)]
theorem tkf_long {l : List UInt8} {d : Nat} (h1 : 1 ≤ d) (h8 : d ≤ 8) (h : d ≤ l.length) : tkf l (d : Int) = (be (l.take d), l.drop d, 0) := by
  rw [tkf, if_neg (by omega), if_neg (by omega)]; simp

theorem be_take (s : ByteArray) (j : Nat) (h : j < s.size) : be (s.data.toList.take (j + 1)) = 256 * be (s.data.toList.take j) + s[j].toNat := by
  rw [List.take_succ_eq_append_getElem (by simpa using h), be_snoc]; rfl
theorem be_take_lt (l : List UInt8) (j : Nat) (h : j ≤ 7) : be (l.take j) < 72057594037927936 := by
  have h1 := be_lt (l.take j)
  have h2 : (256 : Nat) ^ (l.take j).length ≤ 256 ^ 7 := Nat.pow_le_pow_right (by omega) (by rw [List.length_take]; omega)
  have : (256 : Nat) ^ 7 = 72057594037927936 := by decide
  omega
theorem or_byte (x : Nat) (h : x < 72057594037927936) (c : UInt8) : bits .or .u64 ((x : Int) * 256) (c.toNat : Int) = ((256 * x + c.toNat : Nat) : Int) := by
  have hc := c.toNat_lt
  have := u64_or_nat (x * 256) c.toNat (by omega) (by omega)
  rw [nat_join 8 (x * 256) c.toNat (by omega) hc] at this
  have e : ((x * 256 : Nat) : Int) = (x : Int) * 256 := by omega
  rw [e] at this
  rw [this, Nat.mul_comm]

set_option maxHeartbeats 800000 in
set_option maxRecDepth 100000 in
theorem takeFixed_any (s : ByteArray) (hs : s.size ≤ maxLen) (k : Int) (w : World) :
    Calls Tryd.prog 83 #[.string s, .int .i64 k] w fun e w' => e = .returned (.tuple #[.int .u64 ((tkf s.data.toList k).1 : Nat), .string ⟨(tkf s.data.toList k).2.1.toArray⟩, .int .i64 ((tkf s.data.toList k).2.2 : Nat)]) ∧ Below w.heap.size w w' := by
  by_cases h : 1 ≤ k ∧ k ≤ 8
  · obtain ⟨d, rfl⟩ : ∃ d : Nat, k = d := ⟨k.toNat, by omega⟩
    have W := wide_yes h.1 h.2
    by_cases hl : s.size < d
    · have R := Lib.hid (tkf_short (l := s.data.toList) (d := d) (by omega) (by omega) (by simpa using hl))
      have c := fun w => cuti_any s hs d (by omega) w
      rw [cut_short (by simpa using hl)] at c
      have C := Lib.hid c
      clear c h hl
      go_enter Tryd.func83, Tryd.ntmps83
      go_wp2_with (first | (go_at_call 64; refine (isWidth_any _ _).mono ?_; rintro e w' ⟨rfl, rfl⟩) | (go_at_call 95; refine (C.out _).mono ?_; rintro e w' ⟨rfl, hb⟩))
      go_ret3
      exact ⟨by rw [R.out]; rfl, hb⟩
    · have R := Lib.hid (tkf_long (l := s.data.toList) (d := d) (by omega) (by omega) (by simp; omega))
      have c := fun w => cuti_any s hs d (by omega) w
      rw [cut_long (by simp; omega)] at c
      have hts : (⟨(s.data.toList.take d).toArray⟩ : ByteArray).size = d := by
        show (s.data.toList.take d).toArray.size = d
        simp; omega
      have htl : (⟨(s.data.toList.take d).toArray⟩ : ByteArray).data.toList = s.data.toList.take d := by simp
      rw [← htl] at R
      simp only at c
      generalize (⟨(s.data.toList.take d).toArray⟩ : ByteArray) = t at *
      have C := Lib.hid c
      have HT := Lib.hid htl
      have HS := Lib.hid hts
      have d8 : d ≤ 8 := by omega
      clear c h hl htl
      unfold maxLen at hs
      have hts' : (t.size : Int) = (d : Int) := by omega
      clear hts
      go_enter Tryd.func83, Tryd.ntmps83
      go_wp2_with (first | (go_at_call 64; refine (isWidth_any _ _).mono ?_; rintro e w' ⟨rfl, rfl⟩) | (go_at_call 95; refine (C.out _).mono ?_; rintro e w' ⟨rfl, hb⟩))
      have H0 := Lib.hid (show be (t.data.toList.take 0) = 0 from rfl)
      go_loop [10, 11, 27] (fun n _ i => ∃ j : Nat, j ≤ d ∧ i = .int .i64 j ∧ n = .int .u64 (be (t.data.toList.take j) : Nat)) (fun _ _ i => d - (intOf i).toNat)
      case atStart => exact ⟨0, by omega, rfl, by rw [H0.out]; rfl⟩
      case round =>
        obtain ⟨j, hj, rfl, rfl⟩ := hrel
        clear H0
        by_cases hlt : j < d
        · have ht : j < t.size := by have := HS.out; omega
          have j0 : (0 : Int) ≤ (j : Int) := by omega
          have j1 : (j : Int) < (t.size : Int) := by omega
          have j2 : (j : Int) < (d : Int) := by omega
          have HX := Lib.hid (be_take t j ht)
          have hx := be_take_lt t.data.toList j (by omega)
          generalize be (t.data.toList.take j) = x at *
          have ho := or_byte x hx t[j]
          have hb := t[j].toNat_lt
          rw [← HX.out] at ho
          have hx' : (x : Int) * 256 ≤ 18446744073709551615 := by omega
          go_wp2_with fail
          go_round
          case rel => exact ⟨j + 1, by omega, by go_num, rfl⟩
          case measure => simp [intOf]; omega
        · obtain rfl : j = d := by omega
          have HA := Lib.hid (show t.data.toList.take j = t.data.toList by rw [List.take_of_length_le]; rw [HT.out, List.length_take]; omega)
          rw [HA.out]
          go_wp2_with fail
          go_ret3
          exact ⟨by rw [R.out]; rfl, hb⟩
  · have W := wide_no (k := k) (by omega)
    have R := Lib.hid (tkf_no (l := s.data.toList) (k := k) (by omega))
    clear h
    go_enter Tryd.func83, Tryd.ntmps83
    go_wp2_with (go_at_call 64; refine (isWidth_any _ _).mono ?_; rintro e w' ⟨rfl, rfl⟩)
    go_ret3
    exact ⟨by rw [R.out]; rfl, Below.refl _ _⟩

set_option maxHeartbeats 800000 in
set_option maxRecDepth 100000 in
theorem rtakeFixed_any (s : ByteArray) (hs : s.size ≤ maxLen) (k : Int) (w : World) :
    Calls Tryd.prog 48 #[.string s, .int .i64 k] w fun e w' => e = .returned (.tuple #[.int .u64 ((tkf s.data.toList k).1 : Nat), .string ⟨(tkf s.data.toList k).2.1.toArray⟩, .int .i64 ((tkf s.data.toList k).2.2 : Nat)]) ∧ Below w.heap.size w w' := by
  unfold maxLen at hs
  by_cases h1 : 1 ≤ k
  · by_cases h8 : k ≤ 8
    · obtain ⟨d, rfl⟩ : ∃ d : Nat, k = d := ⟨k.toNat, by omega⟩
      have d1 : ¬ (d : Int) < 1 := by omega
      have d2 : decide ((8 : Int) < (d : Int)) = false := by simp; omega
      have d3 : ¬ (8 : Int) < (d : Int) := by omega
      by_cases hl : s.size < d
      · have R := Lib.hid (tkf_short (l := s.data.toList) (d := d) (by omega) (by omega) (by simpa using hl))
        have hl' : (s.size : Int) < (d : Int) := by omega
        go_enter Tryd.func48, Tryd.ntmps48
        go_wp2_with fail
        go_ret3
        exact ⟨by rw [R.out]; rfl, Below.refl _ _⟩
      · have R := Lib.hid (tkf_long (l := s.data.toList) (d := d) (by omega) (by omega) (by simp; omega))
        have hl' : ¬ (s.size : Int) < (d : Int) := by omega
        have hl2 : (d : Int) ≤ (s.size : Int) := by omega
        have dd0 : (0 : Int) ≤ (d : Int) := by omega
        have E : Hid (Ending.returned (.tuple #[.int .u64 (be (s.data.toList.take d) : Nat), .string (s.extract d s.size), .int .i64 0]) = .returned (.tuple #[.int .u64 ((tkf s.data.toList (d : Int)).1 : Nat), .string ⟨(tkf s.data.toList (d : Int)).2.1.toArray⟩, .int .i64 ((tkf s.data.toList (d : Int)).2.2 : Nat)])) := Lib.hid (by
          rw [R.out, back_of]; rfl)
        clear R
        go_enter Tryd.func48, Tryd.ntmps48
        go_wp2_with fail
        have H0 := Lib.hid (show be (s.data.toList.take 0) = 0 from rfl)
        go_loop [7, 8] (fun n i => ∃ j : Nat, j ≤ d ∧ i = .int .i64 j ∧ n = .int .u64 (be (s.data.toList.take j) : Nat)) (fun _ i => d - (intOf i).toNat)
        case atStart => exact ⟨0, by omega, rfl, by rw [H0.out]; rfl⟩
        case round =>
          obtain ⟨j, hj, rfl, rfl⟩ := hrel
          clear H0
          by_cases hlt : j < d
          · have ht : j < s.size := by omega
            have j0 : (0 : Int) ≤ (j : Int) := by omega
            have j1 : (j : Int) < (s.size : Int) := by omega
            have j2 : (j : Int) < (d : Int) := by omega
            have HX := Lib.hid (be_take s j ht)
            have hx := be_take_lt s.data.toList j (by omega)
            generalize be (s.data.toList.take j) = x at *
            have hb := s[j].toNat_lt
            go_wp2_with fail
            go_round
            case rel => exact ⟨j + 1, by omega, by go_num, by rw [HX.out]; go_num⟩
            case measure => simp [intOf]; omega
          · obtain rfl : j = d := by omega
            go_wp2_with fail
            go_quiet (fail)
            go_wp2_with fail
            go_ret3
            exact ⟨E.out, below_drewN (Below.refl _ _) _⟩
    · have R := Lib.hid (tkf_no (l := s.data.toList) (k := k) (by omega))
      have d1 : decide (k < 1) = false := by simp; omega
      have d2 : (8 : Int) < k := by omega
      go_enter Tryd.func48, Tryd.ntmps48
      go_wp2_with fail
      go_ret3
      exact ⟨by rw [R.out]; rfl, Below.refl _ _⟩
  · have R := Lib.hid (tkf_no (l := s.data.toList) (k := k) (by omega))
    have d1 : k < 1 := by omega
    go_enter Tryd.func48, Tryd.ntmps48
    go_wp2_with fail
    go_ret3
    exact ⟨by rw [R.out]; rfl, Below.refl _ _⟩
end Go.Proofs.YthhcopeejhhpgaaDoor

/- Texts: contracts of wire.Text, wire.TakeText and the document's own. -/
namespace Go.Proofs.YthhcopeejhhpgaaDoor
open Go.RowKit Wire

theorem txt_no {t : List UInt8} (h : 65536 < t.length) : txt t = ([], 2) := by rw [txt, if_pos h]
theorem txt_yes {t : List UInt8} (h : t.length ≤ 65536) : txt t = (putL t.length ++ t, 0) := by rw [txt, if_neg (by omega)]
theorem tkt_err {s : List UInt8} (h : (tk s).2.2 ≠ 0) : tkt s = ([], [], (tk s).2.2) := by rw [tkt, if_pos h]
theorem tkt_big {s : List UInt8} (h : (tk s).2.2 = 0) (h2 : 65536 < (tk s).1) : tkt s = ([], [], 2) := by rw [tkt, if_neg (by simpa using h), if_pos h2]
theorem tkt_cut {s : List UInt8} (h : (tk s).2.2 = 0) (h2 : (tk s).1 ≤ 65536) : tkt s = cutL (tk s).2.1 (tk s).1 := by rw [tkt, if_neg (by simpa using h), if_neg (by omega)]

theorem joined (l : List UInt8) (s : ByteArray) : (⟨l.toArray⟩ : ByteArray) ++ s = ⟨(l ++ s.data.toList).toArray⟩ := by
  apply ByteArray.ext
  simp

set_option maxRecDepth 100000 in
theorem text_any (s : ByteArray) (hs : s.size ≤ maxLen) (w : World) :
    Calls Tryd.prog 62 #[.string s] w fun e w' => e = .returned (.tuple #[.string ⟨(txt s.data.toList).1.toArray⟩, .int .i64 ((txt s.data.toList).2 : Nat)]) ∧ Below w.heap.size w w' := by
  unfold maxLen at hs
  by_cases h : 65536 < s.size
  · have R := Lib.hid (txt_no (t := s.data.toList) (by simpa using h))
    have h' : (65536 : Int) < (s.size : Int) := by omega
    go_enter Tryd.func62, Tryd.ntmps62
    go_wp2_with fail
    go_ret2
    exact ⟨by rw [R.out]; rfl, Below.refl _ _⟩
  · have hl : s.data.toList.length = s.size := by simp
    have R := Lib.hid (txt_yes (t := s.data.toList) (by omega))
    rw [hl] at R
    have h' : (s.size : Int) ≤ 65536 := by omega
    have J := Lib.hid (joined (putL s.size) s)
    have hp := putL_ten (n := s.size) (by omega)
    have hj : ¬ 9223372036854775807 < (putL s.size).length + s.size := by omega
    clear hl
    go_enter Tryd.func62, Tryd.ntmps62
    go_wp2_with (go_at_call 60; refine (put_any s.size (by omega) _).mono ?_; rintro e w' ⟨rfl, hb⟩)
    go_ret2
    exact ⟨by rw [R.out, ← J.out]; rfl, hb⟩

set_option maxRecDepth 100000 in
theorem rtext_any (s : ByteArray) (hs : s.size ≤ maxLen) (w : World) :
    Calls Tryd.prog 44 #[.string s] w fun e w' => e = .returned (.tuple #[.string ⟨(txt s.data.toList).1.toArray⟩, .int .i64 ((txt s.data.toList).2 : Nat)]) ∧ Below w.heap.size w w' := by
  unfold maxLen at hs
  by_cases h : 65536 < s.size
  · have R := Lib.hid (txt_no (t := s.data.toList) (by simpa using h))
    have h' : (65536 : Int) < (s.size : Int) := by omega
    go_enter Tryd.func44, Tryd.ntmps44
    go_wp2_with fail
    go_ret2
    exact ⟨by rw [R.out]; rfl, Below.refl _ _⟩
  · have hl : s.data.toList.length = s.size := by simp
    have R := Lib.hid (txt_yes (t := s.data.toList) (by omega))
    rw [hl] at R
    have h' : (s.size : Int) ≤ 65536 := by omega
    have J := Lib.hid (joined (putL s.size) s)
    have hp := putL_ten (n := s.size) (by omega)
    have hj : ¬ 9223372036854775807 < (putL s.size).length + s.size := by omega
    clear hl
    go_enter Tryd.func44, Tryd.ntmps44
    go_wp2_with (go_at_call 42; refine (rput_any s.size (by omega) _).mono ?_; rintro e w' ⟨rfl, hb⟩)
    go_ret2
    exact ⟨by rw [R.out, ← J.out]; rfl, hb⟩

set_option maxHeartbeats 800000 in
set_option maxRecDepth 100000 in
theorem takeText_any (s : ByteArray) (hs : s.size ≤ maxLen) (w : World) :
    Calls Tryd.prog 97 #[.string s] w fun e w' => e = .returned (.tuple #[.string ⟨(tkt s.data.toList).1.toArray⟩, .string ⟨(tkt s.data.toList).2.1.toArray⟩, .int .i64 ((tkt s.data.toList).2.2 : Nat)]) ∧ Below w.heap.size w w' := by
  obtain ⟨v, r, e, hv⟩ : ∃ v r e, tk s.data.toList = (v, r, e) := ⟨_, _, _, rfl⟩
  have c := fun w => take_any s hs w
  rw [hv] at c
  simp only at c
  have C := Lib.hid c
  have hvl := tk_lt s.data.toList
  have hel := tk_err s.data.toList
  rw [hv] at hvl hel
  simp only at hvl hel
  unfold maxLen at hs
  clear c
  by_cases h0 : e = 0
  · subst h0
    by_cases h2 : 65536 < v
    · have R := Lib.hid (tkt_big (s := s.data.toList) (by rw [hv]) (by rw [hv]; exact h2))
      have h2' : (65536 : Int) < (v : Int) := by omega
      clear hv
      go_enter Tryd.func97, Tryd.ntmps97
      go_wp2_with (go_at_call 96; refine (C.out _).mono ?_; rintro e w1 ⟨rfl, hb⟩)
      go_ret3
      exact ⟨by rw [R.out]; rfl, hb⟩
    · have h2' : (v : Int) ≤ 65536 := by omega
      have h0 : True := trivial
      have ha := tk_len s.data.toList
      rw [hv] at ha
      have hr : (⟨r.toArray⟩ : ByteArray).size ≤ maxLen := by
        show r.toArray.size ≤ maxLen
        unfold maxLen
        simp at ha ⊢
        omega
      have HR := Lib.hid hr
      have E := Lib.hid (tkt_cut (s := s.data.toList) (by rw [hv]) (by rw [hv]; exact Nat.le_of_not_lt h2))
      rw [hv] at E
      simp only at E
      have HV := Lib.hid hvl
      clear hr ha h0
      clear hv
      go_enter Tryd.func97, Tryd.ntmps97
      go_wp2_with (first | (go_at_call 96; refine (C.out _).mono ?_; rintro e w1 ⟨rfl, hb⟩) | (go_at_call 99; refine (cutu_any _ HR.out v (by omega) _).mono ?_; rintro e w2 ⟨rfl, hb2⟩))
      go_ret3
      exact ⟨by rw [E.out]; rfl, hb.trans (hb2.mono hb.size)⟩
  · have R := Lib.hid (tkt_err (s := s.data.toList) (by rw [hv]; exact h0))
    rw [hv] at R
    have h0' : ((e : Int) != 0) = true := by rw [bne_iff_ne]; omega
    clear hv h0
    go_enter Tryd.func97, Tryd.ntmps97
    go_wp2_with (go_at_call 96; refine (C.out _).mono ?_; rintro e w1 ⟨rfl, hb⟩)
    go_ret3
    exact ⟨by rw [R.out]; rfl, hb⟩

set_option maxHeartbeats 800000 in
set_option maxRecDepth 100000 in
theorem rtakeText_any (s : ByteArray) (hs : s.size ≤ maxLen) (w : World) :
    Calls Tryd.prog 74 #[.string s] w fun e w' => e = .returned (.tuple #[.string ⟨(tkt s.data.toList).1.toArray⟩, .string ⟨(tkt s.data.toList).2.1.toArray⟩, .int .i64 ((tkt s.data.toList).2.2 : Nat)]) ∧ Below w.heap.size w w' := by
  obtain ⟨v, r, e, hv⟩ : ∃ v r e, tk s.data.toList = (v, r, e) := ⟨_, _, _, rfl⟩
  have c := fun w => rtake_any s hs w
  rw [hv] at c
  simp only at c
  have C := Lib.hid c
  have hvl := tk_lt s.data.toList
  have hel := tk_err s.data.toList
  rw [hv] at hvl hel
  simp only at hvl hel
  unfold maxLen at hs
  clear c
  by_cases h0 : e = 0
  · subst h0
    by_cases h2 : 65536 < v
    · have R := Lib.hid (tkt_big (s := s.data.toList) (by rw [hv]) (by rw [hv]; exact h2))
      have h2' : (65536 : Int) < (v : Int) := by omega
      clear hv
      go_enter Tryd.func74, Tryd.ntmps74
      go_wp2_with (go_at_call 73; refine (C.out _).mono ?_; rintro e w1 ⟨rfl, hb⟩)
      go_ret3
      exact ⟨by rw [R.out]; rfl, hb⟩
    · have h2' : (v : Int) ≤ 65536 := by omega
      have h0 : True := trivial
      have ha := tk_len s.data.toList
      rw [hv] at ha
      have hr : (⟨r.toArray⟩ : ByteArray).size ≤ maxLen := by
        show r.toArray.size ≤ maxLen
        unfold maxLen
        simp at ha ⊢
        omega
      have HR := Lib.hid hr
      have E := Lib.hid (tkt_cut (s := s.data.toList) (by rw [hv]) (by rw [hv]; exact Nat.le_of_not_lt h2))
      rw [hv] at E
      simp only at E
      have HV := Lib.hid hvl
      clear hr ha h0
      have hrs : (⟨r.toArray⟩ : ByteArray).size = r.length := by
        show r.toArray.size = r.length
        simp
      have hrl : (⟨r.toArray⟩ : ByteArray).data.toList = r := by simp
      have B := Lib.hid (back_of ⟨r.toArray⟩ v)
      have F := Lib.hid (head_of ⟨r.toArray⟩ v)
      rw [hrl] at B F
      have v1 : (v : Int) ≤ 65536 := by omega
      have v0 : (0 : Int) ≤ (v : Int) := by omega
      by_cases hlt : r.length < v
      · have X := Lib.hid (cut_short hlt)
        have HH := Lib.hid hrs
        rw [X.out] at E
        have hlt' : ((⟨r.toArray⟩ : ByteArray).size : Int) < (v : Int) := by rw [HH.out]; omega
        clear hv hrs hrl B F
        generalize (⟨r.toArray⟩ : ByteArray) = t at *
        go_enter Tryd.func74, Tryd.ntmps74
        go_wp2_with (go_at_call 73; refine (C.out _).mono ?_; rintro e w1 ⟨rfl, hb⟩)
        go_ret3
        exact ⟨by rw [E.out]; rfl, hb⟩
      · have X := Lib.hid (cut_long (l := r) (n := v) (by omega))
        have HH := Lib.hid hrs
        rw [X.out] at E
        have hlt' : (v : Int) ≤ ((⟨r.toArray⟩ : ByteArray).size : Int) := by rw [HH.out]; omega
        have hlt2 : ¬ ((⟨r.toArray⟩ : ByteArray).size : Int) < (v : Int) := by omega
        have hmx : ((⟨r.toArray⟩ : ByteArray).size : Int) ≤ 9223372036854775807 := by have := HR.out; unfold maxLen at this; omega
        clear hv hrs hrl
        generalize (⟨r.toArray⟩ : ByteArray) = t at *
        go_enter Tryd.func74, Tryd.ntmps74
        go_wp2_with (go_at_call 73; refine (C.out _).mono ?_; rintro e w1 ⟨rfl, hb⟩)
        go_quiet (fail)
        go_wp2_with fail
        go_ret3
        exact ⟨by rw [E.out, ← B.out, ← F.out]; rfl, below_drewN hb _⟩
  · have R := Lib.hid (tkt_err (s := s.data.toList) (by rw [hv]; exact h0))
    rw [hv] at R
    have h0' : ((e : Int) != 0) = true := by rw [bne_iff_ne]; omega
    clear hv h0
    go_enter Tryd.func74, Tryd.ntmps74
    go_wp2_with (go_at_call 73; refine (C.out _).mono ?_; rintro e w1 ⟨rfl, hb⟩)
    go_ret3
    exact ⟨by rw [R.out]; rfl, hb⟩

end Go.Proofs.YthhcopeejhhpgaaDoor
