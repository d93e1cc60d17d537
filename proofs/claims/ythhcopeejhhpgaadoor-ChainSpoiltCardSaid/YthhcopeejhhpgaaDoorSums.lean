/- Words turned: contracts of bits.RotateLeft32 (at a number below 0) and digest.turned. -/
import Derived.Test.YthhcopeejhhpgaaDoorBase
import Derived.Deep.QuietTactic
import Derived.BigQuiet
import Derived.BigRegion
import Derived.StillTailTactics
import Derived.Deep.RegionHeld3
import Derived.WalkMore
import Derived.Deep.DeepCutAuto
import Derived.Deep.CutRange
import Derived.Deep.CutBlock
import Derived.Deep.LoopGhost
import Derived.Deep.DrawnRows
import Derived.Test.YthhcopeejhhpgaaDoorShelf
namespace Go.Proofs.YthhcopeejhhpgaaDoor
open Go.RowKit Word

attribute [local go_sem ↓] shl_nat shr_nat shl_lit shr_lit
attribute [local go_sem] wrap_add bits_xor bits_and bits_or wrap_less bits_not

/-- A word turned to the right. -/
def rr (n k : Nat) : Nat := o32 (l32 n (32 - k)) (r32 n k)

theorem rotl_any (n k : Nat) (h1 : 1 ≤ k) (h2 : k ≤ 31) (w : World) :
    Calls Tryd.prog 93 #[.int .u32 n, .int .i64 (-(k : Int))] w fun e w' => e = .returned (.int .u32 (rr n k : Nat)) ∧ w = w' := by
  have e1 : bits BinOp.and IntKind.u64 (IntKind.u64.wrap (-(k : Int))) 31 = ((32 - k : Nat) : Int) := by
    have e : IntKind.u64.wrap (-(k : Int)) = ((18446744073709551616 - k : Nat) : Int) := by rw [IntKind.wrap_u64]; omega
    have := u64_and_nat (18446744073709551616 - k) 31 (by omega) (by omega)
    simp only [Int.cast_ofNat_Int] at this
    rw [e, this, nat_mask5]
    omega
  have e2 : IntKind.u64.wrap (32 - ((32 - k : Nat) : Int)) = (k : Int) := by rw [IntKind.wrap_u64]; omega
  have hj := Lib.hid (show rr n k = o32 (l32 n (32 - k)) (r32 n k) from rfl)
  generalize 32 - k = j at *
  go_enter Tryd.func93, Tryd.ntmps93
  go_wp2_with fail
  go_ret
  exact ⟨by rw [hj.out]; rfl, rfl⟩

/-- A word turned by each of some numbers, bit by bit against one another. -/
def rrs (n : Nat) (l : List Nat) : Nat := l.foldl (fun s k => x32 s (rr n k)) 0

theorem rrs_take_succ (n : Nat) (l : List Nat) (k : Nat) (h : k < l.length) : rrs n (l.take (k + 1)) = x32 (rrs n (l.take k)) (rr n l[k]) := by
  unfold rrs
  rw [List.take_succ_eq_append_getElem h, List.foldl_append]; rfl

set_option maxRecDepth 100000 in
theorem turned_any (n : Nat) (l : List Nat) (hl : l.length ≤ 10) (hr : ∀ k ∈ l, 1 ≤ k ∧ k ≤ 31) (g c : Nat) (w : World)
    (hc : ∀ j (h : j < l.length), w.cell? ⟨g, j, none⟩ = some (.int .i64 (l[j] : Nat))) :
    Calls Tryd.prog 78 #[.int .u32 n, .slice (some ⟨g, 0, none⟩) l.length c] w fun e w' => e = .returned (.int .u32 (rrs n l : Nat)) ∧ w = w' := by
  have hE := Lib.hid (show rrs n l = rrs n (l.take l.length) from by rw [List.take_length])
  have hZ := Lib.hid (show rrs n (l.take 0) = 0 from rfl)
  have HC := Lib.hid hc
  clear hc
  go_enter Tryd.func78, Tryd.ntmps78
  go_wp2_with fail
  go_loop [5, 7, 10] (fun s _ i => ∃ k : Nat, k ≤ l.length ∧ i = .int .i64 k ∧ s = .int .u32 (rrs n (l.take k) : Nat)) (fun _ _ i => l.length - (intOf i).toNat)
  case atStart => exact ⟨0, by omega, rfl, by rw [hZ.out]; rfl⟩
  case round =>
    obtain ⟨k, hk, rfl, rfl⟩ := hrel
    by_cases hlt : k < l.length
    · have hS := Lib.hid (rrs_take_succ n l k hlt)
      have hcell := HC.out k hlt
      obtain ⟨h1, h2⟩ := hr l[k] (List.getElem_mem hlt)
      generalize rrs n (l.take k) = s at *
      generalize l[k] = m at *
      go_wp2_with fail
      refine (rotl_any _ m h1 h2 _).mono ?_; rintro e w' ⟨rfl, rfl⟩
      go_wp2_with fail
      go_round
      case rel => exact ⟨k + 1, by omega, by go_num, by rw [hS.out]⟩
      case measure => simp [intOf]; omega
    · obtain rfl : k = l.length := by omega
      go_wp2
      go_ret
      exact ⟨by rw [hE.out]; rfl, rfl⟩

end Go.Proofs.YthhcopeejhhpgaaDoor

/- A block's words: contract of digest.wordsOf. -/
namespace Go.Proofs.YthhcopeejhhpgaaDoor
open Go.RowKit Word

attribute [local go_sem ↓] shl_nat shr_nat shl_lit shr_lit
attribute [local go_sem] wrap_add bits_xor bits_and bits_or wrap_less bits_not wrap_byte wrap_bt

/-- The word of four bytes of a text, the highest byte first. -/
def word4 (l : List UInt8) (i : Nat) : Nat := o32 (o32 (o32 (l32 (bt l (4 * i)) 24) (l32 (bt l (4 * i + 1)) 16)) (l32 (bt l (4 * i + 2)) 8)) (bt l (4 * i + 3))

/-- The first k words of a text. -/
def firsts (s : List UInt8) (k : Nat) : List Nat := (List.range k).map (word4 s)

def zeros (n : Nat) : List Nat := List.replicate n 0

theorem zeros_cell (s : List UInt8) (k : Nat) (h : k < 16) : (nums .u32 (firsts s k ++ zeros (64 - k)))[k]? = some (.int .u32 0) := by
  have l : (firsts s k).length = k := by simp [firsts]
  rw [nums_at _ _ (by simp [zeros, l]; omega), List.getElem_append_right (by omega)]
  simp [zeros]

theorem zeros_set (s : List UInt8) (k : Nat) (h : k < 16) : (nums .u32 (firsts s k ++ zeros (64 - k))).set k (.int .u32 (word4 s k : Nat)) = nums .u32 (firsts s (k + 1) ++ zeros (64 - (k + 1))) := by
  have l : (firsts s k).length = k := by simp [firsts]
  have z : zeros (64 - k) = 0 :: zeros (64 - (k + 1)) := by
    unfold zeros
    rw [show 64 - k = (64 - (k + 1)) + 1 by omega, List.replicate_succ]
  have f : firsts s (k + 1) = firsts s k ++ [word4 s k] := by simp [firsts, List.range_succ]
  rw [z, f]
  unfold nums
  rw [List.map_append, List.set_append_right _ _ (by simp [l])]
  simp [l]

set_option maxRecDepth 100000 in
theorem wordsOf_any (s : ByteArray) (hs : s.size = 64) (w : World) :
    Calls Tryd.prog 77 #[.string s] w fun e w' => e = .returned (.agg (nums .u32 (firsts s.data.toList 16 ++ zeros 48)).toArray) ∧ Below w.heap.size w w' := by
  have hS := Lib.hid hs
  have h1 : s.size ≤ 64 := by omega
  have h2 : 64 ≤ s.size := by omega
  clear hs
  go_enter Tryd.func77, Tryd.ntmps77
  go_wp2_with fail
  go_loopw [4, 5] (fun _ i wr => ∃ k : Nat, k ≤ 16 ∧ i = .int .i64 k ∧ Has wr w.heap.size 105 (nums .u32 (zeros 64)) ∧ Has wr (w.heap.size + 1) 105 (nums .u32 (firsts s.data.toList k ++ zeros (64 - k))) ∧ Below w.heap.size w wr) (fun _ i _ => 16 - (intOf i).toNat)
  case atStart => exact ⟨0, by omega, rfl, (Has.make w _ _).alloc _, Has.make2 w _ _ _, up_alloc (up_alloc (Below.refl _ _) _) _⟩
  case round =>
    obtain ⟨k, hk, rfl, hr, hw, hb⟩ := hrel
    by_cases hlt : k < 16
    · have b0 : (4 : Int) * (k : Int) < (s.size : Int) := by omega
      have b1 : (4 : Int) * (k : Int) + 1 < (s.size : Int) := by omega
      have b2 : (4 : Int) * (k : Int) + 2 < (s.size : Int) := by omega
      have b3 : (4 : Int) * (k : Int) + 3 < (s.size : Int) := by omega
      have k0 : (0 : Int) ≤ (k : Int) := by omega
      have k1 : (k : Int) < 64 := by omega
      have e0 := IntWalk.i64_in (4 * (k : Int)) (by omega)
      have e1 := IntWalk.i64_in (4 * (k : Int) + 1) (by omega)
      have e2 := IntWalk.i64_in (4 * (k : Int) + 2) (by omega)
      have e3 := IntWalk.i64_in (4 * (k : Int) + 3) (by omega)
      have n0 : (0 : Int) ≤ 4 * (k : Int) := by omega
      have n1 : (0 : Int) ≤ 4 * (k : Int) + 1 := by omega
      have n2 : (0 : Int) ≤ 4 * (k : Int) + 2 := by omega
      have n3 : (0 : Int) ≤ 4 * (k : Int) + 3 := by omega
      have t0 : (4 * (k : Int)).toNat = 4 * k := by omega
      have t1 : (4 * (k : Int) + 1).toNat = 4 * k + 1 := by omega
      have t2 : (4 * (k : Int) + 2).toNat = 4 * k + 2 := by omega
      have t3 : (4 * (k : Int) + 3).toNat = 4 * k + 3 := by omega
      have hfree := hw.free k
      have hcell := hw.at (i := k) (v := .int .u32 0) (zeros_cell _ k hlt)
      have HR := Lib.hid hr
      have HW := Lib.hid hw
      clear hr hw
      go_wp2_with fail
      have g0 := bt_of s (4 * k) (by omega)
      have g1 := bt_of s (4 * k + 1) (by omega)
      have g2 := bt_of s (4 * k + 2) (by omega)
      have g3 := bt_of s (4 * k + 3) (by omega)
      go_still_tail 31, (by kernel_rfl)
      clear g0 g1 g2 g3 e0 e1 e2 e3 t0 t1 t2 t3 n0 n1 n2 n3
      change wpList _ _ _ _ _ wr.drew
      go_wp2_with fail
      go_roundw
      case rel =>
        refine ⟨k + 1, by omega, by go_num, (HR.out.other (p := ⟨_, _, none⟩) (by simp) _).drew, ?_, (hb.setCell (p := ⟨_, _, none⟩) (by simp) _).drew⟩
        have := (HW.out.set k (.int .u32 (word4 s.data.toList k : Nat))).drew
        rw [zeros_set _ k hlt] at this
        exact this
      case measure => simp [intOf]; omega
    · obtain rfl : k = 16 := by omega
      have hu := Tryd.underlying105
      have hi : (Tryd.prog.info? 105).map (·.size) = some 64 := by kernel_rfl
      go_wp2_with (first
        | (refine wpList_load_row rfl 105 _ rfl (w.heap.size + 1) (by rfl) _ _ _ _ hw hu rfl (by rw [hi]; simp [nums, firsts, zeros]) ?_)
        | (refine wpList_store_mid rfl 105 _ _ rfl w.heap.size 0 _ (by rfl) (by rfl) (hr.there 0 _ (by simp [nums, firsts, zeros])) (by rw [hi]; simp [nums, firsts, zeros]) (all_oneCell_toArray (nums_one _ _)) ?_))
      have hres := hr.setWhole (vs := nums .u32 (firsts s.data.toList 16 ++ zeros 48)) (by simp [nums, firsts, zeros])
      refine bodyPost_ret_by (results_cell_row Tryd.results77 _ _ _ _ _ _ _ (by rfl) hres hu rfl (by rw [hi]; simp [nums, firsts, zeros])) rfl ⟨rfl, below_setCells (Nat.le_refl _) _ _ hb⟩
end Go.Proofs.YthhcopeejhhpgaaDoor

/- The rounds: what digest.changed returns, as a plain function of the words and the block. -/
namespace Go.Proofs.YthhcopeejhhpgaaDoor
open Go.RowKit Word

attribute [local go_sem ↓] shl_nat shr_nat shl_lit shr_lit
attribute [local go_sem] wrap_add bits_xor bits_and bits_or wrap_less bits_not wrap_byte wrap_bt
attribute [local go_sem ↓] Go.wp_at_zero Go.wp_at_succ

/-- The table of the rounds' constants lies in the program's variable. -/
def kc (t : Nat) : Nat := [0x428a2f98, 0x71374491, 0xb5c0fbcf, 0xe9b5dba5, 0x3956c25b, 0x59f111f1, 0x923f82a4, 0xab1c5ed5,
  0xd807aa98, 0x12835b01, 0x243185be, 0x550c7dc3, 0x72be5d74, 0x80deb1fe, 0x9bdc06a7, 0xc19bf174,
  0xe49b69c1, 0xefbe4786, 0x0fc19dc6, 0x240ca1cc, 0x2de92c6f, 0x4a7484aa, 0x5cb0a9dc, 0x76f988da,
  0x983e5152, 0xa831c66d, 0xb00327c8, 0xbf597fc7, 0xc6e00bf3, 0xd5a79147, 0x06ca6351, 0x14292967,
  0x27b70a85, 0x2e1b2138, 0x4d2c6dfc, 0x53380d13, 0x650a7354, 0x766a0abb, 0x81c2c92e, 0x92722c85,
  0xa2bfe8a1, 0xa81a664b, 0xc24b8b70, 0xc76c51a3, 0xd192e819, 0xd6990624, 0xf40e3585, 0x106aa070,
  0x19a4c116, 0x1e376c08, 0x2748774c, 0x34b0bcb5, 0x391c0cb3, 0x4ed8aa4a, 0x5b9cca4f, 0x682e6ff3,
  0x748f82ee, 0x78a5636f, 0x84c87814, 0x8cc70208, 0x90befffa, 0xa4506ceb, 0xbef9a3f7, 0xc67178f2].getD t 0

def Tab (w : World) : Prop := ∀ t, t < 64 → w.cell? ⟨0, t, none⟩ = some (.int .u32 (kc t : Nat))

def s0 (x : Nat) : Nat := x32 (rrs x [7, 18]) (r32 x 3)
def s1 (x : Nat) : Nat := x32 (rrs x [17, 19]) (r32 x 10)

/-- The word that follows from those ahead of it. -/
def nextWord (l : List Nat) (t : Nat) : Nat := p32 (p32 (p32 (l.getD (t - 16) 0) (s0 (l.getD (t - 15) 0))) (l.getD (t - 7) 0)) (s1 (l.getD (t - 2) 0))

/-- A block's first 16 + n words. -/
def sched (b : List UInt8) : Nat → List Nat
  | 0 => firsts b 16
  | n + 1 => sched b n ++ [nextWord (sched b n) (16 + n)]

/-- Eight words. -/
structure W8 where
  a : Nat
  b : Nat
  c : Nat
  d : Nat
  e : Nat
  f : Nat
  g : Nat
  h : Nat

def W8.cells (v : W8) : List Value := nums .u32 [v.a, v.b, v.c, v.d, v.e, v.f, v.g, v.h]

/-- One round. -/
def rnd (v : W8) (k x : Nat) : W8 :=
  let one := p32 (p32 (p32 (p32 v.h (rrs v.e [6, 11, 25])) (x32 (a32 v.e v.f) (a32 (n32 v.e) v.g))) k) x
  let two := p32 (rrs v.a [2, 13, 22]) (x32 (x32 (a32 v.a v.b) (a32 v.a v.c)) (a32 v.b v.c))
  ⟨p32 one two, v.a, v.b, v.c, p32 v.d one, v.e, v.f, v.g⟩

/-- The first t rounds, over the words wd. -/
def rounds (v : W8) (wd : Nat → Nat) : Nat → W8
  | 0 => v
  | t + 1 => rnd (rounds v wd t) (kc t) (wd t)

/-- A block's word number t. -/
def wordAt (b : List UInt8) (t : Nat) : Nat := (sched b (t - 15)).getD t 0

/-- Two rows of words, one by one together. -/
def W8.plus (v u : W8) : W8 := ⟨p32 v.a u.a, p32 v.b u.b, p32 v.c u.c, p32 v.d u.d, p32 v.e u.e, p32 v.f u.f, p32 v.g u.g, p32 v.h u.h⟩

/-- The words behind a block. -/
def comp (v : W8) (b : List UInt8) : W8 := v.plus (rounds v (wordAt b) 64)

/-- The block of words, as it stands ahead of round t. -/
def arr (b : List UInt8) (t : Nat) : List Value := nums .u32 (sched b (t - 16) ++ zeros (48 - (t - 16)))

theorem sched_length (b : List UInt8) (n : Nat) : (sched b n).length = 16 + n := by
  induction n with
  | zero => simp [sched, firsts]
  | succ n ih => simp [sched, ih]; omega

theorem sched_pre (b : List UInt8) (n m : Nat) : ∃ r, sched b (n + m) = sched b n ++ r := by
  induction m with
  | zero => exact ⟨[], by simp⟩
  | succ m ih =>
    obtain ⟨r, hr⟩ := ih
    exact ⟨r ++ [nextWord (sched b (n + m)) (16 + (n + m))], by rw [← Nat.add_assoc, sched, hr]; simp⟩

theorem sched_more (b : List UInt8) (n m t : Nat) (ht : t < 16 + n) : (sched b (n + m)).getD t 0 = (sched b n).getD t 0 := by
  obtain ⟨r, hr⟩ := sched_pre b n m
  have hl := sched_length b n
  rw [hr, List.getD_eq_getElem?_getD, List.getD_eq_getElem?_getD, List.getElem?_append_left (by omega)]

theorem sched_at (b : List UInt8) (n t : Nat) (ht : t < 16 + n) : (sched b n).getD t 0 = wordAt b t := by
  unfold wordAt
  by_cases h : n ≤ t - 15
  · obtain ⟨m, hm⟩ := Nat.exists_eq_add_of_le h
    rw [hm, sched_more b n m t ht]
  · obtain ⟨m, hm⟩ := Nat.exists_eq_add_of_le (Nat.le_of_not_le h)
    rw [hm, sched_more b (t - 15) m t (by omega)]

theorem getD_snoc (l : List Nat) (x k : Nat) (h : l.length = k) : (l ++ [x]).getD k 0 = x := by
  subst h
  rw [List.getD_eq_getElem?_getD, List.getElem?_append_right (Nat.le_refl _), Nat.sub_self]
  rfl

theorem sched_succ (b : List UInt8) (n : Nat) : sched b (n + 1) = sched b n ++ [nextWord (sched b n) (16 + n)] := by rw [sched]

theorem sched_new (b : List UInt8) (n : Nat) : wordAt b (16 + n) = nextWord (sched b n) (16 + n) := by
  have e := getD_snoc (sched b n) (nextWord (sched b n) (16 + n)) (16 + n) (sched_length b n)
  have f := sched_at b (n + 1) (16 + n) (by omega)
  rw [sched_succ] at f
  exact f.symm.trans e

theorem wordAt_next (b : List UInt8) (t : Nat) (h1 : 16 ≤ t) :
    wordAt b t = p32 (p32 (p32 (wordAt b (t - 16)) (s0 (wordAt b (t - 15)))) (wordAt b (t - 7))) (s1 (wordAt b (t - 2))) := by
  obtain ⟨n, rfl⟩ : ∃ n, t = 16 + n := ⟨t - 16, by omega⟩
  rw [sched_new, nextWord, sched_at b n _ (by omega), sched_at b n _ (by omega), sched_at b n _ (by omega), sched_at b n _ (by omega)]

theorem arr_at (b : List UInt8) (t j : Nat) (ht : t ≤ 64) (hj : j < 16 ∨ j < t) : (arr b t)[j]? = some (.int .u32 (wordAt b j : Nat)) := by
  have hl := sched_length b (t - 16)
  unfold arr
  rw [nums_at _ _ (by simp [zeros, hl]; omega), List.getElem_append_left (by omega)]
  rw [← sched_at b (t - 16) j (by omega), List.getD_eq_getElem?_getD, List.getElem?_eq_getElem (by omega)]
  rfl

theorem arr_early (b : List UInt8) (t : Nat) (h : t < 16) : arr b (t + 1) = arr b t := by
  unfold arr
  rw [show t + 1 - 16 = 0 by omega, show t - 16 = 0 by omega]

theorem arr_some (b : List UInt8) (t : Nat) (h1 : 16 ≤ t) (h2 : t < 64) : (arr b t)[t]? = some (.int .u32 0) := by
  have hl := sched_length b (t - 16)
  unfold arr
  rw [nums_at _ _ (by simp [zeros, hl]; omega), List.getElem_append_right (by omega)]
  simp [zeros]

theorem arr_set (b : List UInt8) (t : Nat) (h1 : 16 ≤ t) (h2 : t < 64) : (arr b t).set t (.int .u32 (wordAt b t : Nat)) = arr b (t + 1) := by
  obtain ⟨n, rfl⟩ : ∃ n, t = 16 + n := ⟨t - 16, by omega⟩
  have hl := sched_length b n
  have hw := sched_new b n
  unfold arr
  rw [show 16 + n - 16 = n by omega, show 16 + n + 1 - 16 = n + 1 by omega, hw]
  have z : zeros (48 - n) = 0 :: zeros (48 - (n + 1)) := by
    unfold zeros
    rw [show 48 - n = (48 - (n + 1)) + 1 by omega, List.replicate_succ]
  rw [z, sched_succ]
  unfold nums
  rw [List.map_append, List.set_append_right _ _ (by simp [hl])]
  simp [hl]

theorem turned_7_18 (n g c : Nat) (w : World) (h0 : w.cell? ⟨g, 0, none⟩ = some (.int .i64 7)) (h1 : w.cell? ⟨g, 1, none⟩ = some (.int .i64 18)) :
    Calls Tryd.prog 78 #[.int .u32 n, .slice (some ⟨g, 0, none⟩) 2 c] w fun e w' => e = .returned (.int .u32 (rrs n [7, 18] : Nat)) ∧ w = w' :=
  turned_any n [7, 18] (by simp) (by simp) g c w (fun j h => by
    match j, h with
    | 0, _ => simpa using h0
    | 1, _ => simpa using h1)
theorem turned_17_19 (n g c : Nat) (w : World) (h0 : w.cell? ⟨g, 0, none⟩ = some (.int .i64 17)) (h1 : w.cell? ⟨g, 1, none⟩ = some (.int .i64 19)) :
    Calls Tryd.prog 78 #[.int .u32 n, .slice (some ⟨g, 0, none⟩) 2 c] w fun e w' => e = .returned (.int .u32 (rrs n [17, 19] : Nat)) ∧ w = w' :=
  turned_any n [17, 19] (by simp) (by simp) g c w (fun j h => by
    match j, h with
    | 0, _ => simpa using h0
    | 1, _ => simpa using h1)
theorem turned_6_11_25 (n g c : Nat) (w : World) (h0 : w.cell? ⟨g, 0, none⟩ = some (.int .i64 6)) (h1 : w.cell? ⟨g, 1, none⟩ = some (.int .i64 11)) (h2 : w.cell? ⟨g, 2, none⟩ = some (.int .i64 25)) :
    Calls Tryd.prog 78 #[.int .u32 n, .slice (some ⟨g, 0, none⟩) 3 c] w fun e w' => e = .returned (.int .u32 (rrs n [6, 11, 25] : Nat)) ∧ w = w' :=
  turned_any n [6, 11, 25] (by simp) (by simp) g c w (fun j h => by
    match j, h with
    | 0, _ => simpa using h0
    | 1, _ => simpa using h1
    | 2, _ => simpa using h2)
theorem turned_2_13_22 (n g c : Nat) (w : World) (h0 : w.cell? ⟨g, 0, none⟩ = some (.int .i64 2)) (h1 : w.cell? ⟨g, 1, none⟩ = some (.int .i64 13)) (h2 : w.cell? ⟨g, 2, none⟩ = some (.int .i64 22)) :
    Calls Tryd.prog 78 #[.int .u32 n, .slice (some ⟨g, 0, none⟩) 3 c] w fun e w' => e = .returned (.int .u32 (rrs n [2, 13, 22] : Nat)) ∧ w = w' :=
  turned_any n [2, 13, 22] (by simp) (by simp) g c w (fun j h => by
    match j, h with
    | 0, _ => simpa using h0
    | 1, _ => simpa using h1
    | 2, _ => simpa using h2)

/-- A sum's bytes, the highest one of each word first. -/
def outs (v : W8) (n : Nat) : List Nat := (List.range n).map fun i => r32 ([v.a, v.b, v.c, v.d, v.e, v.f, v.g, v.h].getD (i / 4) 0) (24 - i % 4 * 8) % 256

theorem outs_length (v : W8) (n : Nat) : (outs v n).length = n := by simp [outs]

theorem outs_at (v : W8) (i : Nat) (h : i < 32) : (nums .u8 (outs v i ++ zeros (32 - i)))[i]? = some (.int .u8 0) := by
  rw [nums_at _ _ (by simp [zeros, outs_length]; omega), List.getElem_append_right (by rw [outs_length]; omega)]
  simp [zeros]

theorem outs_set (v : W8) (i : Nat) (h : i < 32) :
    (nums .u8 (outs v i ++ zeros (32 - i))).set i (.int .u8 ((r32 ([v.a, v.b, v.c, v.d, v.e, v.f, v.g, v.h].getD (i / 4) 0) (24 - i % 4 * 8) % 256 : Nat) : Int)) = nums .u8 (outs v (i + 1) ++ zeros (32 - (i + 1))) := by
  have z : zeros (32 - i) = 0 :: zeros (32 - (i + 1)) := by
    unfold zeros
    rw [show 32 - i = (32 - (i + 1)) + 1 by omega, List.replicate_succ]
  have f : outs v (i + 1) = outs v i ++ [r32 ([v.a, v.b, v.c, v.d, v.e, v.f, v.g, v.h].getD (i / 4) 0) (24 - i % 4 * 8) % 256] := by simp [outs, List.range_succ]
  rw [z, f]
  unfold nums
  rw [List.map_append, List.set_append_right _ _ (by simp [outs_length])]
  simp [outs_length]

end Go.Proofs.YthhcopeejhhpgaaDoor

/- The rounds: contract of digest.changed. -/
namespace Go.Proofs.YthhcopeejhhpgaaDoor
open Go.RowKit Word

attribute [local go_sem ↓] shl_nat shr_nat shl_lit shr_lit
attribute [local go_sem] wrap_add bits_xor bits_and bits_or wrap_less bits_not wrap_byte wrap_bt
attribute [local go_sem ↓] Go.wp_at_zero Go.wp_at_succ

theorem below_step {w wx : World} {g1 t : Nat} {x : Value} {A B : Obj} (h : Below w.heap.size w wx) (hz : w.heap.size ≤ g1) : Below w.heap.size w ((((wx.setCell ⟨g1, t, none⟩ x).alloc A).alloc B).drew) :=
  (up_alloc (up_alloc (h.setCell (p := ⟨g1, t, none⟩) hz x) A) B).drew

set_option maxHeartbeats 1600000 in
set_option maxRecDepth 100000 in
theorem changed_any (v : W8) (s : ByteArray) (hs : s.size = 64) (w : World) (hT : Tab w) :
    Calls Tryd.prog 57 #[.agg v.cells.toArray, .string s] w fun e w' => e = .returned (.agg (comp v s.data.toList).cells.toArray) ∧ Below w.heap.size w w' := by
  have HT := Lib.hid hT
  clear hT
  have HS := Lib.hid hs
  clear hs
  go_enter Tryd.func57, Tryd.ntmps57
  go_wp2_with fail
  go_step3
  go_wp2_with fail
  refine (wordsOf_any s HS.out _).mono ?_; rintro e w1 ⟨rfl, hb1⟩
  have hA : Has w1 w.heap.size 66 v.cells := ((Has.make w 66 v.cells).alloc _).up hb1
  have hR : Has w1 (w.heap.size + 1) 66 (nums .u32 (zeros 8)) := (Has.make2 w _ 66 (nums .u32 (zeros 8))).up hb1
  have hB : Below w.heap.size w w1 := (up_alloc (up_alloc (Below.refl _ _) _) _).trans (hb1.mono (by simp; omega))
  have hz : w.heap.size + 2 ≤ w1.heap.size := by have := hb1.size; simp at this; omega
  clear hb1
  have hi : (Tryd.prog.info? 105).map (·.size) = some 64 := by kernel_rfl
  have HA := Lib.hid hA
  have HR := Lib.hid hR
  clear hA hR
  go_wp2_with (refine wpList_store_whole rfl 105 _ _ rfl w1.heap.size 105 (nums .u32 (zeros 64)) _ (by rfl) (by rfl) (Has.make w1 _ _) (by simp [nums, firsts, zeros]) (by rw [hi]; simp [nums, firsts, zeros]) (nums_one _ _) ?_; intro w2 hW hO)
  have hA2 := hO.keep (by omega) (HA.out.alloc _)
  have hR2 := hO.keep (by omega) (HR.out.alloc _)
  have hB2 := hO.below (B := w.heap.size) (a := w) (by omega) (hB.alloc hB.size _)
  have hz2 : w1.heap.size < w2.heap.size := hW.lt
  clear hO HA HR hB
  have c0 : w2.cell? ⟨w.heap.size, 0, none⟩ = some (.int .u32 (v.a : Nat)) := hA2.at rfl
  have c1 : w2.cell? ⟨w.heap.size, 1, none⟩ = some (.int .u32 (v.b : Nat)) := hA2.at rfl
  have c2 : w2.cell? ⟨w.heap.size, 2, none⟩ = some (.int .u32 (v.c : Nat)) := hA2.at rfl
  have c3 : w2.cell? ⟨w.heap.size, 3, none⟩ = some (.int .u32 (v.d : Nat)) := hA2.at rfl
  have c4 : w2.cell? ⟨w.heap.size, 4, none⟩ = some (.int .u32 (v.e : Nat)) := hA2.at rfl
  have c5 : w2.cell? ⟨w.heap.size, 5, none⟩ = some (.int .u32 (v.f : Nat)) := hA2.at rfl
  have c6 : w2.cell? ⟨w.heap.size, 6, none⟩ = some (.int .u32 (v.g : Nat)) := hA2.at rfl
  have c7 : w2.cell? ⟨w.heap.size, 7, none⟩ = some (.int .u32 (v.h : Nat)) := hA2.at rfl
  have HA := Lib.hid hA2
  have HR := Lib.hid hR2
  have HW := Lib.hid hW
  clear hA2 hR2 hW
  go_quiet (fail)
  clear c0 c1 c2 c3 c4 c5 c6 c7
  generalize w1.heap.size = g1 at *
  replace HA := Lib.hid (HA.out.drewN nq)
  replace HR := Lib.hid (HR.out.drewN nq)
  replace HW := Lib.hid (HW.out.drewN nq)
  replace hB2 := below_drewN hB2 nq
  replace hz2 : g1 < (w2.drewN nq).heap.size := hz2
  generalize w2.drewN nq = w3 at *
  go_wp2_with fail
  go_step3
  go_wp2_with fail
  go_loopw [6, 7, 8, 9, 10, 11, 12, 13, 14, 15, 16, 17, 18] (fun a b c d e f g h i _ _ _ _ wr => ∃ t : Nat, t ≤ 64 ∧ i = .int .i64 t ∧ a = .int .u32 ((rounds v (wordAt s.data.toList) t).a : Nat) ∧ b = .int .u32 ((rounds v (wordAt s.data.toList) t).b : Nat) ∧ c = .int .u32 ((rounds v (wordAt s.data.toList) t).c : Nat) ∧ d = .int .u32 ((rounds v (wordAt s.data.toList) t).d : Nat)
      ∧ e = .int .u32 ((rounds v (wordAt s.data.toList) t).e : Nat) ∧ f = .int .u32 ((rounds v (wordAt s.data.toList) t).f : Nat) ∧ g = .int .u32 ((rounds v (wordAt s.data.toList) t).g : Nat) ∧ h = .int .u32 ((rounds v (wordAt s.data.toList) t).h : Nat)
      ∧ Has wr w.heap.size 66 v.cells ∧ Has wr (w.heap.size + 1) 66 (nums .u32 (zeros 8)) ∧ Has wr g1 105 (arr s.data.toList t) ∧ Below w.heap.size w wr)
      (fun _ _ _ _ _ _ _ _ i _ _ _ _ _ => 64 - (intOf i).toNat)
  case atStart => exact ⟨0, by omega, rfl, rfl, rfl, rfl, rfl, rfl, rfl, rfl, rfl, HA.out, HR.out, HW.out, hB2⟩
  case round =>
    clear HA HR HW hB2 hz2
    obtain ⟨t, ht, rfl, rfl, rfl, rfl, rfl, rfl, rfl, rfl, rfl, hA, hR, hW, hb⟩ := hrel
    have HA := Lib.hid hA
    have HR := Lib.hid hR
    have HW := Lib.hid hW
    have HB := Lib.hid hb
    clear hA hR hW hb
    have HN := Lib.hid (show rounds v (wordAt s.data.toList) (t + 1) = rnd (rounds v (wordAt s.data.toList) t) (kc t) (wordAt s.data.toList t) from rfl)
    generalize hu : rounds v (wordAt s.data.toList) t = u at *
    have HU := Lib.hid hu
    clear hu
    obtain ⟨ua, ub, uc, ud, ue, uf, ug, uh⟩ := u
    by_cases hlt : t < 64
    · have h64 : ((t : Int) == 64) = false := by simp; omega
      go_upto_block 2 with (fail)
      go_cut [15, 16] from 37 to 126 (fun _ _ wc => Has wc w.heap.size 66 v.cells ∧ Has wc (w.heap.size + 1) 66 (nums .u32 (zeros 8)) ∧ Has wc g1 105 (arr s.data.toList (t + 1)) ∧ Below w.heap.size w wc)
      case first =>
        by_cases h16 : t < 16
        · have hd : decide ((16 : Int) ≤ (t : Int)) = false := by simp; omega
          go_wp2_with fail
          go_meet
          exact ⟨HA.out, HR.out, by rw [arr_early _ _ h16]; exact HW.out, HB.out⟩
        · have hd : decide ((16 : Int) ≤ (t : Int)) = true := by simp; omega
          have t0 : (0 : Int) ≤ (t : Int) := by omega
          have t1 : (0 : Int) ≤ (t : Int) - 15 := by omega
          have t2 : (0 : Int) ≤ (t : Int) - 2 := by omega
          have t3 : (t : Int) - 15 < 64 := by omega
          have t4 : (t : Int) - 2 < 64 := by omega
          have e1 := IntWalk.i64_in ((t : Int) - 15) (by omega)
          have e2 := IntWalk.i64_in ((t : Int) - 2) (by omega)
          have n1 : ((t : Int) - 15).toNat = t - 15 := by omega
          have n2 : ((t : Int) - 2).toNat = t - 2 := by omega
          have x1 := HW.out.at (arr_at s.data.toList t (t - 15) (by omega) (by omega))
          have x2 := HW.out.at (arr_at s.data.toList t (t - 2) (by omega) (by omega))
          go_wp2_with fail
          go_quiet (fail)
          clear n1 n2 x1 x2 e1 e2 t1 t2 t3 t4
          replace HA := Lib.hid (HA.out.drewN nq)
          replace HR := Lib.hid (HR.out.drewN nq)
          replace HW := Lib.hid (HW.out.drewN nq)
          replace HB := Lib.hid (below_drewN HB.out nq)
          generalize wr.drewN nq = wx at *
          have t5 : (t : Int) < 64 := by omega
          have e1 : IntKind.i64.wrap ((t : Int) - 16) = ((t - 16 : Nat) : Int) := by rw [IntWalk.i64_in _ (by omega)]; omega
          have e2 : IntKind.i64.wrap ((t : Int) - 7) = ((t - 7 : Nat) : Int) := by rw [IntWalk.i64_in _ (by omega)]; omega
          have t1 : (0 : Int) ≤ ((t - 16 : Nat) : Int) := by omega
          have t2 : (0 : Int) ≤ ((t - 7 : Nat) : Int) := by omega
          have t3 : ((t - 16 : Nat) : Int) < 64 := by omega
          have t4 : ((t - 7 : Nat) : Int) < 64 := by omega
          have x1 := arr_at s.data.toList t (t - 16) (by omega) (by omega)
          have x2 := arr_at s.data.toList t (t - 7) (by omega) (by omega)
          have x3 := arr_some s.data.toList t (by omega) (by omega)
          have HX := Lib.hid (wordAt_next s.data.toList t (by omega))
          have HZ := Lib.hid (arr_set s.data.toList t (by omega) (by omega))
          have z1 : t - 16 ≠ t := by omega
          have z2 : t - 7 ≠ t := by omega
          generalize t - 16 = i16 at *
          generalize t - 7 = i7 at *
          generalize wordAt s.data.toList i16 = b16 at *
          generalize wordAt s.data.toList (t - 15) = b15 at *
          generalize wordAt s.data.toList i7 = b7 at *
          generalize wordAt s.data.toList (t - 2) = b2 at *
          generalize arr s.data.toList t = L at *
          have x4 := HW.out.free t
          have HK := Lib.hid (show ∀ (W : World) (x : Value), Has W g1 105 (L.set t x) → W.cell? ⟨g1, i16, none⟩ = some (.int .u32 (b16 : Nat)) ∧ W.cell? ⟨g1, i7, none⟩ = some (.int .u32 (b7 : Nat)) from
            fun W x h => ⟨h.at (by rw [List.getElem?_set_ne (Ne.symm z1)]; exact x1), h.at (by rw [List.getElem?_set_ne (Ne.symm z2)]; exact x2)⟩)
          replace x1 := HW.out.at x1
          replace x2 := HW.out.at x2
          replace x3 := HW.out.at x3
          have y1 := World.new_ne wx _ x3
          have y2 : g1 < wx.heap.size := HW.out.lt
          have y3 : g1 < wx.heap.size + 1 := by omega
          go_wp2_with fail
          go_region_held3 (fun W => W.cell? ⟨g1, i16, none⟩ = some (.int .u32 (b16 : Nat)) ∧ W.cell? ⟨g1, i7, none⟩ = some (.int .u32 (b7 : Nat)))
            (first | (go_keep; done) | exact HK.out _ _ (((HW.out.set t _).alloc _).alloc _).drew)
            (first
              | (go_at_call_of 78 (Value.int IntKind.u32 b15); refine (turned_7_18 b15 _ _ _ ?_ ?_).mono ?_; (simp [*]); (simp [*]); rintro e w' ⟨rfl, rfl⟩)
              | (go_at_call_of 78 (Value.int IntKind.u32 b2); refine (turned_17_19 b2 _ _ _ ?_ ?_).mono ?_; (simp [*]); (simp [*]); rintro e w' ⟨rfl, rfl⟩))
          all_goals go_wp2_with fail
          all_goals go_meet
          all_goals
            have hZ := HZ.out
            rw [HX.out] at hZ
            exact ⟨(((HA.out.other (p := ⟨g1, t, none⟩) (show w.heap.size ≠ g1 by omega) _).alloc _).alloc _).drew, (((HR.out.other (p := ⟨g1, t, none⟩) (show w.heap.size + 1 ≠ g1 by omega) _).alloc _).alloc _).drew, (congrArg (Has _ g1 _) hZ).mp (((HW.out.set t _).alloc _).alloc _).drew, below_step HB.out (by omega)⟩
      case rest =>
        obtain ⟨hA, hR, hW, hb⟩ := hcut
        have x1 := hW.at (arr_at s.data.toList (t + 1) t (by omega) (by omega))
        have x2 : wc.cell? ⟨0, t, none⟩ = some (.int .u32 (kc t : Nat)) := (hb.cell (p := ⟨0, t, none⟩) (block_lt_of_cell (HT.out t hlt))).trans (HT.out t hlt)
        have y1 := World.new_ne wc _ x1
        have y2 := World.new_ne wc _ x2
        have t5 : (t : Int) < 64 := by omega
        have t6 : (0 : Int) ≤ (t : Int) := by omega
        replace HA := Lib.hid hA
        replace HR := Lib.hid hR
        replace HW := Lib.hid hW
        replace HB := Lib.hid hb
        clear hA hR hW hb
        generalize hw0 : wordAt s.data.toList t = wt at *
        have HW0 := Lib.hid hw0
        clear hw0
        generalize hk0 : kc t = kt at *
        have HK0 := Lib.hid hk0
        clear hk0
        go_wp2_with fail
        go_region_held3 (fun W => W.cell? ⟨g1, t, none⟩ = some (.int .u32 (wt : Nat)) ∧ W.cell? ⟨0, t, none⟩ = some (.int .u32 (kt : Nat)))
            (go_keep)
            (first
              | (go_at_call_of 78 (Value.int IntKind.u32 ue); refine (turned_6_11_25 ue _ _ _ ?_ ?_ ?_).mono ?_; (simp [*]); (simp [*]); (simp [*]); rintro e w' ⟨rfl, rfl⟩))
        go_wp2_with fail
        refine (turned_2_13_22 ua _ _ _ ?_ ?_ ?_).mono ?_
        · simp [*]
        · simp [*]
        · simp [*]
        rintro e w' ⟨rfl, rfl⟩
        clear x1 x2
        go_wp2_with fail
        go_roundw
        case rel =>
          refine ⟨t + 1, by omega, by go_num, ?_, ?_, ?_, ?_, ?_, ?_, ?_, ?_, ((HA.out.alloc _).alloc _).drew, ((HR.out.alloc _).alloc _).drew, ((HW.out.alloc _).alloc _).drew, (up_alloc (up_alloc HB.out _) _).drew⟩
          all_goals (rw [HN.out]; rfl)
        case measure => simp [intOf]; omega
    · obtain rfl : t = 64 := by omega
      have hA := HA.out
      have c0 : wr.cell? ⟨w.heap.size, 0, none⟩ = some (.int .u32 (v.a : Nat)) := hA.at rfl
      have c1 : wr.cell? ⟨w.heap.size, 1, none⟩ = some (.int .u32 (v.b : Nat)) := hA.at rfl
      have c2 : wr.cell? ⟨w.heap.size, 2, none⟩ = some (.int .u32 (v.c : Nat)) := hA.at rfl
      have c3 : wr.cell? ⟨w.heap.size, 3, none⟩ = some (.int .u32 (v.d : Nat)) := hA.at rfl
      have c4 : wr.cell? ⟨w.heap.size, 4, none⟩ = some (.int .u32 (v.e : Nat)) := hA.at rfl
      have c5 : wr.cell? ⟨w.heap.size, 5, none⟩ = some (.int .u32 (v.f : Nat)) := hA.at rfl
      have c6 : wr.cell? ⟨w.heap.size, 6, none⟩ = some (.int .u32 (v.g : Nat)) := hA.at rfl
      have c7 : wr.cell? ⟨w.heap.size, 7, none⟩ = some (.int .u32 (v.h : Nat)) := hA.at rfl
      clear hA
      have hi8 : (Tryd.prog.info? 66).map (·.size) = some 8 := by kernel_rfl
      have hu8 := Tryd.underlying66
      go_wp2_with (refine wpList_store_whole rfl 66 _ _ rfl (w.heap.size + 1) 66 (nums .u32 (zeros 8)) (v.plus ⟨ua, ub, uc, ud, ue, uf, ug, uh⟩).cells (by rfl) (by rfl) HR.out (by rfl) (by rw [hi8]; rfl) (nums_one _ _) ?_; intro w4 hF hO4)
      rw [Exit.noGoto_ret]
      refine bodyPost_ret_by (results_cell_row Tryd.results57 _ _ _ _ _ _ _ (by rfl) hF hu8 rfl (by rw [hi8]; rfl)) rfl ⟨?_, hO4.below (by omega) HB.out⟩
      unfold comp
      rw [HU.out]
end Go.Proofs.YthhcopeejhhpgaaDoor

/- A sum's bytes: contract of digest.bytesOf. -/
namespace Go.Proofs.YthhcopeejhhpgaaDoor
open Go.RowKit Word

attribute [local go_sem ↓] shl_nat shr_nat shl_lit shr_lit
attribute [local go_sem] wrap_add bits_xor bits_and bits_or wrap_less bits_not wrap_byte wrap_bt

theorem to_u8 (n : Nat) : IntKind.u8.wrap (n : Int) = ((n % 256 : Nat) : Int) := by
  rw [IntKind.wrap_u8']; omega

set_option maxRecDepth 100000 in
theorem bytesOf_any (v : W8) (w : World) :
    Calls Tryd.prog 55 #[.agg v.cells.toArray] w fun e w' => e = .returned (.agg (nums .u8 (outs v 32)).toArray) ∧ Below w.heap.size w w' := by
  go_enter Tryd.func55, Tryd.ntmps55
  go_wp2_with fail
  go_loopw [4, 5] (fun _ i wr => ∃ k : Nat, k ≤ 32 ∧ i = .int .i64 k ∧ Has wr w.heap.size 66 v.cells ∧ Has wr (w.heap.size + 1) 23 (nums .u8 (zeros 32)) ∧ Has wr (w.heap.size + 1 + 1) 23 (nums .u8 (outs v k ++ zeros (32 - k))) ∧ Below w.heap.size w wr) (fun _ i _ => 32 - (intOf i).toNat)
  case atStart => exact ⟨0, by omega, rfl, ((Has.make w _ _).alloc _).alloc _, (Has.make2 w _ _ (nums .u8 (zeros 32))).alloc _, Has.make3 w _ _ _ (nums .u8 (zeros 32)), up_alloc (up_alloc (up_alloc (Below.refl _ _) _) _) _⟩
  case round =>
    obtain ⟨k, hk, rfl, hA, hR, hW, hb⟩ := hrel
    by_cases hlt : k < 32
    · have e1 : (k : Int) / 4 = ((k / 4 : Nat) : Int) := by omega
      have e2 : 24 - (k : Int) % 4 * 8 = ((24 - k % 4 * 8 : Nat) : Int) := by omega
      have n1 : ((k / 4 : Nat) : Int) < 8 := by omega
      have hf := hW.free k
      have hc := hW.at (outs_at v k hlt)
      have hd := hA.at (i := k / 4) (v := .int .u32 ([v.a, v.b, v.c, v.d, v.e, v.f, v.g, v.h].getD (k / 4) 0 : Nat)) (by
        have h8 : k / 4 < 8 := by omega
        generalize k / 4 = j at h8
        match j, h8 with
        | 0, _ => rfl
        | 1, _ => rfl
        | 2, _ => rfl
        | 3, _ => rfl
        | 4, _ => rfl
        | 5, _ => rfl
        | 6, _ => rfl
        | 7, _ => rfl)
      have HZ := Lib.hid (outs_set v k hlt)
      generalize [v.a, v.b, v.c, v.d, v.e, v.f, v.g, v.h].getD (k / 4) 0 = x at *
      generalize k / 4 = j at *
      generalize 24 - k % 4 * 8 = sh at *
      have HA := Lib.hid hA
      have HR := Lib.hid hR
      have HW := Lib.hid hW
      have HB := Lib.hid hb
      clear hA hR hW hb
      go_wp2_with fail
      go_roundw
      case rel =>
        exact ⟨k + 1, by omega, by go_num, HA.out.other (p := ⟨w.heap.size + 1 + 1, k, none⟩) (by simp; omega) _, HR.out.other (p := ⟨w.heap.size + 1 + 1, k, none⟩) (by simp) _, (congrArg (Has _ (w.heap.size + 1 + 1) _) HZ.out).mp (HW.out.set k _), HB.out.setCell (p := ⟨w.heap.size + 1 + 1, k, none⟩) (by simp; omega) _⟩
      case measure => simp [intOf]; omega
    · obtain rfl : k = 32 := by omega
      have hu := Tryd.underlying23
      have hi : (Tryd.prog.info? 23).map (·.size) = some 32 := by kernel_rfl
      have HA := Lib.hid hA
      have HR := Lib.hid hR
      have HW := Lib.hid hW
      have HB := Lib.hid hb
      clear hA hR hW hb
      go_wp2_with (first
        | (refine wpList_load_row rfl 23 _ rfl (w.heap.size + 1 + 1) (by rfl) _ _ _ _ HW.out hu rfl (by rw [hi]; simp [nums, outs, zeros]) ?_)
        | (refine wpList_store_whole rfl 23 _ _ rfl (w.heap.size + 1) 23 (nums .u8 (zeros 32)) (nums .u8 (outs v 32)) (by rfl) (by rfl) HR.out (by simp [nums, outs, zeros]) (by rw [hi]; simp [nums, outs]) (nums_one _ _) ?_; intro w4 hF hO4))
      refine bodyPost_ret_by (results_cell_row Tryd.results55 _ _ _ _ _ _ _ (by rfl) hF hu rfl (by rw [hi]; simp [nums, outs])) rfl ⟨rfl, hO4.below (by omega) HB.out⟩
end Go.Proofs.YthhcopeejhhpgaaDoor

/- States: contracts of digest.Start, padding, Add, End, Of, Two. -/
namespace Go.Proofs.YthhcopeejhhpgaaDoor
open Go.RowKit Word

attribute [local go_sem ↓] shl_nat shr_nat shl_lit shr_lit
attribute [local go_sem] wrap_add bits_xor bits_and bits_or wrap_less bits_not wrap_byte wrap_bt

/-- A state: its words, its number of bytes, and those that fill no block. -/
structure St where
  v : W8
  n : Nat
  rest : ByteArray

def St.cells (s : St) : List Value := s.v.cells ++ [.int .u64 (s.n : Nat), .string s.rest]

def W8.start : W8 := ⟨0x6a09e667, 0xbb67ae85, 0x3c6ef372, 0xa54ff53a, 0x510e527f, 0x9b05688c, 0x1f83d9ab, 0x5be0cd19⟩
def St.start : St := ⟨W8.start, 0, ⟨#[]⟩⟩

theorem St.cell8 (s : St) : s.cells[8]? = some (.int .u64 (s.n : Nat)) := rfl
theorem St.cell9 (s : St) : s.cells[9]? = some (.string s.rest) := rfl

set_option maxRecDepth 100000 in
theorem dstart_any (w : World) : Calls Tryd.prog 35 #[] w fun e w' => e = .returned (.agg St.start.cells.toArray) ∧ Below w.heap.size w w' := by
  go_enter Tryd.func35, Tryd.ntmps35
  go_wp2_with fail
  exact bodyPost_ret (v := .agg St.start.cells.toArray) (by simp [results, Tryd.results35, go_sem]; rfl) rfl ⟨rfl, up_alloc (Below.refl _ _) _⟩

/-- The words behind the first j blocks of a text. -/
def hs (v : W8) (l : List UInt8) : Nat → W8
  | 0 => v
  | j + 1 => comp (hs v l j) ((l.drop (64 * j)).take 64)

/-- A state, with a text added. -/
def St.add (s : St) (b : ByteArray) : St :=
  ⟨hs s.v (s.rest ++ b).data.toList ((s.rest ++ b).size / 64), (s.n + b.size) % 18446744073709551616, (s.rest ++ b).extract (64 * ((s.rest ++ b).size / 64)) (s.rest ++ b).size⟩

theorem ext_data (t : ByteArray) (a b : Nat) : (t.extract a b).data.toList = (t.data.toList.drop a).take (b - a) := by
  simp [List.take_drop]

theorem ext_again (t : ByteArray) (a : Nat) (h : a + 64 ≤ t.size) : (t.extract a t.size).extract 64 (t.size - a) = t.extract (a + 64) t.size := by
  apply ByteArray.ext
  simp only [ByteArray.data_extract, Array.extract_extract]
  congr 1
  omega

theorem ext_whole (t : ByteArray) : t.extract 0 t.size = t := by
  apply ByteArray.ext
  simp

theorem dclone_any (t : ByteArray) (ht : t.size ≤ 1000000) (w : World) : Calls Tryd.prog 58 #[.string t] w fun e w' => e = .returned (.string t) ∧ Below w.heap.size w w' := by
  go_enter Tryd.func58, Tryd.ntmps58
  go_wp2_with fail
  refine (Tryd.stringslite_Clone t _ (by omega)).mono ?_; rintro e w' ⟨rfl, hb⟩
  go_wp2_with fail
  go_ret
  exact ⟨rfl, hb⟩

set_option maxHeartbeats 800000 in
set_option maxRecDepth 100000 in
theorem dadd_any (s : St) (b : ByteArray) (w : World) (hT : Tab w) (hsz : s.rest.size + b.size ≤ 1000000) : Calls Tryd.prog 34 #[.agg s.cells.toArray, .string b] w fun e w' => e = .returned (.agg (s.add b).cells.toArray) ∧ Below w.heap.size w w' := by
  have HT := Lib.hid hT
  clear hT
  have h8 := s.cell8
  have h9 := s.cell9
  have e64 : IntKind.u64.wrap ((s.n : Int) + (b.size : Int)) = (((s.n + b.size) % 18446744073709551616 : Nat) : Int) := by rw [IntKind.wrap_u64]; omega
  have hb1 : b.size ≤ 1000000 := by omega
  have hr2 : s.rest.size ≤ 1000000 := by omega
  have HE := Lib.hid (show s.cells.set 8 (.int .u64 (((s.n + b.size) % 18446744073709551616 : Nat) : Int)) = (St.mk s.v ((s.n + b.size) % 18446744073709551616) s.rest).cells from rfl)
  have HAdd := Lib.hid (show s.add b = ⟨hs s.v (s.rest ++ b).data.toList ((s.rest ++ b).size / 64), (s.n + b.size) % 18446744073709551616, (s.rest ++ b).extract (64 * ((s.rest ++ b).size / 64)) (s.rest ++ b).size⟩ from rfl)
  have hts : (s.rest ++ b).size ≤ 1000000 := by rw [ByteArray.size_append]; omega
  generalize (s.n + b.size) % 18446744073709551616 = n at *
  go_enter Tryd.func34, Tryd.ntmps34
  go_upto_region 2 with (fail)
  rw [HE.out]
  replace h8 := St.cell8 ⟨s.v, n, s.rest⟩
  replace h9 := St.cell9 ⟨s.v, n, s.rest⟩
  go_wp2_with fail
  generalize s.rest ++ b = t at *
  have z0 : t.extract (64 * 0) t.size = t := ext_whole t
  go_loopw [5] (fun x wr => ∃ j : Nat, 64 * j ≤ t.size ∧ x = .string (t.extract (64 * j) t.size) ∧ Has wr w.heap.size 68 (St.mk (hs s.v t.data.toList j) n s.rest).cells ∧ Has wr (w.heap.size + 1) 68 (St.mk ⟨0, 0, 0, 0, 0, 0, 0, 0⟩ 0 ⟨#[]⟩).cells ∧ Below w.heap.size w wr) (fun x _ => match x with | .string s => s.size | _ => 0)
  case atStart => exact ⟨0, by omega, by rw [z0], (Has.make w _ _).alloc _, Has.make2 w _ _ (St.mk ⟨0, 0, 0, 0, 0, 0, 0, 0⟩ 0 ⟨#[]⟩).cells, up_alloc (up_alloc (Below.refl _ _) _) _⟩
  case round =>
    obtain ⟨j, hj, rfl, hA, hR, hb⟩ := hrel
    have zj : (t.extract (64 * j) t.size).size = t.size - 64 * j := by rw [ByteArray.size_extract]; omega
    have d1 : ((t.extract (64 * j) t.size).extract 0 64).data.toList = (t.data.toList.drop (64 * j)).take 64 := by
      rw [ext_data, ext_data, Nat.sub_zero, List.drop_zero, List.take_take]
      by_cases h : 64 ≤ t.size - 64 * j
      · rw [Nat.min_eq_left h]
      · rw [Nat.min_eq_right (by omega), List.take_of_length_le (by simp), List.take_of_length_le (by simp; omega)]
    by_cases hlt : 64 ≤ t.size - 64 * j
    · have e1 := ext_again t (64 * j) (by omega)
      have hz1 : 64 ≤ (t.extract (64 * j) t.size).size := by omega
      have hz2 : (t.extract (64 * j) t.size).size ≤ 1000000 := by omega
      rw [← zj] at e1
      have HN := Lib.hid (show hs s.v t.data.toList (j + 1) = comp (hs s.v t.data.toList j) ((t.data.toList.drop (64 * j)).take 64) from rfl)
      have HE1 := Lib.hid e1
      have HD1 := Lib.hid d1
      have HZJ := Lib.hid zj
      clear e1 d1 zj
      generalize t.extract (64 * j) t.size = T at *
      generalize hs s.v t.data.toList j = v at *
      have HA := Lib.hid hA
      have HR := Lib.hid hR
      have HB := Lib.hid hb
      clear hA hR hb
      have c0 : wr.cell? ⟨w.heap.size, 0, none⟩ = some (.int .u32 (v.a : Nat)) := HA.out.at rfl
      have c1 : wr.cell? ⟨w.heap.size, 1, none⟩ = some (.int .u32 (v.b : Nat)) := HA.out.at rfl
      have c2 : wr.cell? ⟨w.heap.size, 2, none⟩ = some (.int .u32 (v.c : Nat)) := HA.out.at rfl
      have c3 : wr.cell? ⟨w.heap.size, 3, none⟩ = some (.int .u32 (v.d : Nat)) := HA.out.at rfl
      have c4 : wr.cell? ⟨w.heap.size, 4, none⟩ = some (.int .u32 (v.e : Nat)) := HA.out.at rfl
      have c5 : wr.cell? ⟨w.heap.size, 5, none⟩ = some (.int .u32 (v.f : Nat)) := HA.out.at rfl
      have c6 : wr.cell? ⟨w.heap.size, 6, none⟩ = some (.int .u32 (v.g : Nat)) := HA.out.at rfl
      have c7 : wr.cell? ⟨w.heap.size, 7, none⟩ = some (.int .u32 (v.h : Nat)) := HA.out.at rfl
      have hT2 : Tab wr.drew := fun i hi => (HB.out.cell (p := ⟨0, i, none⟩) (block_lt_of_cell (HT.out i hi))).trans (HT.out i hi)
      have HT2 := Lib.hid hT2
      clear hT2
      have h63 : (T.extract 0 64).size = 64 := by rw [ByteArray.size_extract]; omega
      have H63 := Lib.hid h63
      clear h63
      go_wp2_with fail
      go_still_tail 4, (by kernel_rfl)
      change wpList _ _ _ _ _ wr.drew
      go_wp2_with fail
      refine (changed_any v (T.extract 0 64) H63.out _ HT2.out).mono ?_; rintro e w4 ⟨rfl, hb4⟩
      rw [HD1.out, ← HN.out]
      have HA4 := Lib.hid (HA.out.drew.up hb4)
      have HR4 := Lib.hid (HR.out.drew.up hb4)
      have HB4 := Lib.hid (HB.out.drew.trans (hb4.mono HB.out.size))
      clear hb4 c0 c1 c2 c3 c4 c5 c6 c7
      generalize hU : hs s.v t.data.toList (j + 1) = u at *
      have HU := Lib.hid hU
      clear hU
      have hi : (Tryd.prog.info? 66).map (·.size) = some 8 := by kernel_rfl
      go_wp2_with (refine wpList_store_part rfl 66 _ _ rfl w.heap.size 0 68 (St.mk v n s.rest).cells u.cells (by rfl) (by rfl) HA4.out (by simp [St.cells, W8.cells, nums]) (by rw [hi]; rfl) (nums_one _ _) ?_; intro w5 hA5 hO5)
      go_roundw
      case rel =>
        refine ⟨j + 1, by omega, ?_, ?_, hO5.keep (by omega) HR4.out, hO5.below (Nat.le_refl _) HB4.out⟩
        · rw [HE1.out]; rfl
        · rw [HU.out]; exact hA5
      case measure =>
        show (T.extract 64 T.size).size < T.size
        rw [ByteArray.size_extract]; omega
    · have HD1 := Lib.hid d1
      have HZJ := Lib.hid zj
      have hz1 : (t.extract (64 * j) t.size).size < 64 := by omega
      clear d1 zj
      have HQ := Lib.hid (show j = t.size / 64 by omega)
      have HT := Lib.hid (show s.add b = ⟨hs s.v t.data.toList j, n, t.extract (64 * j) t.size⟩ by rw [HAdd.out, ← HQ.out])
      generalize t.extract (64 * j) t.size = T at *
      have HA := Lib.hid hA
      have HR := Lib.hid hR
      have HB := Lib.hid hb
      clear hA hR hb
      go_wp2_with fail
      refine (dclone_any T (by omega) _).mono ?_; rintro e w4 ⟨rfl, hb4⟩
      have HA4 := Lib.hid (HA.out.up hb4)
      have HR4 := Lib.hid (HR.out.up hb4)
      have HB4 := Lib.hid (HB.out.trans (hb4.mono HB.out.size))
      have h9' := HA4.out.at (i := 9) rfl
      have f9 := HA4.out.free 9
      have HC := Lib.hid (HA4.out.set 9 (.string T))
      have HD := Lib.hid (HR4.out.other (p := ⟨w.heap.size, 9, none⟩) (by simp) (.string T))
      have HF := Lib.hid (HB4.out.setCell (p := ⟨w.heap.size, 9, none⟩) (by simp) (.string T))
      clear hb4 h8 h9
      have hi : (Tryd.prog.info? 68).map (·.size) = some 10 := by kernel_rfl
      have hu := Tryd.underlying68
      go_wp2_with (first
        | (refine wpList_load_row rfl 68 _ rfl w.heap.size (by rfl) _ _ _ _ HC.out hu rfl (by rw [hi]; rfl) ?_)
        | (refine wpList_store_whole rfl 68 _ _ rfl (w.heap.size + 1) 68 _ _ (by rfl) (by rfl) HD.out (by rfl) (by rw [hi]; rfl) (by intro x hx; simp [St.cells, W8.cells, nums] at hx; rcases hx with h | h | h | h | h | h | h | h | h | h <;> (rw [h]; rfl)) ?_; intro w5 hF5 hO5))
      refine bodyPost_ret_by (results_cell_row Tryd.results34 _ _ _ _ _ _ _ (by rfl) hF5 hu rfl (by rw [hi]; rfl)) rfl ⟨?_, hO5.below (by omega) HF.out⟩
      rw [HT.out]
      rfl

end Go.Proofs.YthhcopeejhhpgaaDoor

/- The padding: contract of digest.padding. -/
namespace Go.Proofs.YthhcopeejhhpgaaDoor
open Go.RowKit Word

attribute [local go_sem ↓] shl_nat shr_nat shl_lit shr_lit
attribute [local go_sem] wrap_add bits_xor bits_and bits_or wrap_less bits_not wrap_byte wrap_bt

theorem to_b8 (n : Nat) : IntKind.u8.wrap (n : Int) = (((UInt8.ofNat n).toNat : Nat) : Int) := by
  rw [IntKind.wrap_u8', UInt8.toNat_ofNat']; omega

def r64 (a k : Nat) : Nat := a / 2 ^ min k 64

theorem shr64_nat (a k : Nat) (yk : IntKind) : Op.shift .shr .u64 (a : Int) yk (k : Int) = pure (.int .u64 ((r64 a k : Nat) : Int)) := by
  have h : ¬ ((k : Int) < 0) := by omega
  have hp : (0 : Int) ≤ 2 ^ min k 64 := Int.le_of_lt (Int.pow_pos (by decide))
  have e : (a : Int).fdiv (2 ^ min k 64) = ((r64 a k : Nat) : Int) := by
    rw [Int.fdiv_eq_ediv_of_nonneg _ hp]; unfold r64
    simp
  simp [Op.shift, h, IntKind.bits, e]

/-- How many bytes 0 are needed. -/
def gap (len : Nat) : Nat := (119 - len % 64) % 64

/-- What is added at the end, with the first k of the eight bytes of the number of bits. -/
def padl (len n k : Nat) : List UInt8 := 128 :: List.replicate (gap len) 0 ++ (List.range k).map fun i => UInt8.ofNat (r64 (n * 8 % 18446744073709551616) (56 - 8 * i))

theorem padl_succ (len n k : Nat) : padl len n (k + 1) = padl len n k ++ [UInt8.ofNat (r64 (n * 8 % 18446744073709551616) (56 - 8 * k))] := by
  simp [padl, List.range_succ]

theorem padl_length (len n k : Nat) : (padl len n k).length = 1 + gap len + k := by simp [padl]; omega

theorem padl_zero (len n : Nat) : (bys (List.replicate (gap len + 9) 0)).set 0 (.int .u8 128) = bys (padl len n 0 ++ List.replicate 8 0) := by
  have e : List.replicate (gap len + 9) (0 : UInt8) = 0 :: (List.replicate (gap len) 0 ++ List.replicate 8 0) := by
    rw [List.replicate_append_replicate, show gap len + 9 = (gap len + 8) + 1 by omega, List.replicate_succ]
  rw [e]
  simp [bys, padl]

theorem has_one (w : World) (x : Nat) : Has (w.alloc (.cells #[.int .u8 ((x : Int) % 256)] 5)) w.heap.size 5 (bys [UInt8.ofNat x]) := by
  have : bys [UInt8.ofNat x] = [.int .u8 ((x : Int) % 256)] := by simp [bys]
  rw [this]
  exact Has.make w _ _

attribute [local go_sem ↓] shr64_nat
attribute [local go_sem] to_b8

set_option maxHeartbeats 800000 in
set_option maxRecDepth 100000 in
theorem dpad_any (s : St) (w : World) (hsz : s.rest.size ≤ 1000000) : Calls Tryd.prog 56 #[.agg s.cells.toArray] w fun e w' => e = .returned (.string ⟨(padl s.rest.size s.n 8).toArray⟩) ∧ Below w.heap.size w w' := by
  have h8 := s.cell8
  have h9 := s.cell9
  have z1 : (119 - (s.rest.size : Int) % 64) % 64 = ((gap s.rest.size : Nat) : Int) := by unfold gap; omega
  have z2 : (119 - (s.rest.size : Int)) % 64 = ((gap s.rest.size : Nat) : Int) := by unfold gap; omega
  have z3 : gap s.rest.size < 64 := by unfold gap; omega
  have m1 : ∀ w : World, (Instr.makeSlice 51 (.int .i64 (1 + (gap s.rest.size : Int))) (.int .i64 (1 + (gap s.rest.size : Int) + 8))).run Tryd.prog w = .ok (.slice (some ⟨w.heap.size, 0, none⟩) (gap s.rest.size + 1) (gap s.rest.size + 9)) (w.alloc (.cells (bys (List.replicate (gap s.rest.size + 9) 0)).toArray 5)) := by
    intro w
    have := run_make_bys (gap s.rest.size + 1) (gap s.rest.size + 9) (by omega) (by omega) w
    rw [← this]
    congr 3 <;> omega
  have m2 : (bys (List.replicate (gap s.rest.size + 9) 0))[0]? = some (.int .u8 0) := by simp [bys]
  have HP := Lib.hid (padl_zero s.rest.size s.n)
  go_enter Tryd.func56, Tryd.ntmps56
  go_wp2_with fail
  rw [HP.out]
  simp only [z1]
  clear m1 m2 z1 z2 h9
  have HM := Lib.hid (show ∀ k, padl s.rest.size s.n (k + 1) = padl s.rest.size s.n k ++ [UInt8.ofNat (r64 (s.n * 8 % 18446744073709551616) (56 - 8 * k))] from padl_succ _ _)
  have HN := Lib.hid (show ∀ k, (padl s.rest.size s.n k).length = 1 + gap s.rest.size + k from padl_length _ _)
  have o0 : OwnB (w.heap.size + 1) (.slice (some ⟨w.heap.size + 1, 0, none⟩) (gap s.rest.size + 1) (gap s.rest.size + 9)) (padl s.rest.size s.n 0) ((w.alloc (Obj.cells s.cells.toArray 68)).alloc (Obj.cells (bys (padl s.rest.size s.n 0 ++ List.replicate 8 0)).toArray 5)) := by
    have := OwnB.of_block (Nat.le_refl _) (Has.make2 w (Obj.cells s.cells.toArray 68) 5 (bys (padl s.rest.size s.n 0 ++ List.replicate 8 0))) (n := gap s.rest.size + 9) (by simp [padl_length]; omega) (by omega)
    rw [padl_length, show 1 + gap s.rest.size + 0 = gap s.rest.size + 1 by omega] at this
    exact this
  have em : IntKind.u64.wrap ((s.n : Int) * 8) = ((s.n * 8 % 18446744073709551616 : Nat) : Int) := by rw [IntKind.wrap_u64]; omega
  have HO := Lib.hid o0
  clear o0
  generalize s.n * 8 % 18446744073709551616 = m at *
  generalize hP : padl s.rest.size s.n = P at *
  have HPP := Lib.hid hP
  clear hP
  go_loopw [4, 5] (fun p i wr => ∃ k : Nat, k ≤ 8 ∧ i = .int .i64 (56 - 8 * (k : Int)) ∧ OwnB (w.heap.size + 1) p (P k) wr ∧ Has wr w.heap.size 68 s.cells ∧ Below w.heap.size w wr) (fun _ i _ => (intOf i + 8).toNat)
  case atStart => exact ⟨0, by omega, rfl, HO.out, (Has.make w _ _).alloc _, up_alloc (up_alloc (Below.refl _ _) _) _⟩
  case round =>
    clear HO HP
    obtain ⟨k, hk, rfl, hO, hA, hb⟩ := hrel
    by_cases hlt : k < 8
    · have q1 : (0 : Int) ≤ 56 - 8 * (k : Int) := by omega
      have q2 : 56 - 8 * (k : Int) = ((56 - 8 * k : Nat) : Int) := by omega
      have q3 : ((56 - 8 * k : Nat) : Int) ≤ 56 := by omega
      have c8 := hA.at s.cell8
      have HO := Lib.hid hO
      have HA := Lib.hid hA
      have HB := Lib.hid hb
      have HK := Lib.hid (HM.out k)
      have HL := Lib.hid (HN.out k)
      have HZ := Lib.hid hb.size
      clear hO hA hb h8
      go_wp2_with (at_builtin; refine wpList_push rfl (.tmp 24) (.tmp 31) rfl (w.heap.size + 1) _ (P k) (by rfl) (HO.out.alloc _) wr.heap.size 1 [UInt8.ofNat (r64 m (56 - 8 * k))] (by rfl) (has_one wr _) rfl (by omega) (by rw [HL.out]; omega) (by have := HA.out.lt; simp; omega) ?_; intro v' w' hO' hB')
      rw [← HK.out] at hO'
      go_roundw
      case rel =>
        exact ⟨k + 1, by omega, by rw [← q2]; congr 1; omega, hO', (HA.out.alloc _).below hB' (by omega), (up_alloc HB.out _).trans (hB'.mono (by omega))⟩
      case measure => simp [intOf]; omega
    · obtain rfl : k = 8 := by omega
      have ht := hO.text
      have HB := Lib.hid hb
      clear hO hA hb h8
      go_wp2_with fail
      go_ret
      exact ⟨by rw [HPP.out]; rfl, HB.out⟩
end Go.Proofs.YthhcopeejhhpgaaDoor

/- Sums: contracts of digest.End, Of, Two. -/
namespace Go.Proofs.YthhcopeejhhpgaaDoor
open Go.RowKit Word

attribute [local go_sem ↓] Go.wp_at_zero Go.wp_at_succ

/-- The text that is added at the end. -/
def St.pad (s : St) : ByteArray := ⟨(padl s.rest.size s.n 8).toArray⟩

/-- The sum of a state. -/
def St.sum (s : St) : List Nat := outs (s.add s.pad).v 32

theorem St.pad_size (s : St) : s.pad.size ≤ 100 := by
  show (padl s.rest.size s.n 8).toArray.size ≤ 100
  have : gap s.rest.size < 64 := by unfold gap; omega
  simp [padl_length]; omega

/-- What a call that writes nothing old leaves of two blocks: the cells of a state, and a block of a sum. -/
theorem two_kept {w1 : World} {g h : Nat} {t u : TypeId} {s : St} {m : List Value} (hg : Has w1 g t s.cells) (hh : Has w1 h u m) (k : Nat) (hk : k = m.length) : ∀ W, Below w1.heap.size w1 W →
    W.cell? ⟨g, 0, none⟩ = some (.int .u32 (s.v.a : Nat)) ∧ W.cell? ⟨g, 1, none⟩ = some (.int .u32 (s.v.b : Nat)) ∧ W.cell? ⟨g, 2, none⟩ = some (.int .u32 (s.v.c : Nat)) ∧ W.cell? ⟨g, 3, none⟩ = some (.int .u32 (s.v.d : Nat)) ∧
    W.cell? ⟨g, 4, none⟩ = some (.int .u32 (s.v.e : Nat)) ∧ W.cell? ⟨g, 5, none⟩ = some (.int .u32 (s.v.f : Nat)) ∧ W.cell? ⟨g, 6, none⟩ = some (.int .u32 (s.v.g : Nat)) ∧ W.cell? ⟨g, 7, none⟩ = some (.int .u32 (s.v.h : Nat)) ∧
    W.cell? ⟨g, 8, none⟩ = some (.int .u64 (s.n : Nat)) ∧ W.cell? ⟨g, 9, none⟩ = some (.string s.rest) ∧ W.there h 0 k := fun W hb => by
  subst hk
  have H := hg.up hb
  exact ⟨H.at rfl, H.at rfl, H.at rfl, H.at rfl, H.at rfl, H.at rfl, H.at rfl, H.at rfl, H.at rfl, H.at rfl, (hh.up hb).there 0 _ (by omega)⟩

theorem two_kept_set {w1 : World} {g h : Nat} {t u : TypeId} {s : St} {m : List Value} (hg : Has w1 g t s.cells) (hh : Has w1 h u m) (hgh : g ≠ h) (vs : List Value) (hv : vs.length = m.length) (k : Nat) (hk : k = m.length) : ∀ W, Below w1.heap.size w1 W →
    (W.setCells h 0 vs).cell? ⟨g, 0, none⟩ = some (.int .u32 (s.v.a : Nat)) ∧ (W.setCells h 0 vs).cell? ⟨g, 1, none⟩ = some (.int .u32 (s.v.b : Nat)) ∧ (W.setCells h 0 vs).cell? ⟨g, 2, none⟩ = some (.int .u32 (s.v.c : Nat)) ∧ (W.setCells h 0 vs).cell? ⟨g, 3, none⟩ = some (.int .u32 (s.v.d : Nat)) ∧
    (W.setCells h 0 vs).cell? ⟨g, 4, none⟩ = some (.int .u32 (s.v.e : Nat)) ∧ (W.setCells h 0 vs).cell? ⟨g, 5, none⟩ = some (.int .u32 (s.v.f : Nat)) ∧ (W.setCells h 0 vs).cell? ⟨g, 6, none⟩ = some (.int .u32 (s.v.g : Nat)) ∧ (W.setCells h 0 vs).cell? ⟨g, 7, none⟩ = some (.int .u32 (s.v.h : Nat)) ∧
    (W.setCells h 0 vs).cell? ⟨g, 8, none⟩ = some (.int .u64 (s.n : Nat)) ∧ (W.setCells h 0 vs).cell? ⟨g, 9, none⟩ = some (.string s.rest) ∧ (W.setCells h 0 vs).there h 0 k := fun W hb => by
  subst hk
  have H := (hg.up hb).setOther hgh vs 0
  have H2 := (hh.up hb).setWhole hv
  exact ⟨H.at rfl, H.at rfl, H.at rfl, H.at rfl, H.at rfl, H.at rfl, H.at rfl, H.at rfl, H.at rfl, H.at rfl, H2.there 0 _ (by omega)⟩

theorem field_words (u : St) (w : World) : (Instr.field 68 (.agg u.cells.toArray) 0).run Tryd.prog w = .ok (.agg u.v.cells.toArray) w := by
  show (Instr.field 68 (.agg #[.int .u32 (u.v.a : Nat), .int .u32 (u.v.b : Nat), .int .u32 (u.v.c : Nat), .int .u32 (u.v.d : Nat), .int .u32 (u.v.e : Nat), .int .u32 (u.v.f : Nat), .int .u32 (u.v.g : Nat), .int .u32 (u.v.h : Nat), .int .u64 (u.n : Nat), .string u.rest]) 0).run Tryd.prog w = .ok (.agg #[.int .u32 (u.v.a : Nat), .int .u32 (u.v.b : Nat), .int .u32 (u.v.c : Nat), .int .u32 (u.v.d : Nat), .int .u32 (u.v.e : Nat), .int .u32 (u.v.f : Nat), .int .u32 (u.v.g : Nat), .int .u32 (u.v.h : Nat)]) w
  simp [Instr.field, asAgg, go_sem, run_underlying Tryd.underlying68]

set_option maxHeartbeats 800000 in
set_option maxRecDepth 100000 in
theorem dend_any (s : St) (w : World) (hT : Tab w) (hsz : s.rest.size ≤ 100000) : Calls Tryd.prog 33 #[.agg s.cells.toArray] w fun e w' => e = .returned (.agg (nums .u8 s.sum).toArray) ∧ Below w.heap.size w w' := by
  have HT := Lib.hid hT
  clear hT
  obtain ⟨O, hO⟩ : ∃ O, O = nums .u8 (outs (s.add s.pad).v 32) := ⟨_, rfl⟩
  have hl2 : O.length = 32 := by rw [hO]; simp [nums, outs_length]
  have hu2 := Tryd.underlying23
  have hi2 : (Tryd.prog.info? 23).map (·.size) = some O.length := by rw [hl2]; kernel_rfl
  have ho2 : ∀ v ∈ O, v.oneCell' = true := by rw [hO]; exact nums_one _ _
  have HBo := Lib.hid (show ∀ W : World, Calls Tryd.prog 55 #[.agg (s.add s.pad).v.cells.toArray] W fun e w' => e = .returned (.agg O.toArray) ∧ Below W.heap.size W w' from by rw [hO]; exact bytesOf_any _)
  have HO := Lib.hid (show s.sum = outs (s.add s.pad).v 32 from rfl)
  have HO2 := Lib.hid hO
  clear hO
  go_enter Tryd.func33, Tryd.ntmps33
  go_wp2_with fail
  obtain ⟨w1, hw1⟩ : ∃ w1, w1 = (w.alloc (Obj.cells s.cells.toArray 68)).alloc (Obj.cells (nums .u8 (zeros 32)).toArray 23) := ⟨_, rfl⟩
  have HA : Has w1 w.heap.size 68 s.cells := by rw [hw1]; exact (Has.make w _ _).alloc _
  have HR : Has w1 (w.heap.size + 1) 23 (nums .u8 (zeros 32)) := by rw [hw1]; exact Has.make2 w _ _ _
  have HB : Below w.heap.size w w1 := by rw [hw1]; exact up_alloc (up_alloc (Below.refl _ _) _) _
  refine (congrArg (Code.wp _ _ _ _) hw1).mp ?_
  have HK := Lib.hid (two_kept HA HR 32 (by simp [nums, zeros]))
  have HT1 := Lib.hid (show ∀ W, Below w1.heap.size w1 W → Tab W from fun W hb i hi => ((HB.trans (hb.mono HB.size)).cell (p := ⟨0, i, none⟩) (block_lt_of_cell (HT.out i hi))).trans (HT.out i hi))
  have hfw := field_words (s.add s.pad)
  have HPad := Lib.hid (show (⟨(padl s.rest.size s.n 8).toArray⟩ : ByteArray) = s.pad from rfl)
  have HPS := Lib.hid (s.pad_size)
  have HQ := Lib.hid (two_kept_set HA HR (by simp) O (by simp [nums, zeros, hl2]) 32 (by simp [nums, zeros]))
  have HR' := Lib.hid HR
  have HB' := Lib.hid HB
  clear hw1 HA HR HB
  go_region_held3 (fun W => W.cell? ⟨w.heap.size, 0, none⟩ = some (.int .u32 (s.v.a : Nat)) ∧ W.cell? ⟨w.heap.size, 1, none⟩ = some (.int .u32 (s.v.b : Nat)) ∧ W.cell? ⟨w.heap.size, 2, none⟩ = some (.int .u32 (s.v.c : Nat)) ∧ W.cell? ⟨w.heap.size, 3, none⟩ = some (.int .u32 (s.v.d : Nat)) ∧
    W.cell? ⟨w.heap.size, 4, none⟩ = some (.int .u32 (s.v.e : Nat)) ∧ W.cell? ⟨w.heap.size, 5, none⟩ = some (.int .u32 (s.v.f : Nat)) ∧ W.cell? ⟨w.heap.size, 6, none⟩ = some (.int .u32 (s.v.g : Nat)) ∧ W.cell? ⟨w.heap.size, 7, none⟩ = some (.int .u32 (s.v.h : Nat)) ∧
    W.cell? ⟨w.heap.size, 8, none⟩ = some (.int .u64 (s.n : Nat)) ∧ W.cell? ⟨w.heap.size, 9, none⟩ = some (.string s.rest) ∧ W.there (w.heap.size + 1) 0 32)
    (first | (with_reducible exact HK.out _ (Below.refl _ _).drew) | (with_reducible exact HK.out _ hba) | (with_reducible exact HK.out _ hbb) | (with_reducible exact HK.out _ hbc) | (with_reducible exact HQ.out _ hbc))
    (first
      | (go_at_call 56; refine (dpad_any s _ (by omega)).mono ?_; rintro e wa ⟨rfl, hba'⟩; have hba : Below w1.heap.size w1 wa := (Below.refl _ _).drew.trans hba'; clear hba')
      | (go_at_call 34; refine (dadd_any s s.pad _ (HT1.out _ hba) (by have := HPS.out; omega)).mono ?_; rintro e wb ⟨rfl, hbb'⟩;  have hbb : Below w1.heap.size w1 wb := hba.trans (hbb'.mono hba.size); clear hbb')
      | (go_at_call 55; refine (HBo.out _).mono ?_; rintro e wc ⟨rfl, hbc'⟩; have hbc : Below w1.heap.size w1 wc := hbb.trans (hbc'.mono hbb.size); clear hbc'))
  have hF := (HR'.out.up hbc).setWhole (vs := O) (by simp [nums, zeros, hl2])
  go_wp2_with fail
  refine bodyPost_ret_by (results_cell_row Tryd.results33 _ _ _ _ _ _ _ (by rfl) hF hu2 rfl (by rw [hi2]; simp)) rfl ⟨?_, below_setCells (by omega) _ _ (HB'.out.trans (hbc.mono HB'.out.size))⟩
  rw [HO.out, ← HO2.out]

theorem tab_up {w W : World} (h : Tab w) (hb : Below w.heap.size w W) : Tab W := fun i hi => (hb.cell (p := ⟨0, i, none⟩) (block_lt_of_cell (h i hi))).trans (h i hi)

theorem St.add_size (s : St) (b : ByteArray) : (s.add b).rest.size < 64 := by
  show ((s.rest ++ b).extract _ _).size < 64
  rw [ByteArray.size_extract]; omega

set_option maxHeartbeats 800000 in
theorem dof_any (t : ByteArray) (w : World) (hT : Tab w) (hsz : t.size ≤ 100000) : Calls Tryd.prog 21 #[.string t] w fun e w' => e = .returned (.agg (nums .u8 (St.start.add t).sum).toArray) ∧ Below w.heap.size w w' := by
  have HT := Lib.hid hT
  clear hT
  have hz1 := (St.start.add_size t)
  have hz2 : St.start.rest.size = 0 := rfl
  have HZ := Lib.hid hz2
  clear hz2
  have hu2 := Tryd.underlying23
  have hi2 : (Tryd.prog.info? 23).map (·.size) = some 32 := by kernel_rfl
  have hl : (nums .u8 (St.start.add t).sum).length = 32 := by simp [nums, St.sum, outs_length]
  have ho := nums_one .u8 (St.start.add t).sum
  go_enter Tryd.func21, Tryd.ntmps21
  go_wp2_with fail
  have HR := Lib.hid (Has.make w 23 (nums .u8 (zeros 32)))
  refine (dstart_any _).mono ?_; rintro e w1 ⟨rfl, hb1⟩
  replace HR := Lib.hid (HR.out.up hb1)
  have HB := Lib.hid ((up_alloc (Below.refl _ w) _).trans (hb1.mono (by simp)))
  clear hb1
  go_wp2_with fail
  refine (dadd_any St.start t _ (tab_up HT.out HB.out) (by rw [HZ.out]; omega)).mono ?_; rintro e w2 ⟨rfl, hb2⟩
  replace HR := Lib.hid (HR.out.up hb2)
  replace HB := Lib.hid (HB.out.trans (hb2.mono HB.out.size))
  clear hb2
  go_wp2_with fail
  refine (dend_any (St.start.add t) _ (tab_up HT.out HB.out) (by omega)).mono ?_; rintro e w3 ⟨rfl, hb3⟩
  replace HR := Lib.hid (HR.out.up hb3)
  replace HB := Lib.hid (HB.out.trans (hb3.mono HB.out.size))
  clear hb3
  generalize hO : nums .u8 (St.start.add t).sum = O at *
  have HO := Lib.hid hO
  clear hO
  go_wp2_with (refine wpList_store_whole rfl 23 _ _ rfl w.heap.size 23 (nums .u8 (zeros 32)) O (by rfl) (by rfl) HR.out (by rw [hl]; rfl) (by rw [hi2, hl]) ho ?_; intro w5 hF hO5)
  exact bodyPost_ret_by (results_cell_row Tryd.results21 _ _ _ _ _ _ _ (by rfl) hF hu2 rfl (by rw [hi2]; simp [hl])) rfl ⟨by rw [HO.out], hO5.below (Nat.le_refl _) HB.out⟩

end Go.Proofs.YthhcopeejhhpgaaDoor

/- The other side's turn of a word, and its table of constants. -/
namespace Go.Proofs.YthhcopeejhhpgaaDoor
open Go.RowKit Word

attribute [local go_sem ↓] shl_nat shr_nat shl_lit shr_lit
attribute [local go_sem] wrap_add bits_xor bits_and bits_or wrap_less bits_not wrap_byte wrap_bt

theorem turn_any (n k : Nat) (h1 : 1 ≤ k) (h2 : k ≤ 31) (w : World) :
    Calls Tryd.prog 91 #[.int .u32 n, .int .i64 (k : Int)] w fun e w' => e = .returned (.int .u32 (rr n k : Nat)) ∧ ∃ m, w' = w.drewN m := by
  have e1 : IntKind.i64.wrap (32 - (k : Int)) = ((32 - k : Nat) : Int) := by rw [IntWalk.i64_in _ (by omega)]; omega
  have hj := Lib.hid (show rr n k = o32 (r32 n k) (l32 n (32 - k)) from o32_comm _ _)
  generalize 32 - k = j at *
  go_enter Tryd.func91, Tryd.ntmps91
  go_wp2_with fail
  go_quiet (fail)
  go_wp2_with fail
  go_ret
  exact ⟨by rw [hj.out]; rfl, _, rfl⟩

/-- The table, as the other side writes it. -/
def kcells : List Value := [.int .u32 1116352408, .int .u32 1899447441, .int .u32 3049323471, .int .u32 3921009573, .int .u32 961987163, .int .u32 1508970993, .int .u32 2453635748, .int .u32 2870763221, .int .u32 3624381080, .int .u32 310598401, .int .u32 607225278, .int .u32 1426881987, .int .u32 1925078388, .int .u32 2162078206, .int .u32 2614888103, .int .u32 3248222580, .int .u32 3835390401, .int .u32 4022224774, .int .u32 264347078, .int .u32 604807628, .int .u32 770255983, .int .u32 1249150122, .int .u32 1555081692, .int .u32 1996064986, .int .u32 2554220882, .int .u32 2821834349, .int .u32 2952996808, .int .u32 3210313671, .int .u32 3336571891, .int .u32 3584528711, .int .u32 113926993, .int .u32 338241895, .int .u32 666307205, .int .u32 773529912, .int .u32 1294757372, .int .u32 1396182291, .int .u32 1695183700, .int .u32 1986661051, .int .u32 2177026350, .int .u32 2456956037, .int .u32 2730485921, .int .u32 2820302411, .int .u32 3259730800, .int .u32 3345764771, .int .u32 3516065817, .int .u32 3600352804, .int .u32 4094571909, .int .u32 275423344, .int .u32 430227734, .int .u32 506948616, .int .u32 659060556, .int .u32 883997877, .int .u32 958139571, .int .u32 1322822218, .int .u32 1537002063, .int .u32 1747873779, .int .u32 1955562222, .int .u32 2024104815, .int .u32 2227730452, .int .u32 2361852424, .int .u32 2428436474, .int .u32 2756734187, .int .u32 3204031479, .int .u32 3329325298]
theorem kcells_at (t : Nat) (h : t < 64) : kcells[t]? = some (.int .u32 (kc t : Nat)) := by
  have e : kcells = (List.range 64).map fun t => Value.int .u32 ((kc t : Nat) : Int) := by kernel_rfl
  rw [e]
  simp [h]

set_option maxRecDepth 100000 in
theorem constant_any (t : Nat) (h : t < 64) (w : World) :
    Calls Tryd.prog 92 #[.int .i64 (t : Int)] w fun e w' => e = .returned (.int .u32 (kc t : Nat)) ∧ Below w.heap.size w w' := by
  have t0 : (0 : Int) ≤ (t : Int) := by omega
  have t1 : (t : Int) < 64 := by omega
  go_enter Tryd.func92, Tryd.ntmps92
  go_upto_region 2 with (fail)
  obtain ⟨w1, hw1⟩ : ∃ w1, w1 = w.alloc (.cells kcells.toArray 65) := ⟨_, rfl⟩
  have HA : Has w1 w.heap.size 65 kcells := by rw [hw1]; exact Has.make w _ _
  have HB : Below w.heap.size w w1 := by rw [hw1]; exact up_alloc (Below.refl _ _) _
  have hc := HA.at (kcells_at t h)
  refine (congrArg (Code.wp _ _ _ _) hw1).mp ?_
  clear hw1 HA
  go_wp2_with fail
  go_ret
  exact ⟨rfl, HB⟩

end Go.Proofs.YthhcopeejhhpgaaDoor

/- Slices of words that a call itself makes; the other side's words of a block. -/
namespace Go.Proofs.YthhcopeejhhpgaaDoor
open Go.RowKit Word

attribute [local go_sem ↓] shl_nat shr_nat shl_lit shr_lit
attribute [local go_sem] wrap_add bits_xor bits_and bits_or wrap_less bits_not wrap_byte wrap_bt

theorem below_nx {w W W' : World} (h : Below w.heap.size w W) (h' : Below W.heap.size W W') : Below w.heap.size w W' := h.trans (h'.mono h.size)

theorem turn_b (n k : Nat) (h1 : 1 ≤ k) (h2 : k ≤ 31) (w : World) :
    Calls Tryd.prog 91 #[.int .u32 n, .int .i64 (k : Int)] w fun e w' => e = .returned (.int .u32 (rr n k : Nat)) ∧ Below w.heap.size w w' :=
  (turn_any n k h1 h2 w).mono fun _ _ ⟨he, m, hm⟩ => ⟨he, by rw [hm]; exact below_drewN (Below.refl _ _) m⟩

theorem info_u32 : (Tryd.prog.info? 65).map (fun i => (i.zero, i.size, i.bytes)) = some (some (.int .u32 0), 1, 4) := by kernel_rfl

/-- A slice of words that the call itself made, under one name that no tactic opens. -/
structure OwnW (B : Nat) (v : Value) (l : List Nat) (W : World) : Prop where
  out : W.ownsRow B 65 1 v l.length (nums .u32 l)

theorem OwnW.below {B : Nat} {v : Value} {l : List Nat} {W w1 : World} (h : OwnW B v l W) (hb : Below W.heap.size W w1) : OwnW B v l w1 := ⟨own_below h.out hb⟩
theorem OwnW.alloc {B : Nat} {v : Value} {l : List Nat} {W : World} (h : OwnW B v l W) (o : Obj) : OwnW B v l (W.alloc o) := ⟨h.out.alloc o⟩
theorem OwnW.drew {B : Nat} {v : Value} {l : List Nat} {W : World} (h : OwnW B v l W) : OwnW B v l W.drew := ⟨h.out.drew⟩
theorem OwnW.drewN {B : Nat} {v : Value} {l : List Nat} {W : World} (h : OwnW B v l W) (n : Nat) : OwnW B v l (W.drewN n) := h.below (below_drewN (Below.refl _ _) n)
theorem OwnW.nil (B : Nat) (W : World) : OwnW B (.slice none 0 0) [] W := ⟨⟨rfl, Or.inl ⟨rfl, rfl⟩⟩⟩

/-- A slice of words that is not empty, opened. -/
theorem OwnW.opened {B : Nat} {v : Value} {l : List Nat} {W : World} (h : OwnW B v l W) (hl : 0 < l.length) : ∃ g cap, v = .slice (some ⟨g, 0, none⟩) l.length cap ∧ B ≤ g ∧ l.length ≤ cap ∧ ∀ j x, l[j]? = some x → W.cell? ⟨g, j, none⟩ = some (.int .u32 (x : Nat)) := by
  obtain ⟨h0, ⟨_, hn⟩ | ⟨g, cap, cur, hv, hg, hh, hn, hc, hs, ht⟩⟩ := h.out
  · omega
  · refine ⟨g, cap, hv, hg, by omega, fun j x hx => ?_⟩
    have hj : j < l.length := by
      rcases Nat.lt_or_ge j l.length with h | h
      · exact h
      · rw [List.getElem?_eq_none h] at hx; cases hx
    have hcur : cur[j]? = some (Value.int .u32 (x : Nat)) := by
      have := congrArg (fun m => m[j]?) ht
      simp [nums, hj] at this
      rw [List.getElem?_eq_getElem hj] at hx
      obtain rfl := Option.some.inj hx
      exact this
    simp [World.cell?, hh, hcur]

theorem step_pushW {ops : Array Oper} {o : Oper} {a : Act} {w : World} {K : Act → World → Prop} {Q : Exit → Act → World → Prop} {E : Prop} (hgd : o.guard = none) (s x : Operand)
    (ho : o.op = .call { callee := .builtin .append, args := #[s, x], argTypes := #[119, 119] })
    (B : Nat) (v : Value) (l : List Nat) (hs : a.eval s = v) (hown : OwnW B v l w) (g m : Nat) (news : List Nat) (hx : a.eval x = .slice (some ⟨g, 0, none⟩) m m) (hg : Has w g 65 (nums .u32 news))
    (hl : news.length = m) (hm : 0 < m) (h63 : l.length + m ≤ 1000000) (hB : B ≤ w.heap.size)
    (h : ∀ v' w', OwnW B v' (l ++ news) w' → Below B w w' → K (a.put o.dst v') w') :
    if Region.wanted o (yielded ops a.tmps) = true then Oper.wp Tryd.prog o a w K Q else E := by
  obtain ⟨i0, hi, hz0, hz1, hz2⟩ := info_parts info_u32
  refine step_append_lies w hgd s x 119 ho B 65 i0 _ 1 4 Tryd.underlying119 hi hz0 hz1 hz2 rfl (by omega) v l.length (nums .u32 l) hs hown.out ⟨g, 0, none⟩ m m (nums .u32 news) hx (by simp [nums, hl])
    (World.news_of_block (cs := (nums .u32 news).toArray) hg) (by intro u hu; obtain ⟨c, _, rfl⟩ := List.mem_map.1 hu; rfl) hm (by unfold maxLen; omega) (by omega) hB _ rfl ?_
  intro g' cap w1 hown1 hgrow hat hlt
  refine h _ w1 ⟨?_⟩ ((Below.refl B w).grown hgrow hB (fun j hj => (hown.out.lt j hj).1))
  have : nums .u32 (l ++ news) = nums .u32 l ++ nums .u32 news := by simp [nums]
  rw [this, List.length_append, hl]
  exact hown1


end Go.Proofs.YthhcopeejhhpgaaDoor

/- The other side's words of a block: contract of blackboxref02.words. -/
namespace Go.Proofs.YthhcopeejhhpgaaDoor
open Go.RowKit Word

attribute [local go_sem ↓] shl_nat shr_nat shl_lit shr_lit
attribute [local go_sem] wrap_add bits_xor bits_and bits_or wrap_less bits_not wrap_byte wrap_bt

theorem firsts_succ (s : List UInt8) (k : Nat) : firsts s (k + 1) = firsts s k ++ [word4 s k] := by simp [firsts, List.range_succ]
theorem sched_cell (b : List UInt8) (n j : Nat) (h : j < 16 + n) : (sched b n)[j]? = some (wordAt b j) := by
  have hl := sched_length b n
  rw [List.getElem?_eq_getElem (by omega), ← sched_at b n j h, List.getD_eq_getElem?_getD, List.getElem?_eq_getElem (by omega)]
  rfl
theorem sched_snoc (b : List UInt8) (t : Nat) (h : 16 ≤ t) : sched b (t - 16) ++ [wordAt b t] = sched b (t + 1 - 16) := by
  obtain ⟨n, rfl⟩ : ∃ n, t = 16 + n := ⟨t - 16, by omega⟩
  rw [show 16 + n - 16 = n by omega, show 16 + n + 1 - 16 = n + 1 by omega, sched_succ, sched_new]
theorem rrs2 (x a b : Nat) : x32 (rr x a) (rr x b) = rrs x [a, b] := by
  show _ = x32 (x32 0 (rr x a)) (rr x b)
  congr 1
  unfold x32
  rw [Nat.zero_xor]
  exact (Nat.mod_eq_of_lt (o32_lt _ _)).symm
theorem rrs3 (x a b c : Nat) : x32 (x32 (rr x a) (rr x b)) (rr x c) = rrs x [a, b, c] := by
  rw [rrs2]; rfl
theorem firsts_length (s : List UInt8) (k : Nat) : (firsts s k).length = k := by simp [firsts]

set_option maxHeartbeats 1600000 in
set_option maxRecDepth 100000 in
theorem words_any (s : ByteArray) (hs : s.size = 64) (w : World) :
    Calls Tryd.prog 90 #[.string s] w fun e w' => ∃ v, e = .returned v ∧ OwnW w.heap.size v (sched s.data.toList 48) w' ∧ Below w.heap.size w w' := by
  have hS := Lib.hid hs
  have h1 : s.size ≤ 64 := by omega
  have h2 : 64 ≤ s.size := by omega
  clear hs
  go_enter Tryd.func90, Tryd.ntmps90
  go_wp2_with fail
  go_loopw [3, 4] (fun p i wr => ∃ k : Nat, k ≤ 16 ∧ i = .int .i64 k ∧ OwnW w.heap.size p (firsts s.data.toList k) wr ∧ Below w.heap.size w wr) (fun _ i _ => 16 - (intOf i).toNat)
  case atStart => exact ⟨0, by omega, rfl, OwnW.nil _ _, Below.refl _ _⟩
  case round =>
    obtain ⟨k, hk, rfl, hO, hb⟩ := hrel
    by_cases hlt : k < 16
    · have b0 : (4 : Int) * (k : Int) < (s.size : Int) := by omega
      have b1 : (4 : Int) * (k : Int) + 1 < (s.size : Int) := by omega
      have b2 : (4 : Int) * (k : Int) + 2 < (s.size : Int) := by omega
      have b3 : (4 : Int) * (k : Int) + 3 < (s.size : Int) := by omega
      have k0 : (0 : Int) ≤ (k : Int) := by omega
      have e0 := IntWalk.i64_in (4 * (k : Int)) (by omega)
      have e1 := IntWalk.i64_in (4 * (k : Int) + 1) (by omega)
      have e2 := IntWalk.i64_in (4 * (k : Int) + 2) (by omega)
      have e3 := IntWalk.i64_in (4 * (k : Int) + 3) (by omega)
      have n0 : (0 : Int) ≤ 4 * (k : Int) := by omega
      have n1 : (0 : Int) ≤ 4 * (k : Int) + 1 := by omega
      have n2 : (0 : Int) ≤ 4 * (k : Int) + 2 := by omega
      have n3 : (0 : Int) ≤ 4 * (k : Int) + 3 := by omega
      have t0 : (4 * (k : Int)).toNat = 4 * k := by omega
      have t1 : (4 * (k : Int) + 1).toNat = 4 * k + 1 := by omega
      have t2 : (4 * (k : Int) + 2).toNat = 4 * k + 2 := by omega
      have t3 : (4 * (k : Int) + 3).toNat = 4 * k + 3 := by omega
      have HO := Lib.hid hO
      have HB := Lib.hid hb
      have HS := Lib.hid (firsts_succ s.data.toList k)
      clear hO hb
      go_wp2_with fail
      have g0 := bt_of s (4 * k) (by omega)
      have g1 := bt_of s (4 * k + 1) (by omega)
      have g2 := bt_of s (4 * k + 2) (by omega)
      have g3 := bt_of s (4 * k + 3) (by omega)
      refine wp_region_held_drew (S := fun _ => True) (by kernel_rfl) trivial (fun hHeld => ?_)
      refine wpAnyH_take (i := 0) (v := ?_) rfl (by kernel_rfl) (by kernel_rfl) (by kernel_rfl) (fun _ _ _ h => h) (Or.inl ⟨by rfl, ?_⟩) (by assumption) ?_
      rotate_left
      · intro w hSw; go_simp; try with_reducible rfl
      try simp only [Act.put, List.getElem_toArray, List.getElem_cons_zero, List.setIfInBounds_toArray, List.set_cons_zero, List.set_cons_succ]
      refine wpAnyH_take (i := 1) (v := ?_) rfl (by kernel_rfl) (by kernel_rfl) (by kernel_rfl) (fun _ _ _ h => h) (Or.inl ⟨by rfl, ?_⟩) (by assumption) ?_
      rotate_left
      · intro w hSw; go_simp; try with_reducible rfl
      try simp only [Act.put, List.getElem_toArray, List.getElem_cons_zero, List.getElem_cons_succ, List.setIfInBounds_toArray, List.set_cons_zero, List.set_cons_succ]
      refine wpAnyH_take (i := 2) (v := ?_) rfl (by kernel_rfl) (by kernel_rfl) (by kernel_rfl) (fun _ _ _ h => h) (Or.inl ⟨by rfl, ?_⟩) (by assumption) ?_
      rotate_left
      · intro w hSw; go_simp; try with_reducible rfl
      try simp only [Act.put, List.getElem_toArray, List.getElem_cons_zero, List.getElem_cons_succ, List.setIfInBounds_toArray, List.set_cons_zero, List.set_cons_succ]
      refine wpAnyH_take (i := 3) (v := ?_) rfl (by kernel_rfl) (by kernel_rfl) (by kernel_rfl) (fun _ _ _ h => h) (Or.inl ⟨by rfl, ?_⟩) (by assumption) ?_
      rotate_left
      · intro w hSw; go_simp; try with_reducible rfl
      try simp only [Act.put, List.getElem_toArray, List.getElem_cons_zero, List.getElem_cons_succ, List.setIfInBounds_toArray, List.set_cons_zero, List.set_cons_succ]
      refine wpAnyH_take (i := 4) (v := ?_) rfl (by kernel_rfl) (by kernel_rfl) (by kernel_rfl) (fun _ _ _ h => h) (Or.inl ⟨by rfl, ?_⟩) (by assumption) ?_
      rotate_left
      · intro w hSw; go_simp; try with_reducible rfl
      try simp only [Act.put, List.getElem_toArray, List.getElem_cons_zero, List.getElem_cons_succ, List.setIfInBounds_toArray, List.set_cons_zero, List.set_cons_succ]
      refine wpAnyH_take (i := 5) (v := ?_) rfl (by kernel_rfl) (by kernel_rfl) (by kernel_rfl) (fun _ _ _ h => h) (Or.inl ⟨by rfl, ?_⟩) (by assumption) ?_
      rotate_left
      · intro w hSw; go_simp; try with_reducible rfl
      try simp only [Act.put, List.getElem_toArray, List.getElem_cons_zero, List.getElem_cons_succ, List.setIfInBounds_toArray, List.set_cons_zero, List.set_cons_succ]
      refine wpAnyH_take (i := 6) (v := ?_) rfl (by kernel_rfl) (by kernel_rfl) (by kernel_rfl) (fun _ _ _ h => h) (Or.inl ⟨by rfl, ?_⟩) (by assumption) ?_
      rotate_left
      · intro w hSw; go_simp; try with_reducible rfl
      try simp only [Act.put, List.getElem_toArray, List.getElem_cons_zero, List.getElem_cons_succ, List.setIfInBounds_toArray, List.set_cons_zero, List.set_cons_succ]
      refine wpAnyH_take (i := 7) (v := ?_) rfl (by kernel_rfl) (by kernel_rfl) (by kernel_rfl) (fun _ _ _ h => h) (Or.inl ⟨by rfl, ?_⟩) (by assumption) ?_
      rotate_left
      · intro w hSw; go_simp; try with_reducible rfl
      try simp only [Act.put, List.getElem_toArray, List.getElem_cons_zero, List.getElem_cons_succ, List.setIfInBounds_toArray, List.set_cons_zero, List.set_cons_succ]
      refine wpAnyH_take (i := 8) (v := ?_) rfl (by kernel_rfl) (by kernel_rfl) (by kernel_rfl) (fun _ _ _ h => h) (Or.inl ⟨by rfl, ?_⟩) (by assumption) ?_
      rotate_left
      · intro w hSw; go_simp; try with_reducible rfl
      try simp only [Act.put, List.getElem_toArray, List.getElem_cons_zero, List.getElem_cons_succ, List.setIfInBounds_toArray, List.set_cons_zero, List.set_cons_succ]
      refine wpAnyH_take (i := 9) (v := ?_) rfl (by kernel_rfl) (by kernel_rfl) (by kernel_rfl) (fun _ _ _ h => h) (Or.inl ⟨by rfl, ?_⟩) (by assumption) ?_
      rotate_left
      · intro w hSw; go_simp; try with_reducible rfl
      try simp only [Act.put, List.getElem_toArray, List.getElem_cons_zero, List.getElem_cons_succ, List.setIfInBounds_toArray, List.set_cons_zero, List.set_cons_succ]
      refine wpAnyH_take (i := 10) (v := ?_) rfl (by kernel_rfl) (by kernel_rfl) (by kernel_rfl) (fun _ _ _ h => h) (Or.inl ⟨by rfl, ?_⟩) (by assumption) ?_
      rotate_left
      · intro w hSw; go_simp; try with_reducible rfl
      try simp only [Act.put, List.getElem_toArray, List.getElem_cons_zero, List.getElem_cons_succ, List.setIfInBounds_toArray, List.set_cons_zero, List.set_cons_succ]
      refine wpAnyH_take (i := 11) (v := ?_) rfl (by kernel_rfl) (by kernel_rfl) (by kernel_rfl) (fun _ _ _ h => h) (Or.inl ⟨by rfl, ?_⟩) (by assumption) ?_
      rotate_left
      · intro w hSw; go_simp; try with_reducible rfl
      try simp only [Act.put, List.getElem_toArray, List.getElem_cons_zero, List.getElem_cons_succ, List.setIfInBounds_toArray, List.set_cons_zero, List.set_cons_succ]
      refine wpAnyH_take (i := 12) (v := ?_) rfl (by kernel_rfl) (by kernel_rfl) (by kernel_rfl) (fun _ _ _ h => h) (Or.inl ⟨by rfl, ?_⟩) (by assumption) ?_
      rotate_left
      · intro w hSw; go_simp; try with_reducible rfl
      try simp only [Act.put, List.getElem_toArray, List.getElem_cons_zero, List.getElem_cons_succ, List.setIfInBounds_toArray, List.set_cons_zero, List.set_cons_succ]
      refine wpAnyH_take (i := 13) (v := ?_) rfl (by kernel_rfl) (by kernel_rfl) (by kernel_rfl) (fun _ _ _ h => h) (Or.inl ⟨by rfl, ?_⟩) (by assumption) ?_
      rotate_left
      · intro w hSw; go_simp; try with_reducible rfl
      try simp only [Act.put, List.getElem_toArray, List.getElem_cons_zero, List.getElem_cons_succ, List.setIfInBounds_toArray, List.set_cons_zero, List.set_cons_succ]
      refine wpAnyH_take (i := 14) (v := ?_) rfl (by kernel_rfl) (by kernel_rfl) (by kernel_rfl) (fun _ _ _ h => h) (Or.inl ⟨by rfl, ?_⟩) (by assumption) ?_
      rotate_left
      · intro w hSw; go_simp; try with_reducible rfl
      try simp only [Act.put, List.getElem_toArray, List.getElem_cons_zero, List.getElem_cons_succ, List.setIfInBounds_toArray, List.set_cons_zero, List.set_cons_succ]
      refine wpAnyH_take (i := 15) (v := ?_) rfl (by kernel_rfl) (by kernel_rfl) (by kernel_rfl) (fun _ _ _ h => h) (Or.inl ⟨by rfl, ?_⟩) (by assumption) ?_
      rotate_left
      · intro w hSw; go_simp; try with_reducible rfl
      try simp only [Act.put, List.getElem_toArray, List.getElem_cons_zero, List.getElem_cons_succ, List.setIfInBounds_toArray, List.set_cons_zero, List.set_cons_succ]
      refine wpAnyH_take (i := 16) (v := ?_) rfl (by kernel_rfl) (by kernel_rfl) (by kernel_rfl) (fun _ _ _ h => h) (Or.inl ⟨by rfl, ?_⟩) (by assumption) ?_
      rotate_left
      · intro w hSw; go_simp; try with_reducible rfl
      try simp only [Act.put, List.getElem_toArray, List.getElem_cons_zero, List.getElem_cons_succ, List.setIfInBounds_toArray, List.set_cons_zero, List.set_cons_succ]
      refine wpAnyH_take (i := 17) (v := ?_) rfl (by kernel_rfl) (by kernel_rfl) (by kernel_rfl) (fun _ _ _ h => h) (Or.inl ⟨by rfl, ?_⟩) (by assumption) ?_
      rotate_left
      · intro w hSw; go_simp; try with_reducible rfl
      try simp only [Act.put, List.getElem_toArray, List.getElem_cons_zero, List.getElem_cons_succ, List.setIfInBounds_toArray, List.set_cons_zero, List.set_cons_succ]
      refine wpAnyH_take (i := 18) (v := ?_) rfl (by kernel_rfl) (by kernel_rfl) (by kernel_rfl) (fun _ _ _ h => h) (Or.inl ⟨by rfl, ?_⟩) (by assumption) ?_
      rotate_left
      · intro w hSw; go_simp; try with_reducible rfl
      try simp only [Act.put, List.getElem_toArray, List.getElem_cons_zero, List.getElem_cons_succ, List.setIfInBounds_toArray, List.set_cons_zero, List.set_cons_succ]
      refine wpAnyH_take (i := 19) (v := ?_) rfl (by kernel_rfl) (by kernel_rfl) (by kernel_rfl) (fun _ _ _ h => h) (Or.inl ⟨by rfl, ?_⟩) (by assumption) ?_
      rotate_left
      · intro w hSw; go_simp; try with_reducible rfl
      try simp only [Act.put, List.getElem_toArray, List.getElem_cons_zero, List.getElem_cons_succ, List.setIfInBounds_toArray, List.set_cons_zero, List.set_cons_succ]
      refine wpAnyH_take (i := 20) (v := ?_) rfl (by kernel_rfl) (by kernel_rfl) (by kernel_rfl) (fun _ _ _ h => h) (Or.inl ⟨by rfl, ?_⟩) (by assumption) ?_
      rotate_left
      · intro w hSw; go_simp; try with_reducible rfl
      try simp only [Act.put, List.getElem_toArray, List.getElem_cons_zero, List.getElem_cons_succ, List.setIfInBounds_toArray, List.set_cons_zero, List.set_cons_succ]
      refine wpAnyH_take (i := 21) (v := ?_) rfl (by kernel_rfl) (by kernel_rfl) (by kernel_rfl) (fun _ _ _ h => h) (Or.inl ⟨by rfl, ?_⟩) (by assumption) ?_
      rotate_left
      · intro w hSw; go_simp; try with_reducible rfl
      try simp only [Act.put, List.getElem_toArray, List.getElem_cons_zero, List.getElem_cons_succ, List.setIfInBounds_toArray, List.set_cons_zero, List.set_cons_succ]
      refine wpAnyH_take (i := 22) (v := ?_) rfl (by kernel_rfl) (by kernel_rfl) (by kernel_rfl) (fun _ _ _ h => h) (Or.inl ⟨by rfl, ?_⟩) (by assumption) ?_
      rotate_left
      · intro w hSw; go_simp; try with_reducible rfl
      try simp only [Act.put, List.getElem_toArray, List.getElem_cons_zero, List.getElem_cons_succ, List.setIfInBounds_toArray, List.set_cons_zero, List.set_cons_succ]
      refine wpAnyH_take (i := 23) (v := ?_) rfl (by kernel_rfl) (by kernel_rfl) (by kernel_rfl) (fun _ _ _ h => h) (Or.inl ⟨by rfl, ?_⟩) (by assumption) ?_
      rotate_left
      · intro w hSw; go_simp; try with_reducible rfl
      try simp only [Act.put, List.getElem_toArray, List.getElem_cons_zero, List.getElem_cons_succ, List.setIfInBounds_toArray, List.set_cons_zero, List.set_cons_succ]
      refine wpAnyH_take (i := 24) (v := ?_) rfl (by kernel_rfl) (by kernel_rfl) (by kernel_rfl) (fun _ _ _ h => h) (Or.inl ⟨by rfl, ?_⟩) (by assumption) ?_
      rotate_left
      · intro w hSw; go_simp; try with_reducible rfl
      try simp only [Act.put, List.getElem_toArray, List.getElem_cons_zero, List.getElem_cons_succ, List.setIfInBounds_toArray, List.set_cons_zero, List.set_cons_succ]
      refine wpAnyH_take (i := 25) (v := ?_) rfl (by kernel_rfl) (by kernel_rfl) (by kernel_rfl) (fun _ _ _ h => h) (Or.inl ⟨by rfl, ?_⟩) (by assumption) ?_
      rotate_left
      · intro w hSw; go_simp; try with_reducible rfl
      try simp only [Act.put, List.getElem_toArray, List.getElem_cons_zero, List.getElem_cons_succ, List.setIfInBounds_toArray, List.set_cons_zero, List.set_cons_succ]
      refine wpAnyH_take (i := 26) (v := ?_) rfl (by kernel_rfl) (by kernel_rfl) (by kernel_rfl) (fun _ _ _ h => h) (Or.inl ⟨by rfl, ?_⟩) (by assumption) ?_
      rotate_left
      · intro w hSw; go_simp; try with_reducible rfl
      try simp only [Act.put, List.getElem_toArray, List.getElem_cons_zero, List.getElem_cons_succ, List.setIfInBounds_toArray, List.set_cons_zero, List.set_cons_succ]
      refine wpAnyH_take (i := 27) (v := ?_) rfl (by kernel_rfl) (by kernel_rfl) (by kernel_rfl) (fun _ _ _ h => h) (Or.inl ⟨by rfl, ?_⟩) (by assumption) ?_
      rotate_left
      · intro w hSw; go_simp; try with_reducible rfl
      try simp only [Act.put, List.getElem_toArray, List.getElem_cons_zero, List.getElem_cons_succ, List.setIfInBounds_toArray, List.set_cons_zero, List.set_cons_succ]
      refine wpAnyH_take (i := 28) (v := ?_) rfl (by kernel_rfl) (by kernel_rfl) (by kernel_rfl) (fun _ _ _ h => h) (Or.inl ⟨by rfl, ?_⟩) (by assumption) ?_
      rotate_left
      · intro w hSw; go_simp; try with_reducible rfl
      try simp only [Act.put, List.getElem_toArray, List.getElem_cons_zero, List.getElem_cons_succ, List.setIfInBounds_toArray, List.set_cons_zero, List.set_cons_succ]
      refine wpAnyH_take (i := 29) (v := ?_) rfl (by kernel_rfl) (by kernel_rfl) (by kernel_rfl) (fun _ _ _ h => h) (Or.inl ⟨by rfl, ?_⟩) (by assumption) ?_
      rotate_left
      · intro w hSw; go_simp; try with_reducible rfl
      try simp only [Act.put, List.getElem_toArray, List.getElem_cons_zero, List.getElem_cons_succ, List.setIfInBounds_toArray, List.set_cons_zero, List.set_cons_succ]
      clear g0 g1 g2 g3 e0 e1 e2 e3 t0 t1 t2 t3 n0 n1 n2 n3
      refine wpAnyH_ready (rs := [30]) (by kernel_rfl) (by simp) (AllReadyH.cons rfl (fun K hK => ?_) AllReadyH.nil)
      go_simp
      refine hK.out _ _ trivial (fun hHeld => ?_)
      clear hK K
      try simp only [Act.put, List.getElem_toArray, List.getElem_cons_zero, List.getElem_cons_succ, List.setIfInBounds_toArray, List.set_cons_zero, List.set_cons_succ]
      refine wpAnyH_ready (rs := [31]) (by kernel_rfl) (by simp) (AllReadyH.cons rfl (fun K hK => ?_) AllReadyH.nil)
      refine step_pushW rfl (.tmp 14) (.tmp 44) rfl w.heap.size _ (firsts s.data.toList k) (by rfl) ((HO.out.alloc _).drew) wr.heap.size 1 [word4 s.data.toList k] (by rfl) (Has.make wr 65 (nums .u32 [word4 s.data.toList k])).drew rfl (by omega) (by rw [firsts_length]; omega) (by have := HB.out.size; simp; omega) ?_
      intro v' w' hO' hB'
      refine hK.out _ _ trivial (fun hHeld => ?_)
      clear hK K
      try simp only [Act.put, List.getElem_toArray, List.getElem_cons_zero, List.getElem_cons_succ, List.setIfInBounds_toArray, List.set_cons_zero, List.set_cons_succ]
      refine wpAnyH_take (i := 32) (v := ?_) rfl (by kernel_rfl) (by kernel_rfl) (by kernel_rfl) (fun _ _ _ h => h) (Or.inl ⟨by rfl, ?_⟩) (by assumption) ?_
      rotate_left
      · intro w hSw; go_simp; try with_reducible rfl
      try simp only [Act.put, List.getElem_toArray, List.getElem_cons_zero, List.getElem_cons_succ, List.setIfInBounds_toArray, List.set_cons_zero, List.set_cons_succ]
      refine wpAnyH_done (by kernel_rfl) ?_ _
      rw [← HS.out] at hO'
      go_wp2_with fail
      go_roundw
      case rel => exact ⟨k + 1, by omega, by go_num, hO', (up_alloc HB.out _).drew.trans hB'⟩
      case measure => simp [intOf]; omega
    · obtain rfl : k = 16 := by omega
      have hO16 : OwnW w.heap.size u3 (sched s.data.toList 0) wr := hO
      have HO := Lib.hid hO16
      have HB := Lib.hid hb
      clear hO hb hO16
      go_wp2_with fail
      clear h1 h2
      simp only [Int.cast_ofNat_Int]
      go_loopw [3, 5, 6, 7, 8, 9] (fun p i _ _ _ _ wr => ∃ t : Nat, 16 ≤ t ∧ t ≤ 64 ∧ i = .int .i64 t ∧ OwnW w.heap.size p (sched s.data.toList (t - 16)) wr ∧ Below w.heap.size w wr) (fun _ i _ _ _ _ _ => 64 - (intOf i).toNat)
      case atStart => exact ⟨16, by omega, by omega, rfl, HO.out, HB.out⟩
      case round =>
        clear HO HB
        obtain ⟨t, h16, ht, rfl, hO, hb⟩ := hrel
        have hl : (sched s.data.toList (t - 16)).length = t := by rw [sched_length]; omega
        by_cases hlt : t < 64
        · obtain ⟨g, cap, hp, hg, hcap, hcell⟩ := hO.opened (by omega)
          rw [hl] at hp hcap
          subst hp
          have HX := Lib.hid (show wordAt s.data.toList t = p32 (p32 (p32 (wordAt s.data.toList (t - 16)) (x32 (x32 (rr (wordAt s.data.toList (t - 15)) 7) (rr (wordAt s.data.toList (t - 15)) 18)) (r32 (wordAt s.data.toList (t - 15)) 3))) (wordAt s.data.toList (t - 7))) (x32 (x32 (rr (wordAt s.data.toList (t - 2)) 17) (rr (wordAt s.data.toList (t - 2)) 19)) (r32 (wordAt s.data.toList (t - 2)) 10)) by
            rw [wordAt_next _ t h16]; unfold s0 s1; rw [← rrs2, ← rrs2])
          have HZ := Lib.hid (sched_snoc s.data.toList t h16)
          have x16 := hcell (t - 16) _ (sched_cell _ _ _ (by omega))
          have x15 := hcell (t - 15) _ (sched_cell _ _ _ (by omega))
          have x7 := hcell (t - 7) _ (sched_cell _ _ _ (by omega))
          have x2 := hcell (t - 2) _ (sched_cell _ _ _ (by omega))
          clear hcell
          have HL := Lib.hid hl
          clear hl
          have e16 : IntKind.i64.wrap ((t : Int) - 16) = ((t - 16 : Nat) : Int) := by rw [IntWalk.i64_in _ (by omega)]; omega
          have e15 : IntKind.i64.wrap ((t : Int) - 15) = ((t - 15 : Nat) : Int) := by rw [IntWalk.i64_in _ (by omega)]; omega
          have e7 : IntKind.i64.wrap ((t : Int) - 7) = ((t - 7 : Nat) : Int) := by rw [IntWalk.i64_in _ (by omega)]; omega
          have e2 : IntKind.i64.wrap ((t : Int) - 2) = ((t - 2 : Nat) : Int) := by rw [IntWalk.i64_in _ (by omega)]; omega
          have n16 : t - 16 < t := by omega
          have n15 : t - 15 < t := by omega
          have n7 : t - 7 < t := by omega
          have n2 : t - 2 < t := by omega
          have HT := Lib.hid (show sched s.data.toList (t + 1 - 16) = sched s.data.toList (t + 1 - 16) from rfl)
          generalize t - 16 = i16 at *
          generalize t - 15 = i15 at *
          generalize t - 7 = i7 at *
          generalize t - 2 = i2 at *
          generalize wordAt s.data.toList i16 = b16 at *
          generalize wordAt s.data.toList i15 = b15 at *
          generalize wordAt s.data.toList i7 = b7 at *
          generalize wordAt s.data.toList i2 = b2 at *
          have m16 : (i16 : Int) < (t : Int) := by omega
          have m15 : (i15 : Int) < (t : Int) := by omega
          have m7 : (i7 : Int) < (t : Int) := by omega
          have m2 : (i2 : Int) < (t : Int) := by omega
          have HK := Lib.hid (show ∀ W, Below wr.heap.size wr W → W.cell? ⟨g, i16, none⟩ = some (.int .u32 (b16 : Nat)) ∧ W.cell? ⟨g, i7, none⟩ = some (.int .u32 (b7 : Nat)) ∧ OwnW w.heap.size (.slice (some ⟨g, 0, none⟩) t cap) (sched s.data.toList i16) W ∧ Below w.heap.size w W from
            fun W h => ⟨(h.cell (p := ⟨g, i16, none⟩) (block_lt_of_cell x16)).trans x16, (h.cell (p := ⟨g, i7, none⟩) (block_lt_of_cell x7)).trans x7, hO.below h, hb.trans (h.mono hb.size)⟩)
          clear hO hb x16 x7
          go_wp2_with fail
          refine (turn_b b15 7 (by omega) (by omega) _).mono ?_; rintro e wn ⟨rfl, hbn'⟩
          have hbn : Below wr.heap.size wr wn := hbn'
          clear hbn'
          go_wp2_with fail
          refine (turn_b b15 18 (by omega) (by omega) _).mono ?_; rintro e wn ⟨rfl, hbn'⟩
          replace hbn := below_nx hbn hbn'
          clear hbn'
          go_wp2_with fail
          refine (turn_b b2 17 (by omega) (by omega) _).mono ?_; rintro e wn ⟨rfl, hbn'⟩
          replace hbn := below_nx hbn hbn'
          clear hbn'
          go_wp2_with fail
          refine (turn_b b2 19 (by omega) (by omega) _).mono ?_; rintro e wn ⟨rfl, hbn'⟩
          replace hbn := below_nx hbn hbn'
          clear hbn'
          go_wp2_with fail
          obtain ⟨x16, x7, hO, hb⟩ := HK.out _ hbn
          clear x15 x2 e15 e2 n15 n2 m15 m2 HK hbn
          have HO := Lib.hid hO
          have HB := Lib.hid hb
          clear hO hb
          refine wp_region_held_drew (S := fun _ => True) (by kernel_rfl) trivial (fun hHeld => ?_)
          refine wpAnyH_take (i := 0) (v := ?_) rfl (by kernel_rfl) (by kernel_rfl) (by kernel_rfl) (fun _ _ _ h => h) (Or.inl ⟨by rfl, ?_⟩) (by assumption) ?_
          rotate_left
          · intro w hSw; go_simp; try with_reducible rfl
          try simp only [Act.put, List.getElem_toArray, List.getElem_cons_zero, List.setIfInBounds_toArray, List.set_cons_zero, List.set_cons_succ]
          refine wpAnyH_take (i := 1) (v := ?_) rfl (by kernel_rfl) (by kernel_rfl) (by kernel_rfl) (fun _ _ _ h => h) (Or.inl ⟨by rfl, ?_⟩) (by assumption) ?_
          rotate_left
          · intro w hSw; go_simp; try with_reducible rfl
          try simp only [Act.put, List.getElem_toArray, List.getElem_cons_zero, List.getElem_cons_succ, List.setIfInBounds_toArray, List.set_cons_zero, List.set_cons_succ]
          refine wpAnyH_take (i := 2) (v := ?_) rfl (by kernel_rfl) (by kernel_rfl) (by kernel_rfl) (fun _ _ _ h => h) (Or.inl ⟨by rfl, ?_⟩) (by assumption) ?_
          rotate_left
          · intro w hSw; go_simp; try with_reducible rfl
          try simp only [Act.put, List.getElem_toArray, List.getElem_cons_zero, List.getElem_cons_succ, List.setIfInBounds_toArray, List.set_cons_zero, List.set_cons_succ]
          refine wpAnyH_take (i := 3) (v := ?_) rfl (by kernel_rfl) (by kernel_rfl) (by kernel_rfl) (fun _ _ _ h => h) (Or.inl ⟨by rfl, ?_⟩) (by assumption) ?_
          rotate_left
          · intro w hSw; go_simp; try with_reducible rfl
          try simp only [Act.put, List.getElem_toArray, List.getElem_cons_zero, List.getElem_cons_succ, List.setIfInBounds_toArray, List.set_cons_zero, List.set_cons_succ]
          refine wpAnyH_take (i := 4) (v := ?_) rfl (by kernel_rfl) (by kernel_rfl) (by kernel_rfl) (fun _ _ _ h => h) (Or.inl ⟨by rfl, ?_⟩) (by assumption) ?_
          rotate_left
          · intro w hSw; go_simp; try with_reducible rfl
          try simp only [Act.put, List.getElem_toArray, List.getElem_cons_zero, List.getElem_cons_succ, List.setIfInBounds_toArray, List.set_cons_zero, List.set_cons_succ]
          refine wpAnyH_take (i := 6) (v := ?_) rfl (by kernel_rfl) (by kernel_rfl) (by kernel_rfl) (fun _ _ _ h => h) (Or.inl ⟨by rfl, ?_⟩) (by assumption) ?_
          rotate_left
          · intro w hSw; go_simp; try with_reducible rfl
          try simp only [Act.put, List.getElem_toArray, List.getElem_cons_zero, List.getElem_cons_succ, List.setIfInBounds_toArray, List.set_cons_zero, List.set_cons_succ]
          refine wpAnyH_take (i := 8) (v := ?_) rfl (by kernel_rfl) (by kernel_rfl) (by kernel_rfl) (fun _ _ _ h => h) (Or.inl ⟨by rfl, ?_⟩) (by assumption) ?_
          rotate_left
          · intro w hSw; go_simp; try with_reducible rfl
          try simp only [Act.put, List.getElem_toArray, List.getElem_cons_zero, List.getElem_cons_succ, List.setIfInBounds_toArray, List.set_cons_zero, List.set_cons_succ]
          refine wpAnyH_take (i := 9) (v := ?_) rfl (by kernel_rfl) (by kernel_rfl) (by kernel_rfl) (fun _ _ _ h => h) (Or.inl ⟨by rfl, ?_⟩) (by assumption) ?_
          rotate_left
          · intro w hSw; go_simp; try with_reducible rfl
          try simp only [Act.put, List.getElem_toArray, List.getElem_cons_zero, List.getElem_cons_succ, List.setIfInBounds_toArray, List.set_cons_zero, List.set_cons_succ]
          refine wpAnyH_take (i := 10) (v := ?_) rfl (by kernel_rfl) (by kernel_rfl) (by kernel_rfl) (fun _ _ _ h => h) (Or.inl ⟨by rfl, ?_⟩) (by assumption) ?_
          rotate_left
          · intro w hSw; go_simp; try with_reducible rfl
          try simp only [Act.put, List.getElem_toArray, List.getElem_cons_zero, List.getElem_cons_succ, List.setIfInBounds_toArray, List.set_cons_zero, List.set_cons_succ]
          refine wpAnyH_take (i := 11) (v := ?_) rfl (by kernel_rfl) (by kernel_rfl) (by kernel_rfl) (fun _ _ _ h => h) (Or.inl ⟨by rfl, ?_⟩) (by assumption) ?_
          rotate_left
          · intro w hSw; go_simp; try with_reducible rfl
          try simp only [Act.put, List.getElem_toArray, List.getElem_cons_zero, List.getElem_cons_succ, List.setIfInBounds_toArray, List.set_cons_zero, List.set_cons_succ]
          refine wpAnyH_take (i := 14) (v := ?_) rfl (by kernel_rfl) (by kernel_rfl) (by kernel_rfl) (fun _ _ _ h => h) (Or.inl ⟨by rfl, ?_⟩) (by assumption) ?_
          rotate_left
          · intro w hSw; go_simp; try with_reducible rfl
          try simp only [Act.put, List.getElem_toArray, List.getElem_cons_zero, List.getElem_cons_succ, List.setIfInBounds_toArray, List.set_cons_zero, List.set_cons_succ]
          refine wpAnyH_ready (rs := [5, 12]) (by kernel_rfl) (by simp) (AllReadyH.cons rfl (fun K hK => ?_) (AllReadyH.cons rfl (fun K hK => ?_) AllReadyH.nil))
          · go_simp
            refine hK.out _ _ trivial (fun hHeld => ?_)
            clear hK K
            try simp only [Act.put, List.getElem_toArray, List.getElem_cons_zero, List.getElem_cons_succ, List.setIfInBounds_toArray, List.set_cons_zero, List.set_cons_succ]
            refine wpAnyH_take (i := 7) (v := ?_) rfl (by kernel_rfl) (by kernel_rfl) (by kernel_rfl) (fun _ _ _ h => h) (Or.inl ⟨by rfl, ?_⟩) (by assumption) ?_
            rotate_left
            · intro w hSw; go_simp; try with_reducible rfl
            try simp only [Act.put, List.getElem_toArray, List.getElem_cons_zero, List.getElem_cons_succ, List.setIfInBounds_toArray, List.set_cons_zero, List.set_cons_succ]
            refine wpAnyH_ready (rs := [12]) (by kernel_rfl) (by simp) (AllReadyH.cons rfl (fun K hK => ?_) AllReadyH.nil)
            go_simp
            refine hK.out _ _ trivial (fun hHeld => ?_)
            clear hK K
            try simp only [Act.put, List.getElem_toArray, List.getElem_cons_zero, List.getElem_cons_succ, List.setIfInBounds_toArray, List.set_cons_zero, List.set_cons_succ]
            refine wpAnyH_take (i := 13) (v := ?_) rfl (by kernel_rfl) (by kernel_rfl) (by kernel_rfl) (fun _ _ _ h => h) (Or.inl ⟨by rfl, ?_⟩) (by assumption) ?_
            rotate_left
            · intro w hSw; go_simp; try with_reducible rfl
            try simp only [Act.put, List.getElem_toArray, List.getElem_cons_zero, List.getElem_cons_succ, List.setIfInBounds_toArray, List.set_cons_zero, List.set_cons_succ]
            refine wpAnyH_take (i := 15) (v := ?_) rfl (by kernel_rfl) (by kernel_rfl) (by kernel_rfl) (fun _ _ _ h => h) (Or.inl ⟨by rfl, ?_⟩) (by assumption) ?_
            rotate_left
            · intro w hSw; go_simp; try with_reducible rfl
            try simp only [Act.put, List.getElem_toArray, List.getElem_cons_zero, List.getElem_cons_succ, List.setIfInBounds_toArray, List.set_cons_zero, List.set_cons_succ]
            refine wpAnyH_ready (rs := [16]) (by kernel_rfl) (by simp) (AllReadyH.cons rfl (fun K hK => ?_) AllReadyH.nil)
            go_simp
            refine hK.out _ _ trivial (fun hHeld => ?_)
            clear hK K
            try simp only [Act.put, List.getElem_toArray, List.getElem_cons_zero, List.getElem_cons_succ, List.setIfInBounds_toArray, List.set_cons_zero, List.set_cons_succ]
            refine wpAnyH_ready (rs := [17]) (by kernel_rfl) (by simp) (AllReadyH.cons rfl (fun K hK => ?_) AllReadyH.nil)
            refine step_pushW rfl (.tmp 76) (.tmp 92) rfl w.heap.size _ (sched s.data.toList i16) (by rfl) ((HO.out.alloc _).drew) wn.heap.size 1 [p32 (p32 (p32 b16 (x32 (x32 (rr b15 7) (rr b15 18)) (r32 b15 3))) b7) (x32 (x32 (rr b2 17) (rr b2 19)) (r32 b2 10))] (by rfl) (Has.make wn 65 (nums .u32 [p32 (p32 (p32 b16 (x32 (x32 (rr b15 7) (rr b15 18)) (r32 b15 3))) b7) (x32 (x32 (rr b2 17) (rr b2 19)) (r32 b2 10))])).drew rfl (by omega) (by rw [HL.out]; omega) (by have := HB.out.size; simp; omega) ?_
            intro v' w' hO' hB'
            refine hK.out _ _ trivial (fun hHeld => ?_)
            clear hK K
            try simp only [Act.put, List.getElem_toArray, List.getElem_cons_zero, List.getElem_cons_succ, List.setIfInBounds_toArray, List.set_cons_zero, List.set_cons_succ]
            refine wpAnyH_take (i := 18) (v := ?_) rfl (by kernel_rfl) (by kernel_rfl) (by kernel_rfl) (fun _ _ _ h => h) (Or.inl ⟨by rfl, ?_⟩) (by assumption) ?_
            rotate_left
            · intro w hSw; go_simp; try with_reducible rfl
            try simp only [Act.put, List.getElem_toArray, List.getElem_cons_zero, List.getElem_cons_succ, List.setIfInBounds_toArray, List.set_cons_zero, List.set_cons_succ]
            refine wpAnyH_done (by kernel_rfl) ?_ _
            rw [← HX.out, HZ.out] at hO'
            go_wp2_with fail
            go_roundw
            case rel => exact ⟨t + 1, by omega, by omega, by go_num, hO', (up_alloc HB.out _).drew.trans hB'⟩
            case measure => simp [intOf]; omega
          · go_simp
            refine hK.out _ _ trivial (fun hHeld => ?_)
            clear hK K
            try simp only [Act.put, List.getElem_toArray, List.getElem_cons_zero, List.getElem_cons_succ, List.setIfInBounds_toArray, List.set_cons_zero, List.set_cons_succ]
            refine wpAnyH_ready (rs := [5]) (by kernel_rfl) (by simp) (AllReadyH.cons rfl (fun K hK => ?_) AllReadyH.nil)
            go_simp
            refine hK.out _ _ trivial (fun hHeld => ?_)
            clear hK K
            try simp only [Act.put, List.getElem_toArray, List.getElem_cons_zero, List.getElem_cons_succ, List.setIfInBounds_toArray, List.set_cons_zero, List.set_cons_succ]
            refine wpAnyH_take (i := 7) (v := ?_) rfl (by kernel_rfl) (by kernel_rfl) (by kernel_rfl) (fun _ _ _ h => h) (Or.inl ⟨by rfl, ?_⟩) (by assumption) ?_
            rotate_left
            · intro w hSw; go_simp; try with_reducible rfl
            try simp only [Act.put, List.getElem_toArray, List.getElem_cons_zero, List.getElem_cons_succ, List.setIfInBounds_toArray, List.set_cons_zero, List.set_cons_succ]
            refine wpAnyH_take (i := 13) (v := ?_) rfl (by kernel_rfl) (by kernel_rfl) (by kernel_rfl) (fun _ _ _ h => h) (Or.inl ⟨by rfl, ?_⟩) (by assumption) ?_
            rotate_left
            · intro w hSw; go_simp; try with_reducible rfl
            try simp only [Act.put, List.getElem_toArray, List.getElem_cons_zero, List.getElem_cons_succ, List.setIfInBounds_toArray, List.set_cons_zero, List.set_cons_succ]
            refine wpAnyH_take (i := 15) (v := ?_) rfl (by kernel_rfl) (by kernel_rfl) (by kernel_rfl) (fun _ _ _ h => h) (Or.inl ⟨by rfl, ?_⟩) (by assumption) ?_
            rotate_left
            · intro w hSw; go_simp; try with_reducible rfl
            try simp only [Act.put, List.getElem_toArray, List.getElem_cons_zero, List.getElem_cons_succ, List.setIfInBounds_toArray, List.set_cons_zero, List.set_cons_succ]
            refine wpAnyH_ready (rs := [16]) (by kernel_rfl) (by simp) (AllReadyH.cons rfl (fun K hK => ?_) AllReadyH.nil)
            go_simp
            refine hK.out _ _ trivial (fun hHeld => ?_)
            clear hK K
            try simp only [Act.put, List.getElem_toArray, List.getElem_cons_zero, List.getElem_cons_succ, List.setIfInBounds_toArray, List.set_cons_zero, List.set_cons_succ]
            refine wpAnyH_ready (rs := [17]) (by kernel_rfl) (by simp) (AllReadyH.cons rfl (fun K hK => ?_) AllReadyH.nil)
            refine step_pushW rfl (.tmp 76) (.tmp 92) rfl w.heap.size _ (sched s.data.toList i16) (by rfl) ((HO.out.alloc _).drew) wn.heap.size 1 [p32 (p32 (p32 b16 (x32 (x32 (rr b15 7) (rr b15 18)) (r32 b15 3))) b7) (x32 (x32 (rr b2 17) (rr b2 19)) (r32 b2 10))] (by rfl) (Has.make wn 65 (nums .u32 [p32 (p32 (p32 b16 (x32 (x32 (rr b15 7) (rr b15 18)) (r32 b15 3))) b7) (x32 (x32 (rr b2 17) (rr b2 19)) (r32 b2 10))])).drew rfl (by omega) (by rw [HL.out]; omega) (by have := HB.out.size; simp; omega) ?_
            intro v' w' hO' hB'
            refine hK.out _ _ trivial (fun hHeld => ?_)
            clear hK K
            try simp only [Act.put, List.getElem_toArray, List.getElem_cons_zero, List.getElem_cons_succ, List.setIfInBounds_toArray, List.set_cons_zero, List.set_cons_succ]
            refine wpAnyH_take (i := 18) (v := ?_) rfl (by kernel_rfl) (by kernel_rfl) (by kernel_rfl) (fun _ _ _ h => h) (Or.inl ⟨by rfl, ?_⟩) (by assumption) ?_
            rotate_left
            · intro w hSw; go_simp; try with_reducible rfl
            try simp only [Act.put, List.getElem_toArray, List.getElem_cons_zero, List.getElem_cons_succ, List.setIfInBounds_toArray, List.set_cons_zero, List.set_cons_succ]
            refine wpAnyH_done (by kernel_rfl) ?_ _
            rw [← HX.out, HZ.out] at hO'
            go_wp2_with fail
            go_roundw
            case rel => exact ⟨t + 1, by omega, by omega, by go_num, hO', (up_alloc HB.out _).drew.trans hB'⟩
            case measure => simp [intOf]; omega
        · obtain rfl : t = 64 := by omega
          have HO := Lib.hid hO
          have HB := Lib.hid hb
          clear hO hb
          go_wp2_with fail
          go_ret
          exact ⟨_, rfl, HO.out, HB.out⟩
end Go.Proofs.YthhcopeejhhpgaaDoor

/- The other side's block: contract of blackboxref02.block. -/
namespace Go.Proofs.YthhcopeejhhpgaaDoor
open Go.RowKit Word

attribute [local go_sem ↓] shl_nat shr_nat shl_lit shr_lit
attribute [local go_sem] wrap_add bits_xor bits_and bits_or wrap_less bits_not wrap_byte wrap_bt

/-- Eight words, the first k of them with those of another row added. -/
def W8.list (v : W8) : List Nat := [v.a, v.b, v.c, v.d, v.e, v.f, v.g, v.h]
def mix (u v : W8) (k : Nat) : List Nat := (List.range 8).map fun i => if i < k then p32 (u.list.getD i 0) (v.list.getD i 0) else u.list.getD i 0

theorem mix_zero (u v : W8) : nums .u32 (mix u v 0) = u.cells := rfl
theorem mix_eight (u v : W8) : nums .u32 (mix u v 8) = (v.plus u).cells := by
  have c : ∀ a b, p32 a b = p32 b a := fun a b => by unfold p32; rw [Nat.add_comm]
  show nums .u32 [p32 u.a v.a, p32 u.b v.b, p32 u.c v.c, p32 u.d v.d, p32 u.e v.e, p32 u.f v.f, p32 u.g v.g, p32 u.h v.h] = _
  rw [c u.a, c u.b, c u.c, c u.d, c u.e, c u.f, c u.g, c u.h]
  rfl
theorem mix_at (u v : W8) (k : Nat) (h : k < 8) : (nums .u32 (mix u v k))[k]? = some (.int .u32 (u.list.getD k 0 : Nat)) := by
  match k, h with
  | 0, _ => rfl
  | 1, _ => rfl
  | 2, _ => rfl
  | 3, _ => rfl
  | 4, _ => rfl
  | 5, _ => rfl
  | 6, _ => rfl
  | 7, _ => rfl
theorem mix_set (u v : W8) (k : Nat) (h : k < 8) : (nums .u32 (mix u v k)).set k (.int .u32 (p32 (u.list.getD k 0) (v.list.getD k 0) : Nat)) = nums .u32 (mix u v (k + 1)) := by
  match k, h with
  | 0, _ => rfl
  | 1, _ => rfl
  | 2, _ => rfl
  | 3, _ => rfl
  | 4, _ => rfl
  | 5, _ => rfl
  | 6, _ => rfl
  | 7, _ => rfl
theorem cells_at (v : W8) (k : Nat) (h : k < 8) : v.cells[k]? = some (.int .u32 (v.list.getD k 0 : Nat)) := by
  match k, h with
  | 0, _ => rfl
  | 1, _ => rfl
  | 2, _ => rfl
  | 3, _ => rfl
  | 4, _ => rfl
  | 5, _ => rfl
  | 6, _ => rfl
  | 7, _ => rfl

theorem W8.length (v : W8) : v.cells.length = 8 := rfl

theorem rnd_raw (a b c d e f g h k x : Nat) : rnd ⟨a, b, c, d, e, f, g, h⟩ k x =
    ⟨p32 (p32 (p32 (p32 (p32 h (x32 (x32 (rr e 6) (rr e 11)) (rr e 25))) (x32 (a32 e f) (a32 (n32 e) g))) k) x) (p32 (x32 (x32 (rr a 2) (rr a 13)) (rr a 22)) (x32 (x32 (a32 a b) (a32 a c)) (a32 b c))), a, b, c,
      p32 d (p32 (p32 (p32 (p32 h (x32 (x32 (rr e 6) (rr e 11)) (rr e 25))) (x32 (a32 e f) (a32 (n32 e) g))) k) x), e, f, g⟩ := by
  rw [rrs3, rrs3]; rfl

set_option maxHeartbeats 1600000 in
set_option maxRecDepth 100000 in
theorem block_any (v : W8) (s : ByteArray) (hs : s.size = 64) (w : World) :
    Calls Tryd.prog 76 #[.agg v.cells.toArray, .string s] w fun e w' => e = .returned (.agg (comp v s.data.toList).cells.toArray) ∧ Below w.heap.size w w' := by
  have hi8 : (Tryd.prog.info? 66).map (·.size) = some 8 := by kernel_rfl
  have hu8 := Tryd.underlying66
  go_enter Tryd.func76, Tryd.ntmps76
  go_wp2_with fail
  refine (words_any s hs _).mono ?_; rintro e w1 ⟨V, rfl, hO, hb1⟩
  have hA : Has w1 w.heap.size 66 v.cells := ((Has.make w 66 v.cells).alloc _).up hb1
  have hR : Has w1 (w.heap.size + 1) 66 (nums .u32 (zeros 8)) := (Has.make2 w _ 66 (nums .u32 (zeros 8))).up hb1
  have hB : Below w.heap.size w w1 := (up_alloc (up_alloc (Below.refl _ _) _) _).trans (hb1.mono (by simp; omega))
  have hz : w.heap.size + 2 ≤ w1.heap.size := by have := hb1.size; simp at this; omega
  clear hb1
  have hl : (sched s.data.toList 48).length = 64 := sched_length _ 48
  obtain ⟨gw, cap, hV, hgw, hcap, hcell⟩ := hO.opened (by omega)
  rw [hl] at hV hcap
  subst hV
  have HWD := Lib.hid (show ∀ j, j < 64 → w1.cell? ⟨gw, j, none⟩ = some (.int .u32 (wordAt s.data.toList j : Nat)) from fun j hj => hcell j _ (sched_cell _ _ _ (by omega)))
  have HA := Lib.hid hA
  have HR := Lib.hid hR
  clear hA hR hO hcell hl hgw
  go_wp2_with (first
    | (refine wpList_load_row rfl 66 _ rfl w.heap.size (by rfl) _ _ _ _ HA.out hu8 rfl (by rw [hi8]; rfl) ?_)
    | (refine wpList_store_whole rfl 66 _ _ rfl w1.heap.size 66 (nums .u32 (zeros 8)) v.cells (by rfl) (by rfl) (Has.make w1 _ _) (by rfl) (by rw [hi8]; rfl) (nums_one _ _) ?_; intro w2 hW hO))
  have hB2 := hO.below (B := w1.heap.size) (a := w1) (Nat.le_refl _) (up_alloc (Below.refl _ _) _)
  have HB2 := Lib.hid hB2
  have HW := Lib.hid hW
  clear hB2 hW hO
  go_loopw [7, 8, 9, 10, 11] (fun i _ _ _ _ wr => ∃ t : Nat, t ≤ 64 ∧ i = .int .i64 t ∧ Has wr w1.heap.size 66 (rounds v (wordAt s.data.toList) t).cells ∧ Below w1.heap.size w1 wr) (fun i _ _ _ _ _ => 64 - (intOf i).toNat)
  case atStart => exact ⟨0, by omega, rfl, HW.out, HB2.out⟩
  case round =>
    clear HB2 HW
    obtain ⟨t, ht, rfl, hW, hb⟩ := hrel
    have HW := Lib.hid hW
    have HB := Lib.hid hb
    clear hW hb
    have HN := Lib.hid (show rounds v (wordAt s.data.toList) (t + 1) = rnd (rounds v (wordAt s.data.toList) t) (kc t) (wordAt s.data.toList t) from rfl)
    generalize hu : rounds v (wordAt s.data.toList) t = u at *
    have HU := Lib.hid hu
    clear hu
    obtain ⟨ua, ub, uc, ud, ue, uf, ug, uh⟩ := u
    rw [rnd_raw] at HN
    by_cases hlt : t < 64
    · have c0 : wr.cell? ⟨w1.heap.size, 0, none⟩ = some (.int .u32 (ua : Nat)) := HW.out.at rfl
      have c1 : wr.cell? ⟨w1.heap.size, 1, none⟩ = some (.int .u32 (ub : Nat)) := HW.out.at rfl
      have c2 : wr.cell? ⟨w1.heap.size, 2, none⟩ = some (.int .u32 (uc : Nat)) := HW.out.at rfl
      have c3 : wr.cell? ⟨w1.heap.size, 3, none⟩ = some (.int .u32 (ud : Nat)) := HW.out.at rfl
      have c4 : wr.cell? ⟨w1.heap.size, 4, none⟩ = some (.int .u32 (ue : Nat)) := HW.out.at rfl
      have c5 : wr.cell? ⟨w1.heap.size, 5, none⟩ = some (.int .u32 (uf : Nat)) := HW.out.at rfl
      have c6 : wr.cell? ⟨w1.heap.size, 6, none⟩ = some (.int .u32 (ug : Nat)) := HW.out.at rfl
      have c7 : wr.cell? ⟨w1.heap.size, 7, none⟩ = some (.int .u32 (uh : Nat)) := HW.out.at rfl
      have cw : wr.cell? ⟨gw, t, none⟩ = some (.int .u32 (wordAt s.data.toList t : Nat)) := (HB.out.cell (p := ⟨gw, t, none⟩) (block_lt_of_cell (HWD.out t hlt))).trans (HWD.out t hlt)
      have t0 : (0 : Int) ≤ (t : Int) := by omega
      have t1 : (t : Int) < 64 := by omega
      have HC := Lib.hid (fun w => constant_any t hlt w)
      generalize wordAt s.data.toList t = wt at *
      generalize kc t = kt at *
      have HK := Lib.hid (show ∀ W, Below wr.heap.size wr W → W.cell? ⟨w1.heap.size, 5, none⟩ = some (.int .u32 (uf : Nat)) ∧ W.cell? ⟨w1.heap.size, 6, none⟩ = some (.int .u32 (ug : Nat)) ∧ W.cell? ⟨w1.heap.size, 7, none⟩ = some (.int .u32 (uh : Nat)) ∧ W.cell? ⟨gw, t, none⟩ = some (.int .u32 (wt : Nat)) from
        fun W h => ⟨(h.cell (p := ⟨w1.heap.size, 5, none⟩) (block_lt_of_cell c5)).trans c5, (h.cell (p := ⟨w1.heap.size, 6, none⟩) (block_lt_of_cell c6)).trans c6, (h.cell (p := ⟨w1.heap.size, 7, none⟩) (block_lt_of_cell c7)).trans c7, (h.cell (p := ⟨gw, t, none⟩) (block_lt_of_cell cw)).trans cw⟩)
      go_wp2_with fail
      clear c0 c1 c2 c3 c4 c5 c6 c7 cw
      refine wp_region_held_drew (S := fun W => W.cell? ⟨w1.heap.size, 5, none⟩ = some (.int .u32 (uf : Nat)) ∧ W.cell? ⟨w1.heap.size, 6, none⟩ = some (.int .u32 (ug : Nat)) ∧ W.cell? ⟨w1.heap.size, 7, none⟩ = some (.int .u32 (uh : Nat)) ∧ W.cell? ⟨gw, t, none⟩ = some (.int .u32 (wt : Nat))) (by kernel_rfl) (HK.out _ (Below.refl _ _).drew) (fun hHeld => ?_)
      refine wpAnyH_take (i := 0) (v := ?_) rfl (by kernel_rfl) (by kernel_rfl) (by kernel_rfl) (fun _ _ _ h => h) (Or.inl ⟨by rfl, ?_⟩) (by assumption) ?_
      rotate_left
      · intro w hSw; (try dsimp only at hSw); go_simp; try with_reducible rfl
      try simp only [Act.put, List.getElem_toArray, List.getElem_cons_zero, List.setIfInBounds_toArray, List.set_cons_zero, List.set_cons_succ]
      refine wpAnyH_take (i := 1) (v := ?_) rfl (by kernel_rfl) (by kernel_rfl) (by kernel_rfl) (fun _ _ _ h => h) (Or.inl ⟨by rfl, ?_⟩) (by assumption) ?_
      rotate_left
      · intro w hSw; (try dsimp only at hSw); go_simp; try with_reducible rfl
      try simp only [Act.put, List.getElem_toArray, List.getElem_cons_zero, List.getElem_cons_succ, List.setIfInBounds_toArray, List.set_cons_zero, List.set_cons_succ]
      refine wpAnyH_take (i := 2) (v := ?_) rfl (by kernel_rfl) (by kernel_rfl) (by kernel_rfl) (fun _ _ _ h => h) (Or.inl ⟨by rfl, ?_⟩) (by assumption) ?_
      rotate_left
      · intro w hSw; (try dsimp only at hSw); go_simp; try with_reducible rfl
      try simp only [Act.put, List.getElem_toArray, List.getElem_cons_zero, List.getElem_cons_succ, List.setIfInBounds_toArray, List.set_cons_zero, List.set_cons_succ]
      refine wpAnyH_take (i := 4) (v := ?_) rfl (by kernel_rfl) (by kernel_rfl) (by kernel_rfl) (fun _ _ _ h => h) (Or.inl ⟨by rfl, ?_⟩) (by assumption) ?_
      rotate_left
      · intro w hSw; (try dsimp only at hSw); go_simp; try with_reducible rfl
      try simp only [Act.put, List.getElem_toArray, List.getElem_cons_zero, List.getElem_cons_succ, List.setIfInBounds_toArray, List.set_cons_zero, List.set_cons_succ]
      refine wpAnyH_take (i := 7) (v := ?_) rfl (by kernel_rfl) (by kernel_rfl) (by kernel_rfl) (fun _ _ _ h => h) (Or.inl ⟨by rfl, ?_⟩) (by assumption) ?_
      rotate_left
      · intro w hSw; (try dsimp only at hSw); go_simp; try with_reducible rfl
      try simp only [Act.put, List.getElem_toArray, List.getElem_cons_zero, List.getElem_cons_succ, List.setIfInBounds_toArray, List.set_cons_zero, List.set_cons_succ]
      refine wpAnyH_take (i := 11) (v := ?_) rfl (by kernel_rfl) (by kernel_rfl) (by kernel_rfl) (fun _ _ _ h => h) (Or.inl ⟨by rfl, ?_⟩) (by assumption) ?_
      rotate_left
      · intro w hSw; (try dsimp only at hSw); go_simp; try with_reducible rfl
      try simp only [Act.put, List.getElem_toArray, List.getElem_cons_zero, List.getElem_cons_succ, List.setIfInBounds_toArray, List.set_cons_zero, List.set_cons_succ]
      refine wpAnyH_take (i := 12) (v := ?_) rfl (by kernel_rfl) (by kernel_rfl) (by kernel_rfl) (fun _ _ _ h => h) (Or.inl ⟨by rfl, ?_⟩) (by assumption) ?_
      rotate_left
      · intro w hSw; (try dsimp only at hSw); go_simp; try with_reducible rfl
      try simp only [Act.put, List.getElem_toArray, List.getElem_cons_zero, List.getElem_cons_succ, List.setIfInBounds_toArray, List.set_cons_zero, List.set_cons_succ]
      refine wpAnyH_take (i := 13) (v := ?_) rfl (by kernel_rfl) (by kernel_rfl) (by kernel_rfl) (fun _ _ _ h => h) (Or.inl ⟨by rfl, ?_⟩) (by assumption) ?_
      rotate_left
      · intro w hSw; (try dsimp only at hSw); go_simp; try with_reducible rfl
      try simp only [Act.put, List.getElem_toArray, List.getElem_cons_zero, List.getElem_cons_succ, List.setIfInBounds_toArray, List.set_cons_zero, List.set_cons_succ]
      refine wpAnyH_take (i := 14) (v := ?_) rfl (by kernel_rfl) (by kernel_rfl) (by kernel_rfl) (fun _ _ _ h => h) (Or.inl ⟨by rfl, ?_⟩) (by assumption) ?_
      rotate_left
      · intro w hSw; (try dsimp only at hSw); go_simp; try with_reducible rfl
      try simp only [Act.put, List.getElem_toArray, List.getElem_cons_zero, List.getElem_cons_succ, List.setIfInBounds_toArray, List.set_cons_zero, List.set_cons_succ]
      refine wpAnyH_take (i := 15) (v := ?_) rfl (by kernel_rfl) (by kernel_rfl) (by kernel_rfl) (fun _ _ _ h => h) (Or.inl ⟨by rfl, ?_⟩) (by assumption) ?_
      rotate_left
      · intro w hSw; (try dsimp only at hSw); go_simp; try with_reducible rfl
      try simp only [Act.put, List.getElem_toArray, List.getElem_cons_zero, List.getElem_cons_succ, List.setIfInBounds_toArray, List.set_cons_zero, List.set_cons_succ]
      refine wpAnyH_take (i := 16) (v := ?_) rfl (by kernel_rfl) (by kernel_rfl) (by kernel_rfl) (fun _ _ _ h => h) (Or.inl ⟨by rfl, ?_⟩) (by assumption) ?_
      rotate_left
      · intro w hSw; (try dsimp only at hSw); go_simp; try with_reducible rfl
      try simp only [Act.put, List.getElem_toArray, List.getElem_cons_zero, List.getElem_cons_succ, List.setIfInBounds_toArray, List.set_cons_zero, List.set_cons_succ]
      refine wpAnyH_take (i := 17) (v := ?_) rfl (by kernel_rfl) (by kernel_rfl) (by kernel_rfl) (fun _ _ _ h => h) (Or.inl ⟨by rfl, ?_⟩) (by assumption) ?_
      rotate_left
      · intro w hSw; (try dsimp only at hSw); go_simp; try with_reducible rfl
      try simp only [Act.put, List.getElem_toArray, List.getElem_cons_zero, List.getElem_cons_succ, List.setIfInBounds_toArray, List.set_cons_zero, List.set_cons_succ]
      refine wpAnyH_take (i := 18) (v := ?_) rfl (by kernel_rfl) (by kernel_rfl) (by kernel_rfl) (fun _ _ _ h => h) (Or.inl ⟨by rfl, ?_⟩) (by assumption) ?_
      rotate_left
      · intro w hSw; (try dsimp only at hSw); go_simp; try with_reducible rfl
      try simp only [Act.put, List.getElem_toArray, List.getElem_cons_zero, List.getElem_cons_succ, List.setIfInBounds_toArray, List.set_cons_zero, List.set_cons_succ]
      refine wpAnyH_take (i := 19) (v := ?_) rfl (by kernel_rfl) (by kernel_rfl) (by kernel_rfl) (fun _ _ _ h => h) (Or.inl ⟨by rfl, ?_⟩) (by assumption) ?_
      rotate_left
      · intro w hSw; (try dsimp only at hSw); go_simp; try with_reducible rfl
      try simp only [Act.put, List.getElem_toArray, List.getElem_cons_zero, List.getElem_cons_succ, List.setIfInBounds_toArray, List.set_cons_zero, List.set_cons_succ]
      refine wpAnyH_take (i := 20) (v := ?_) rfl (by kernel_rfl) (by kernel_rfl) (by kernel_rfl) (fun _ _ _ h => h) (Or.inl ⟨by rfl, ?_⟩) (by assumption) ?_
      rotate_left
      · intro w hSw; (try dsimp only at hSw); go_simp; try with_reducible rfl
      try simp only [Act.put, List.getElem_toArray, List.getElem_cons_zero, List.getElem_cons_succ, List.setIfInBounds_toArray, List.set_cons_zero, List.set_cons_succ]
      refine wpAnyH_take (i := 22) (v := ?_) rfl (by kernel_rfl) (by kernel_rfl) (by kernel_rfl) (fun _ _ _ h => h) (Or.inl ⟨by rfl, ?_⟩) (by assumption) ?_
      rotate_left
      · intro w hSw; (try dsimp only at hSw); go_simp; try with_reducible rfl
      try simp only [Act.put, List.getElem_toArray, List.getElem_cons_zero, List.getElem_cons_succ, List.setIfInBounds_toArray, List.set_cons_zero, List.set_cons_succ]
      refine wpAnyH_take (i := 25) (v := ?_) rfl (by kernel_rfl) (by kernel_rfl) (by kernel_rfl) (fun _ _ _ h => h) (Or.inl ⟨by rfl, ?_⟩) (by assumption) ?_
      rotate_left
      · intro w hSw; (try dsimp only at hSw); go_simp; try with_reducible rfl
      try simp only [Act.put, List.getElem_toArray, List.getElem_cons_zero, List.getElem_cons_succ, List.setIfInBounds_toArray, List.set_cons_zero, List.set_cons_succ]
      refine wpAnyH_take (i := 26) (v := ?_) rfl (by kernel_rfl) (by kernel_rfl) (by kernel_rfl) (fun _ _ _ h => h) (Or.inl ⟨by rfl, ?_⟩) (by assumption) ?_
      rotate_left
      · intro w hSw; (try dsimp only at hSw); go_simp; try with_reducible rfl
      try simp only [Act.put, List.getElem_toArray, List.getElem_cons_zero, List.getElem_cons_succ, List.setIfInBounds_toArray, List.set_cons_zero, List.set_cons_succ]
      refine wpAnyH_take (i := 27) (v := ?_) rfl (by kernel_rfl) (by kernel_rfl) (by kernel_rfl) (fun _ _ _ h => h) (Or.inl ⟨by rfl, ?_⟩) (by assumption) ?_
      rotate_left
      · intro w hSw; (try dsimp only at hSw); go_simp; try with_reducible rfl
      try simp only [Act.put, List.getElem_toArray, List.getElem_cons_zero, List.getElem_cons_succ, List.setIfInBounds_toArray, List.set_cons_zero, List.set_cons_succ]
      refine wpAnyH_take (i := 28) (v := ?_) rfl (by kernel_rfl) (by kernel_rfl) (by kernel_rfl) (fun _ _ _ h => h) (Or.inl ⟨by rfl, ?_⟩) (by assumption) ?_
      rotate_left
      · intro w hSw; (try dsimp only at hSw); go_simp; try with_reducible rfl
      try simp only [Act.put, List.getElem_toArray, List.getElem_cons_zero, List.getElem_cons_succ, List.setIfInBounds_toArray, List.set_cons_zero, List.set_cons_succ]
      refine wpAnyH_ready (rs := [3]) (by kernel_rfl) (by simp) (AllReadyH.cons rfl (fun K hK => ?_) AllReadyH.nil)
      go_simp
      refine (turn_b ue 6 (by omega) (by omega) _).mono ?_; rintro e wn ⟨rfl, hbn'⟩
      have hbn : Below wr.heap.size wr wn := (Below.refl _ _).drew.trans hbn'
      clear hbn'
      go_wp2_with fail
      refine hK.out _ _ (HK.out _ hbn) (fun hHeld => ?_)
      clear hK K
      try simp only [Act.put, List.getElem_toArray, List.getElem_cons_zero, List.getElem_cons_succ, List.setIfInBounds_toArray, List.set_cons_zero, List.set_cons_succ]
      refine wpAnyH_ready (rs := [5]) (by kernel_rfl) (by simp) (AllReadyH.cons rfl (fun K hK => ?_) AllReadyH.nil)
      go_simp
      refine (turn_b ue 11 (by omega) (by omega) _).mono ?_; rintro e wn ⟨rfl, hbn'⟩
      replace hbn := below_nx hbn hbn'
      clear hbn'
      go_wp2_with fail
      refine hK.out _ _ (HK.out _ hbn) (fun hHeld => ?_)
      clear hK K
      try simp only [Act.put, List.getElem_toArray, List.getElem_cons_zero, List.getElem_cons_succ, List.setIfInBounds_toArray, List.set_cons_zero, List.set_cons_succ]
      refine wpAnyH_take (i := 6) (v := ?_) rfl (by kernel_rfl) (by kernel_rfl) (by kernel_rfl) (fun _ _ _ h => h) (Or.inl ⟨by rfl, ?_⟩) (by assumption) ?_
      rotate_left
      · intro w hSw; (try dsimp only at hSw); go_simp; try with_reducible rfl
      try simp only [Act.put, List.getElem_toArray, List.getElem_cons_zero, List.getElem_cons_succ, List.setIfInBounds_toArray, List.set_cons_zero, List.set_cons_succ]
      refine wpAnyH_ready (rs := [8]) (by kernel_rfl) (by simp) (AllReadyH.cons rfl (fun K hK => ?_) AllReadyH.nil)
      go_simp
      refine (turn_b ue 25 (by omega) (by omega) _).mono ?_; rintro e wn ⟨rfl, hbn'⟩
      replace hbn := below_nx hbn hbn'
      clear hbn'
      go_wp2_with fail
      refine hK.out _ _ (HK.out _ hbn) (fun hHeld => ?_)
      clear hK K
      try simp only [Act.put, List.getElem_toArray, List.getElem_cons_zero, List.getElem_cons_succ, List.setIfInBounds_toArray, List.set_cons_zero, List.set_cons_succ]
      refine wpAnyH_take (i := 9) (v := ?_) rfl (by kernel_rfl) (by kernel_rfl) (by kernel_rfl) (fun _ _ _ h => h) (Or.inl ⟨by rfl, ?_⟩) (by assumption) ?_
      rotate_left
      · intro w hSw; (try dsimp only at hSw); go_simp; try with_reducible rfl
      try simp only [Act.put, List.getElem_toArray, List.getElem_cons_zero, List.getElem_cons_succ, List.setIfInBounds_toArray, List.set_cons_zero, List.set_cons_succ]
      refine wpAnyH_take (i := 10) (v := ?_) rfl (by kernel_rfl) (by kernel_rfl) (by kernel_rfl) (fun _ _ _ h => h) (Or.inl ⟨by rfl, ?_⟩) (by assumption) ?_
      rotate_left
      · intro w hSw; (try dsimp only at hSw); go_simp; try with_reducible rfl
      try simp only [Act.put, List.getElem_toArray, List.getElem_cons_zero, List.getElem_cons_succ, List.setIfInBounds_toArray, List.set_cons_zero, List.set_cons_succ]
      refine wpAnyH_take (i := 21) (v := ?_) rfl (by kernel_rfl) (by kernel_rfl) (by kernel_rfl) (fun _ _ _ h => h) (Or.inl ⟨by rfl, ?_⟩) (by assumption) ?_
      rotate_left
      · intro w hSw; (try dsimp only at hSw); go_simp; try with_reducible rfl
      try simp only [Act.put, List.getElem_toArray, List.getElem_cons_zero, List.getElem_cons_succ, List.setIfInBounds_toArray, List.set_cons_zero, List.set_cons_succ]
      refine wpAnyH_ready (rs := [23]) (by kernel_rfl) (by simp) (AllReadyH.cons rfl (fun K hK => ?_) AllReadyH.nil)
      go_simp
      refine (HC.out _).mono ?_; rintro e wn ⟨rfl, hbn'⟩
      replace hbn := below_nx hbn hbn'
      clear hbn'
      go_wp2_with fail
      refine hK.out _ _ (HK.out _ hbn) (fun hHeld => ?_)
      clear hK K
      try simp only [Act.put, List.getElem_toArray, List.getElem_cons_zero, List.getElem_cons_succ, List.setIfInBounds_toArray, List.set_cons_zero, List.set_cons_succ]
      refine wpAnyH_take (i := 24) (v := ?_) rfl (by kernel_rfl) (by kernel_rfl) (by kernel_rfl) (fun _ _ _ h => h) (Or.inl ⟨by rfl, ?_⟩) (by assumption) ?_
      rotate_left
      · intro w hSw; (try dsimp only at hSw); go_simp; try with_reducible rfl
      try simp only [Act.put, List.getElem_toArray, List.getElem_cons_zero, List.getElem_cons_succ, List.setIfInBounds_toArray, List.set_cons_zero, List.set_cons_succ]
      refine wpAnyH_take (i := 29) (v := ?_) rfl (by kernel_rfl) (by kernel_rfl) (by kernel_rfl) (fun _ _ _ h => h) (Or.inl ⟨by rfl, ?_⟩) (by assumption) ?_
      rotate_left
      · intro w hSw; (try dsimp only at hSw); go_simp; try with_reducible rfl
      try simp only [Act.put, List.getElem_toArray, List.getElem_cons_zero, List.getElem_cons_succ, List.setIfInBounds_toArray, List.set_cons_zero, List.set_cons_succ]
      refine wpAnyH_take (i := 30) (v := ?_) rfl (by kernel_rfl) (by kernel_rfl) (by kernel_rfl) (fun _ _ _ h => h) (Or.inl ⟨by rfl, ?_⟩) (by assumption) ?_
      rotate_left
      · intro w hSw; (try dsimp only at hSw); go_simp; try with_reducible rfl
      try simp only [Act.put, List.getElem_toArray, List.getElem_cons_zero, List.getElem_cons_succ, List.setIfInBounds_toArray, List.set_cons_zero, List.set_cons_succ]
      refine wpAnyH_done (by kernel_rfl) ?_ _
      have hW := HW.out.up hbn
      have hb := HB.out.trans (hbn.mono HB.out.size)
      clear HK hbn hHeld HW HB
      have c0 : wn.cell? ⟨w1.heap.size, 0, none⟩ = some (.int .u32 (ua : Nat)) := hW.at rfl
      have c1 : wn.cell? ⟨w1.heap.size, 1, none⟩ = some (.int .u32 (ub : Nat)) := hW.at rfl
      have c2 : wn.cell? ⟨w1.heap.size, 2, none⟩ = some (.int .u32 (uc : Nat)) := hW.at rfl
      have c3 : wn.cell? ⟨w1.heap.size, 3, none⟩ = some (.int .u32 (ud : Nat)) := hW.at rfl
      have c5 : wn.cell? ⟨w1.heap.size, 5, none⟩ = some (.int .u32 (uf : Nat)) := hW.at rfl
      have c6 : wn.cell? ⟨w1.heap.size, 6, none⟩ = some (.int .u32 (ug : Nat)) := hW.at rfl
      have HW := Lib.hid hW
      have HB := Lib.hid hb
      clear hW hb
      go_wp2_with fail
      have HK := Lib.hid (show ∀ W, Below wn.heap.size wn W → W.cell? ⟨w1.heap.size, 1, none⟩ = some (.int .u32 (ub : Nat)) ∧ W.cell? ⟨w1.heap.size, 2, none⟩ = some (.int .u32 (uc : Nat)) from
        fun W h => ⟨(h.cell (p := ⟨w1.heap.size, 1, none⟩) (block_lt_of_cell c1)).trans c1, (h.cell (p := ⟨w1.heap.size, 2, none⟩) (block_lt_of_cell c2)).trans c2⟩)
      clear c0 c1 c2 c3 c5 c6
      refine wp_region_held_drew (S := fun W => W.cell? ⟨w1.heap.size, 1, none⟩ = some (.int .u32 (ub : Nat)) ∧ W.cell? ⟨w1.heap.size, 2, none⟩ = some (.int .u32 (uc : Nat))) (by kernel_rfl) (HK.out _ (Below.refl _ _).drew) (fun hHeld => ?_)
      refine wpAnyH_take (i := 0) (v := ?_) rfl (by kernel_rfl) (by kernel_rfl) (by kernel_rfl) (fun _ _ _ h => h) (Or.inl ⟨by rfl, ?_⟩) (by assumption) ?_
      rotate_left
      · intro w hSw; (try dsimp only at hSw); go_simp; try with_reducible rfl
      try simp only [Act.put, List.getElem_toArray, List.getElem_cons_zero, List.setIfInBounds_toArray, List.set_cons_zero, List.set_cons_succ]
      refine wpAnyH_take (i := 2) (v := ?_) rfl (by kernel_rfl) (by kernel_rfl) (by kernel_rfl) (fun _ _ _ h => h) (Or.inl ⟨by rfl, ?_⟩) (by assumption) ?_
      rotate_left
      · intro w hSw; (try dsimp only at hSw); go_simp; try with_reducible rfl
      try simp only [Act.put, List.getElem_toArray, List.getElem_cons_zero, List.getElem_cons_succ, List.setIfInBounds_toArray, List.set_cons_zero, List.set_cons_succ]
      refine wpAnyH_take (i := 5) (v := ?_) rfl (by kernel_rfl) (by kernel_rfl) (by kernel_rfl) (fun _ _ _ h => h) (Or.inl ⟨by rfl, ?_⟩) (by assumption) ?_
      rotate_left
      · intro w hSw; (try dsimp only at hSw); go_simp; try with_reducible rfl
      try simp only [Act.put, List.getElem_toArray, List.getElem_cons_zero, List.getElem_cons_succ, List.setIfInBounds_toArray, List.set_cons_zero, List.set_cons_succ]
      refine wpAnyH_take (i := 8) (v := ?_) rfl (by kernel_rfl) (by kernel_rfl) (by kernel_rfl) (fun _ _ _ h => h) (Or.inl ⟨by rfl, ?_⟩) (by assumption) ?_
      rotate_left
      · intro w hSw; (try dsimp only at hSw); go_simp; try with_reducible rfl
      try simp only [Act.put, List.getElem_toArray, List.getElem_cons_zero, List.getElem_cons_succ, List.setIfInBounds_toArray, List.set_cons_zero, List.set_cons_succ]
      refine wpAnyH_take (i := 9) (v := ?_) rfl (by kernel_rfl) (by kernel_rfl) (by kernel_rfl) (fun _ _ _ h => h) (Or.inl ⟨by rfl, ?_⟩) (by assumption) ?_
      rotate_left
      · intro w hSw; (try dsimp only at hSw); go_simp; try with_reducible rfl
      try simp only [Act.put, List.getElem_toArray, List.getElem_cons_zero, List.getElem_cons_succ, List.setIfInBounds_toArray, List.set_cons_zero, List.set_cons_succ]
      refine wpAnyH_take (i := 10) (v := ?_) rfl (by kernel_rfl) (by kernel_rfl) (by kernel_rfl) (fun _ _ _ h => h) (Or.inl ⟨by rfl, ?_⟩) (by assumption) ?_
      rotate_left
      · intro w hSw; (try dsimp only at hSw); go_simp; try with_reducible rfl
      try simp only [Act.put, List.getElem_toArray, List.getElem_cons_zero, List.getElem_cons_succ, List.setIfInBounds_toArray, List.set_cons_zero, List.set_cons_succ]
      refine wpAnyH_take (i := 11) (v := ?_) rfl (by kernel_rfl) (by kernel_rfl) (by kernel_rfl) (fun _ _ _ h => h) (Or.inl ⟨by rfl, ?_⟩) (by assumption) ?_
      rotate_left
      · intro w hSw; (try dsimp only at hSw); go_simp; try with_reducible rfl
      try simp only [Act.put, List.getElem_toArray, List.getElem_cons_zero, List.getElem_cons_succ, List.setIfInBounds_toArray, List.set_cons_zero, List.set_cons_succ]
      refine wpAnyH_take (i := 12) (v := ?_) rfl (by kernel_rfl) (by kernel_rfl) (by kernel_rfl) (fun _ _ _ h => h) (Or.inl ⟨by rfl, ?_⟩) (by assumption) ?_
      rotate_left
      · intro w hSw; (try dsimp only at hSw); go_simp; try with_reducible rfl
      try simp only [Act.put, List.getElem_toArray, List.getElem_cons_zero, List.getElem_cons_succ, List.setIfInBounds_toArray, List.set_cons_zero, List.set_cons_succ]
      refine wpAnyH_take (i := 13) (v := ?_) rfl (by kernel_rfl) (by kernel_rfl) (by kernel_rfl) (fun _ _ _ h => h) (Or.inl ⟨by rfl, ?_⟩) (by assumption) ?_
      rotate_left
      · intro w hSw; (try dsimp only at hSw); go_simp; try with_reducible rfl
      try simp only [Act.put, List.getElem_toArray, List.getElem_cons_zero, List.getElem_cons_succ, List.setIfInBounds_toArray, List.set_cons_zero, List.set_cons_succ]
      refine wpAnyH_take (i := 14) (v := ?_) rfl (by kernel_rfl) (by kernel_rfl) (by kernel_rfl) (fun _ _ _ h => h) (Or.inl ⟨by rfl, ?_⟩) (by assumption) ?_
      rotate_left
      · intro w hSw; (try dsimp only at hSw); go_simp; try with_reducible rfl
      try simp only [Act.put, List.getElem_toArray, List.getElem_cons_zero, List.getElem_cons_succ, List.setIfInBounds_toArray, List.set_cons_zero, List.set_cons_succ]
      refine wpAnyH_take (i := 15) (v := ?_) rfl (by kernel_rfl) (by kernel_rfl) (by kernel_rfl) (fun _ _ _ h => h) (Or.inl ⟨by rfl, ?_⟩) (by assumption) ?_
      rotate_left
      · intro w hSw; (try dsimp only at hSw); go_simp; try with_reducible rfl
      try simp only [Act.put, List.getElem_toArray, List.getElem_cons_zero, List.getElem_cons_succ, List.setIfInBounds_toArray, List.set_cons_zero, List.set_cons_succ]
      refine wpAnyH_take (i := 16) (v := ?_) rfl (by kernel_rfl) (by kernel_rfl) (by kernel_rfl) (fun _ _ _ h => h) (Or.inl ⟨by rfl, ?_⟩) (by assumption) ?_
      rotate_left
      · intro w hSw; (try dsimp only at hSw); go_simp; try with_reducible rfl
      try simp only [Act.put, List.getElem_toArray, List.getElem_cons_zero, List.getElem_cons_succ, List.setIfInBounds_toArray, List.set_cons_zero, List.set_cons_succ]
      refine wpAnyH_take (i := 17) (v := ?_) rfl (by kernel_rfl) (by kernel_rfl) (by kernel_rfl) (fun _ _ _ h => h) (Or.inl ⟨by rfl, ?_⟩) (by assumption) ?_
      rotate_left
      · intro w hSw; (try dsimp only at hSw); go_simp; try with_reducible rfl
      try simp only [Act.put, List.getElem_toArray, List.getElem_cons_zero, List.getElem_cons_succ, List.setIfInBounds_toArray, List.set_cons_zero, List.set_cons_succ]
      refine wpAnyH_take (i := 18) (v := ?_) rfl (by kernel_rfl) (by kernel_rfl) (by kernel_rfl) (fun _ _ _ h => h) (Or.inl ⟨by rfl, ?_⟩) (by assumption) ?_
      rotate_left
      · intro w hSw; (try dsimp only at hSw); go_simp; try with_reducible rfl
      try simp only [Act.put, List.getElem_toArray, List.getElem_cons_zero, List.getElem_cons_succ, List.setIfInBounds_toArray, List.set_cons_zero, List.set_cons_succ]
      refine wpAnyH_take (i := 19) (v := ?_) rfl (by kernel_rfl) (by kernel_rfl) (by kernel_rfl) (fun _ _ _ h => h) (Or.inl ⟨by rfl, ?_⟩) (by assumption) ?_
      rotate_left
      · intro w hSw; (try dsimp only at hSw); go_simp; try with_reducible rfl
      try simp only [Act.put, List.getElem_toArray, List.getElem_cons_zero, List.getElem_cons_succ, List.setIfInBounds_toArray, List.set_cons_zero, List.set_cons_succ]
      refine wpAnyH_take (i := 20) (v := ?_) rfl (by kernel_rfl) (by kernel_rfl) (by kernel_rfl) (fun _ _ _ h => h) (Or.inl ⟨by rfl, ?_⟩) (by assumption) ?_
      rotate_left
      · intro w hSw; (try dsimp only at hSw); go_simp; try with_reducible rfl
      try simp only [Act.put, List.getElem_toArray, List.getElem_cons_zero, List.getElem_cons_succ, List.setIfInBounds_toArray, List.set_cons_zero, List.set_cons_succ]
      refine wpAnyH_take (i := 21) (v := ?_) rfl (by kernel_rfl) (by kernel_rfl) (by kernel_rfl) (fun _ _ _ h => h) (Or.inl ⟨by rfl, ?_⟩) (by assumption) ?_
      rotate_left
      · intro w hSw; (try dsimp only at hSw); go_simp; try with_reducible rfl
      try simp only [Act.put, List.getElem_toArray, List.getElem_cons_zero, List.getElem_cons_succ, List.setIfInBounds_toArray, List.set_cons_zero, List.set_cons_succ]
      refine wpAnyH_take (i := 22) (v := ?_) rfl (by kernel_rfl) (by kernel_rfl) (by kernel_rfl) (fun _ _ _ h => h) (Or.inl ⟨by rfl, ?_⟩) (by assumption) ?_
      rotate_left
      · intro w hSw; (try dsimp only at hSw); go_simp; try with_reducible rfl
      try simp only [Act.put, List.getElem_toArray, List.getElem_cons_zero, List.getElem_cons_succ, List.setIfInBounds_toArray, List.set_cons_zero, List.set_cons_succ]
      refine wpAnyH_ready (rs := [1]) (by kernel_rfl) (by simp) (AllReadyH.cons rfl (fun K hK => ?_) AllReadyH.nil)
      go_simp
      refine (turn_b ua 2 (by omega) (by omega) _).mono ?_; rintro e wm ⟨rfl, hbm'⟩
      have hbm : Below wn.heap.size wn wm := (Below.refl _ _).drew.trans hbm'
      clear hbm'
      go_wp2_with fail
      refine hK.out _ _ (HK.out _ hbm) (fun hHeld => ?_)
      clear hK K
      try simp only [Act.put, List.getElem_toArray, List.getElem_cons_zero, List.getElem_cons_succ, List.setIfInBounds_toArray, List.set_cons_zero, List.set_cons_succ]
      refine wpAnyH_ready (rs := [3]) (by kernel_rfl) (by simp) (AllReadyH.cons rfl (fun K hK => ?_) AllReadyH.nil)
      go_simp
      refine (turn_b ua 13 (by omega) (by omega) _).mono ?_; rintro e wm ⟨rfl, hbm'⟩
      replace hbm := below_nx hbm hbm'
      clear hbm'
      go_wp2_with fail
      refine hK.out _ _ (HK.out _ hbm) (fun hHeld => ?_)
      clear hK K
      try simp only [Act.put, List.getElem_toArray, List.getElem_cons_zero, List.getElem_cons_succ, List.setIfInBounds_toArray, List.set_cons_zero, List.set_cons_succ]
      refine wpAnyH_take (i := 4) (v := ?_) rfl (by kernel_rfl) (by kernel_rfl) (by kernel_rfl) (fun _ _ _ h => h) (Or.inl ⟨by rfl, ?_⟩) (by assumption) ?_
      rotate_left
      · intro w hSw; (try dsimp only at hSw); go_simp; try with_reducible rfl
      try simp only [Act.put, List.getElem_toArray, List.getElem_cons_zero, List.getElem_cons_succ, List.setIfInBounds_toArray, List.set_cons_zero, List.set_cons_succ]
      refine wpAnyH_ready (rs := [6]) (by kernel_rfl) (by simp) (AllReadyH.cons rfl (fun K hK => ?_) AllReadyH.nil)
      go_simp
      refine (turn_b ua 22 (by omega) (by omega) _).mono ?_; rintro e wm ⟨rfl, hbm'⟩
      replace hbm := below_nx hbm hbm'
      clear hbm'
      go_wp2_with fail
      refine hK.out _ _ (HK.out _ hbm) (fun hHeld => ?_)
      clear hK K
      try simp only [Act.put, List.getElem_toArray, List.getElem_cons_zero, List.getElem_cons_succ, List.setIfInBounds_toArray, List.set_cons_zero, List.set_cons_succ]
      refine wpAnyH_take (i := 7) (v := ?_) rfl (by kernel_rfl) (by kernel_rfl) (by kernel_rfl) (fun _ _ _ h => h) (Or.inl ⟨by rfl, ?_⟩) (by assumption) ?_
      rotate_left
      · intro w hSw; (try dsimp only at hSw); go_simp; try with_reducible rfl
      try simp only [Act.put, List.getElem_toArray, List.getElem_cons_zero, List.getElem_cons_succ, List.setIfInBounds_toArray, List.set_cons_zero, List.set_cons_succ]
      refine wpAnyH_take (i := 23) (v := ?_) rfl (by kernel_rfl) (by kernel_rfl) (by kernel_rfl) (fun _ _ _ h => h) (Or.inl ⟨by rfl, ?_⟩) (by assumption) ?_
      rotate_left
      · intro w hSw; (try dsimp only at hSw); go_simp; try with_reducible rfl
      try simp only [Act.put, List.getElem_toArray, List.getElem_cons_zero, List.getElem_cons_succ, List.setIfInBounds_toArray, List.set_cons_zero, List.set_cons_succ]
      refine wpAnyH_take (i := 24) (v := ?_) rfl (by kernel_rfl) (by kernel_rfl) (by kernel_rfl) (fun _ _ _ h => h) (Or.inl ⟨by rfl, ?_⟩) (by assumption) ?_
      rotate_left
      · intro w hSw; (try dsimp only at hSw); go_simp; try with_reducible rfl
      try simp only [Act.put, List.getElem_toArray, List.getElem_cons_zero, List.getElem_cons_succ, List.setIfInBounds_toArray, List.set_cons_zero, List.set_cons_succ]
      refine wpAnyH_done (by kernel_rfl) ?_ _
      have hW := HW.out.up hbm
      have hb := HB.out.trans (hbm.mono HB.out.size)
      clear HK hbm hHeld HW HB
      have c1 : wm.cell? ⟨w1.heap.size, 1, none⟩ = some (.int .u32 (ub : Nat)) := hW.at rfl
      have c2 : wm.cell? ⟨w1.heap.size, 2, none⟩ = some (.int .u32 (uc : Nat)) := hW.at rfl
      have c3 : wm.cell? ⟨w1.heap.size, 3, none⟩ = some (.int .u32 (ud : Nat)) := hW.at rfl
      have c5 : wm.cell? ⟨w1.heap.size, 5, none⟩ = some (.int .u32 (uf : Nat)) := hW.at rfl
      have c6 : wm.cell? ⟨w1.heap.size, 6, none⟩ = some (.int .u32 (ug : Nat)) := hW.at rfl
      have HW := Lib.hid hW
      have HB := Lib.hid hb
      clear hW hb
      generalize hone : p32 (p32 (p32 (p32 uh (x32 (x32 (rr ue 6) (rr ue 11)) (rr ue 25))) (x32 (a32 ue uf) (a32 (n32 ue) ug))) kt) wt = one at *
      generalize htwo : p32 (x32 (x32 (rr ua 2) (rr ua 13)) (rr ua 22)) (x32 (x32 (a32 ua ub) (a32 ua uc)) (a32 ub uc)) = two at *
      have HN1 := Lib.hid (show rounds v (wordAt s.data.toList) (t + 1) = ⟨p32 one two, ua, ub, uc, p32 ud one, ue, uf, ug⟩ from HN.out)
      clear hone htwo HN
      go_wp2_with (refine wpList_store_whole rfl 66 _ _ rfl w1.heap.size 66 (W8.mk ua ub uc ud ue uf ug uh).cells (W8.mk (p32 one two) ua ub uc (p32 ud one) ue uf ug).cells (by rfl) (by rfl) HW.out (by rw [W8.length, W8.length]) (by rw [hi8, W8.length]) (nums_one _ _) ?_; intro w4 hW4 hO4)
      go_roundw
      case rel =>
        exact ⟨t + 1, by omega, by go_num, by rw [HN1.out]; exact hW4, hO4.below (Nat.le_refl _) HB.out⟩
      case measure => simp [intOf]; omega
    · obtain rfl : t = 64 := by omega
      clear HN HWD hlt
      have hW0 : Has wr w1.heap.size 66 (nums .u32 (mix ⟨ua, ub, uc, ud, ue, uf, ug, uh⟩ v 0)) := HW.out
      have HCm := Lib.hid (show comp v s.data.toList = v.plus ⟨ua, ub, uc, ud, ue, uf, ug, uh⟩ by unfold comp; rw [HU.out])
      clear HW HU
      generalize W8.mk ua ub uc ud ue uf ug uh = u at *
      have HW0 := Lib.hid hW0
      clear hW0
      go_wp2_with fail
      simp only [Int.cast_ofNat_Int]
      go_loopw [12] (fun i wx => ∃ k : Nat, k ≤ 8 ∧ i = .int .i64 k ∧ Has wx w1.heap.size 66 (nums .u32 (mix u v k)) ∧ Below w1.heap.size w1 wx) (fun i _ => 8 - (intOf i).toNat)
      case atStart => exact ⟨0, by omega, rfl, HW0.out, HB.out⟩
      case round =>
        clear HW0 HB
        obtain ⟨k, hk, rfl, hW, hb⟩ := hrel
        by_cases hlt : k < 8
        · have x1 := hW.at (mix_at u v k hlt)
          have x2 := (HA.out.up hb).at (cells_at v k hlt)
          have x3 := hW.free k
          have HZ := Lib.hid (mix_set u v k hlt)
          generalize u.list.getD k 0 = x at *
          generalize v.list.getD k 0 = y at *
          have k0 : (0 : Int) ≤ (k : Int) := by omega
          have k1 : (k : Int) < 8 := by omega
          have HW := Lib.hid hW
          have HB := Lib.hid hb
          clear hW hb
          go_wp2_with fail
          go_still_tail 9, (by kernel_rfl)
          change wpList _ _ _ _ _ wr.drew
          go_wp2_with fail
          go_roundw
          case rel =>
            exact ⟨k + 1, by omega, by go_num, (congrArg (Has _ w1.heap.size _) HZ.out).mp ((HW.out.set k _).drew), (HB.out.setCell (p := ⟨w1.heap.size, k, none⟩) (Nat.le_refl _) _).drew⟩
          case measure => simp [intOf]; omega
        · obtain rfl : k = 8 := by omega
          rw [mix_eight] at hW
          have HW := Lib.hid hW
          have HR2 := Lib.hid (HR.out.up hb)
          have HB := Lib.hid (hB.trans (hb.mono hB.size))
          clear hW hb
          go_wp2_with (first
            | (refine wpList_load_row rfl 66 _ rfl w1.heap.size (by rfl) _ _ _ _ HW.out hu8 rfl (by rw [hi8, List.size_toArray, W8.length]) ?_)
            | (refine wpList_store_whole rfl 66 _ _ rfl (w.heap.size + 1) 66 (nums .u32 (zeros 8)) (v.plus u).cells (by rfl) (by rfl) HR2.out (by rw [W8.length]; rfl) (by rw [hi8, W8.length]) (nums_one _ _) ?_; intro w4 hF hO4))
          refine bodyPost_ret_by (results_cell_row Tryd.results76 _ _ _ _ _ _ _ (by rfl) hF hu8 rfl (by rw [hi8, List.size_toArray, W8.length])) rfl ⟨?_, hO4.below (by omega) HB.out⟩
          rw [HCm.out]
end Go.Proofs.YthhcopeejhhpgaaDoor

/- The other side's states: contracts of blackboxref02.Start, Add. -/
namespace Go.Proofs.YthhcopeejhhpgaaDoor
open Go.RowKit Word

attribute [local go_sem ↓] shl_nat shr_nat shl_lit shr_lit
attribute [local go_sem] wrap_add bits_xor bits_and bits_or wrap_less bits_not wrap_byte wrap_bt

set_option maxRecDepth 100000 in
theorem rstart_any (w : World) : Calls Tryd.prog 52 #[] w fun e w' => e = .returned (.agg St.start.cells.toArray) ∧ Below w.heap.size w w' := by
  go_enter Tryd.func52, Tryd.ntmps52
  go_wp2_with fail
  exact bodyPost_ret (v := .agg St.start.cells.toArray) (by simp [results, Tryd.results52, go_sem]; rfl) rfl ⟨rfl, up_alloc (Below.refl _ _) _⟩

set_option maxHeartbeats 800000 in
set_option maxRecDepth 100000 in
theorem radd_any (s : St) (b : ByteArray) (w : World) (hsz : s.rest.size + b.size ≤ 1000000) : Calls Tryd.prog 51 #[.agg s.cells.toArray, .string b] w fun e w' => e = .returned (.agg (s.add b).cells.toArray) ∧ Below w.heap.size w w' := by
  have h8 := s.cell8
  have h9 := s.cell9
  have e64 : IntKind.u64.wrap ((s.n : Int) + (b.size : Int)) = (((s.n + b.size) % 18446744073709551616 : Nat) : Int) := by rw [IntKind.wrap_u64]; omega
  have hb1 : b.size ≤ 1000000 := by omega
  have hr2 : s.rest.size ≤ 1000000 := by omega
  have HE := Lib.hid (show s.cells.set 8 (.int .u64 (((s.n + b.size) % 18446744073709551616 : Nat) : Int)) = (St.mk s.v ((s.n + b.size) % 18446744073709551616) s.rest).cells from rfl)
  have HAdd := Lib.hid (show s.add b = ⟨hs s.v (s.rest ++ b).data.toList ((s.rest ++ b).size / 64), (s.n + b.size) % 18446744073709551616, (s.rest ++ b).extract (64 * ((s.rest ++ b).size / 64)) (s.rest ++ b).size⟩ from rfl)
  have hts : (s.rest ++ b).size ≤ 1000000 := by rw [ByteArray.size_append]; omega
  generalize (s.n + b.size) % 18446744073709551616 = n at *
  go_enter Tryd.func51, Tryd.ntmps51
  go_upto_region 2 with (fail)
  rw [HE.out]
  replace h8 := St.cell8 ⟨s.v, n, s.rest⟩
  replace h9 := St.cell9 ⟨s.v, n, s.rest⟩
  go_wp2_with fail
  generalize s.rest ++ b = t at *
  have z0 : t.extract (64 * 0) t.size = t := ext_whole t
  go_loopw [5] (fun x wr => ∃ j : Nat, 64 * j ≤ t.size ∧ x = .string (t.extract (64 * j) t.size) ∧ Has wr w.heap.size 68 (St.mk (hs s.v t.data.toList j) n s.rest).cells ∧ Has wr (w.heap.size + 1) 68 (St.mk ⟨0, 0, 0, 0, 0, 0, 0, 0⟩ 0 ⟨#[]⟩).cells ∧ Below w.heap.size w wr) (fun x _ => match x with | .string s => s.size | _ => 0)
  case atStart => exact ⟨0, by omega, by rw [z0], (Has.make w _ _).alloc _, Has.make2 w _ _ (St.mk ⟨0, 0, 0, 0, 0, 0, 0, 0⟩ 0 ⟨#[]⟩).cells, up_alloc (up_alloc (Below.refl _ _) _) _⟩
  case round =>
    obtain ⟨j, hj, rfl, hA, hR, hb⟩ := hrel
    have zj : (t.extract (64 * j) t.size).size = t.size - 64 * j := by rw [ByteArray.size_extract]; omega
    have d1 : ((t.extract (64 * j) t.size).extract 0 64).data.toList = (t.data.toList.drop (64 * j)).take 64 := by
      rw [ext_data, ext_data, Nat.sub_zero, List.drop_zero, List.take_take]
      by_cases h : 64 ≤ t.size - 64 * j
      · rw [Nat.min_eq_left h]
      · rw [Nat.min_eq_right (by omega), List.take_of_length_le (by simp), List.take_of_length_le (by simp; omega)]
    by_cases hlt : 64 ≤ t.size - 64 * j
    · have e1 := ext_again t (64 * j) (by omega)
      have hz1 : 64 ≤ (t.extract (64 * j) t.size).size := by omega
      have hz2 : (t.extract (64 * j) t.size).size ≤ 1000000 := by omega
      rw [← zj] at e1
      have HN := Lib.hid (show hs s.v t.data.toList (j + 1) = comp (hs s.v t.data.toList j) ((t.data.toList.drop (64 * j)).take 64) from rfl)
      have HE1 := Lib.hid e1
      have HD1 := Lib.hid d1
      have HZJ := Lib.hid zj
      clear e1 d1 zj
      generalize t.extract (64 * j) t.size = T at *
      generalize hs s.v t.data.toList j = v at *
      have HA := Lib.hid hA
      have HR := Lib.hid hR
      have HB := Lib.hid hb
      clear hA hR hb
      have c0 : wr.cell? ⟨w.heap.size, 0, none⟩ = some (.int .u32 (v.a : Nat)) := HA.out.at rfl
      have c1 : wr.cell? ⟨w.heap.size, 1, none⟩ = some (.int .u32 (v.b : Nat)) := HA.out.at rfl
      have c2 : wr.cell? ⟨w.heap.size, 2, none⟩ = some (.int .u32 (v.c : Nat)) := HA.out.at rfl
      have c3 : wr.cell? ⟨w.heap.size, 3, none⟩ = some (.int .u32 (v.d : Nat)) := HA.out.at rfl
      have c4 : wr.cell? ⟨w.heap.size, 4, none⟩ = some (.int .u32 (v.e : Nat)) := HA.out.at rfl
      have c5 : wr.cell? ⟨w.heap.size, 5, none⟩ = some (.int .u32 (v.f : Nat)) := HA.out.at rfl
      have c6 : wr.cell? ⟨w.heap.size, 6, none⟩ = some (.int .u32 (v.g : Nat)) := HA.out.at rfl
      have c7 : wr.cell? ⟨w.heap.size, 7, none⟩ = some (.int .u32 (v.h : Nat)) := HA.out.at rfl
      have h63 : (T.extract 0 64).size = 64 := by rw [ByteArray.size_extract]; omega
      have H63 := Lib.hid h63
      clear h63
      go_wp2_with fail
      go_still_tail 4, (by kernel_rfl)
      change wpList _ _ _ _ _ wr.drew
      go_wp2_with fail
      refine (block_any v (T.extract 0 64) H63.out _).mono ?_; rintro e w4 ⟨rfl, hb4⟩
      rw [HD1.out, ← HN.out]
      have HA4 := Lib.hid (HA.out.drew.up hb4)
      have HR4 := Lib.hid (HR.out.drew.up hb4)
      have HB4 := Lib.hid (HB.out.drew.trans (hb4.mono HB.out.size))
      clear hb4 c0 c1 c2 c3 c4 c5 c6 c7
      generalize hU : hs s.v t.data.toList (j + 1) = u at *
      have HU := Lib.hid hU
      clear hU
      have hi : (Tryd.prog.info? 66).map (·.size) = some 8 := by kernel_rfl
      go_wp2_with (refine wpList_store_part rfl 66 _ _ rfl w.heap.size 0 68 (St.mk v n s.rest).cells u.cells (by rfl) (by rfl) HA4.out (by simp [St.cells, W8.cells, nums]) (by rw [hi]; rfl) (nums_one _ _) ?_; intro w5 hA5 hO5)
      go_roundw
      case rel =>
        refine ⟨j + 1, by omega, ?_, ?_, hO5.keep (by omega) HR4.out, hO5.below (Nat.le_refl _) HB4.out⟩
        · rw [HE1.out]; rfl
        · rw [HU.out]; exact hA5
      case measure =>
        show (T.extract 64 T.size).size < T.size
        rw [ByteArray.size_extract]; omega
    · have HD1 := Lib.hid d1
      have HZJ := Lib.hid zj
      have hz1 : (t.extract (64 * j) t.size).size < 64 := by omega
      clear d1 zj
      have HQ := Lib.hid (show j = t.size / 64 by omega)
      have HT := Lib.hid (show s.add b = ⟨hs s.v t.data.toList j, n, t.extract (64 * j) t.size⟩ by rw [HAdd.out, ← HQ.out])
      generalize t.extract (64 * j) t.size = T at *
      have HA := Lib.hid hA
      have HR := Lib.hid hR
      have HB := Lib.hid hb
      clear hA hR hb
      have HA4 := HA
      have HR4 := HR
      have HB4 := HB
      have h9' := HA4.out.at (i := 9) rfl
      have f9 := HA4.out.free 9
      have HC := Lib.hid (HA4.out.set 9 (.string T))
      have HD := Lib.hid (HR4.out.other (p := ⟨w.heap.size, 9, none⟩) (by simp) (.string T))
      have HF := Lib.hid (HB4.out.setCell (p := ⟨w.heap.size, 9, none⟩) (by simp) (.string T))
      clear h8 h9
      have hi : (Tryd.prog.info? 68).map (·.size) = some 10 := by kernel_rfl
      have hu := Tryd.underlying68
      go_wp2_with (first
        | (refine wpList_load_row rfl 68 _ rfl w.heap.size (by rfl) _ _ _ _ HC.out hu rfl (by rw [hi]; rfl) ?_)
        | (refine wpList_store_whole rfl 68 _ _ rfl (w.heap.size + 1) 68 _ _ (by rfl) (by rfl) HD.out (by rfl) (by rw [hi]; rfl) (by intro x hx; simp [St.cells, W8.cells, nums] at hx; rcases hx with h | h | h | h | h | h | h | h | h | h <;> (rw [h]; rfl)) ?_; intro w5 hF5 hO5))
      refine bodyPost_ret_by (results_cell_row Tryd.results51 _ _ _ _ _ _ _ (by rfl) hF5 hu rfl (by rw [hi]; rfl)) rfl ⟨?_, hO5.below (by omega) HF.out⟩
      rw [HT.out]
      rfl

end Go.Proofs.YthhcopeejhhpgaaDoor

/- The other side's sum of a state: contract of blackboxref02.End. -/
namespace Go.Proofs.YthhcopeejhhpgaaDoor
open Go.RowKit Word

attribute [local go_sem ↓] shl_nat shr_nat shl_lit shr_lit shr64_nat
attribute [local go_sem] wrap_add bits_xor bits_and bits_or wrap_less bits_not wrap_byte wrap_bt to_b8

theorem OwnB.opened {B : Nat} {v : Value} {l : List UInt8} {W : World} (h : OwnB B v l W) (hl : 0 < l.length) : ∃ g cap, v = .slice (some ⟨g, 0, none⟩) l.length cap := by
  obtain ⟨h0, ⟨_, hn⟩ | ⟨g, cap, cur, hv, hr⟩⟩ := h.out
  · omega
  · exact ⟨g, cap, hv⟩

theorem St.length (s : St) : s.cells.length = 10 := rfl
theorem St.one (s : St) : ∀ v ∈ s.cells, v.oneCell' = true := by
  intro x hx; simp [St.cells, W8.cells, nums] at hx; rcases hx with h | h | h | h | h | h | h | h | h | h <;> (rw [h]; rfl)

/-- The byte 128, and j bytes 0. -/
def lead (j : Nat) : List UInt8 := 128 :: List.replicate j 0
theorem lead_length (j : Nat) : (lead j).length = 1 + j := by simp [lead]; omega
theorem lead_succ (j : Nat) : lead j ++ [0] = lead (j + 1) := by
  unfold lead
  rw [List.replicate_succ']; rfl
theorem lead_gap (len n : Nat) : lead (gap len) = padl len n 0 := by simp [lead, padl]

set_option maxHeartbeats 1600000 in
set_option maxRecDepth 100000 in
theorem rend_any (s : St) (w : World) (hsz : s.rest.size ≤ 100000) : Calls Tryd.prog 50 #[.agg s.cells.toArray] w fun e w' => e = .returned (.agg (nums .u8 s.sum).toArray) ∧ Below w.heap.size w w' := by
  have h8 := s.cell8
  have h9 := s.cell9
  have em : IntKind.u64.wrap (8 * (s.n : Int)) = ((s.n * 8 % 18446744073709551616 : Nat) : Int) := by rw [IntKind.wrap_u64]; omega
  have HM := Lib.hid (show ∀ k, padl s.rest.size s.n (k + 1) = padl s.rest.size s.n k ++ [UInt8.ofNat (r64 (s.n * 8 % 18446744073709551616) (56 - 8 * k))] from padl_succ _ _)
  have HN := Lib.hid (show ∀ k, (padl s.rest.size s.n k).length = 1 + gap s.rest.size + k from padl_length _ _)
  have HG := Lib.hid (lead_gap s.rest.size s.n)
  have HPad := Lib.hid (show s.pad = ⟨(padl s.rest.size s.n 8).toArray⟩ from rfl)
  generalize s.n * 8 % 18446744073709551616 = m at *
  generalize hP : padl s.rest.size s.n = P at *
  clear hP
  go_enter Tryd.func50, Tryd.ntmps50
  go_wp2_with fail
  go_loopw [4] (fun p wr => ∃ j : Nat, j ≤ gap s.rest.size ∧ OwnB (w.heap.size + 1 + 1) p (lead j) wr ∧ Has wr w.heap.size 68 s.cells ∧ Has wr (w.heap.size + 1) 23 (nums .u8 (zeros 32)) ∧ Below w.heap.size w wr) (fun p _ => match p with | .slice _ n _ => 64 - n | _ => 0)
  case atStart =>
    exact ⟨0, by omega, OwnB.of_block (l := [128]) (r := []) (n := 1) (Nat.le_refl _) (Has.make3 w _ _ 5 (bys [128])) rfl (by omega), ((Has.make w _ _).alloc _).alloc _, (Has.make2 w _ _ (nums .u8 (zeros 32))).alloc _, up_alloc (up_alloc (up_alloc (Below.refl _ _) _) _) _⟩
  case round =>
    obtain ⟨j, hj, hO, hA, hR, hb⟩ := hrel
    obtain ⟨g, cap, hp⟩ := hO.opened (by rw [lead_length]; omega)
    rw [lead_length] at hp
    subst hp
    have x8 := hA.at h8
    have x9 := hA.at h9
    have hg64 : gap s.rest.size < 64 := by unfold gap; omega
    have e17 : IntKind.i64.wrap ((s.rest.size : Int) + ((1 + j : Nat) : Int)) = ((s.rest.size + (1 + j) : Nat) : Int) := by rw [IntWalk.i64_in _ (by omega)]; omega
    have HO := Lib.hid hO
    have HA := Lib.hid hA
    have HR := Lib.hid hR
    have HB := Lib.hid hb
    clear hO hA hR hb h8 h9
    by_cases hlt : j < gap s.rest.size
    · have hne : ((s.rest.size : Int) + (1 + (j : Int))) % 64 ≠ 56 := by unfold gap at hlt; omega
      have HL := Lib.hid (lead_length j)
      have HZ := Lib.hid (lead_succ j)
      have HS := Lib.hid HB.out.size
      go_wp2_with (at_builtin; refine wpList_push rfl (.tmp 20) (.tmp 21) rfl (w.heap.size + 1 + 1) _ (lead j) (by rfl) (HO.out.alloc _) wr.heap.size 1 [0] (by rfl) (Has.make wr 5 (bys [0])) rfl (by omega) (by rw [HL.out]; omega) (by have := HR.out.lt; simp; omega) ?_; intro v' w' hO' hB')
      rw [HZ.out] at hO'
      obtain ⟨g', cap', hv⟩ := hO'.opened (by rw [lead_length]; omega)
      rw [lead_length] at hv
      subst hv
      go_roundw
      case rel => exact ⟨j + 1, by omega, hO', (HA.out.alloc _).below hB' (by omega), (HR.out.alloc _).below hB' (by omega), (up_alloc HB.out _).trans (hB'.mono (by omega))⟩
      case measure =>
        show 64 - (1 + (j + 1)) < 64 - (1 + j)
        omega
    · obtain rfl : j = gap s.rest.size := by omega
      have hne : ((s.rest.size : Int) + (1 + (gap s.rest.size : Int))) % 64 = 56 := by unfold gap; omega
      rw [HG.out] at HO
      go_wp2_with fail
      clear hj hlt e17 x8 x9
      go_loopw [4, 5] (fun p i wr => ∃ k : Nat, k ≤ 8 ∧ i = .int .i64 (7 - (k : Int)) ∧ OwnB (w.heap.size + 1 + 1) p (P k) wr ∧ Has wr w.heap.size 68 s.cells ∧ Has wr (w.heap.size + 1) 23 (nums .u8 (zeros 32)) ∧ Below w.heap.size w wr) (fun _ i _ => (intOf i + 1).toNat)
      case atStart => exact ⟨0, by omega, rfl, HO.out, HA.out, HR.out, HB.out⟩
      case round =>
        clear HO HA HR HB hne
        obtain ⟨k, hk, rfl, hO, hA, hR, hb⟩ := hrel
        by_cases hlt : k < 8
        · have q0 : (0 : Int) ≤ 7 - (k : Int) := by omega
          have q2 : IntKind.i64.wrap (8 * (7 - (k : Int))) = ((56 - 8 * k : Nat) : Int) := by rw [IntWalk.i64_in _ (by omega)]; omega
          have q3 : ((56 - 8 * k : Nat) : Int) ≤ 56 := by omega
          have q4 : IntKind.i64.wrap (7 - (k : Int) - 1) = 7 - ((k + 1 : Nat) : Int) := by rw [IntWalk.i64_in _ (by omega)]; omega
          have HO := Lib.hid hO
          have HA := Lib.hid hA
          have HR := Lib.hid hR
          have HB := Lib.hid hb
          have HK := Lib.hid (HM.out k)
          have HL := Lib.hid (HN.out k)
          clear hO hA hR hb
          generalize hsh : 56 - 8 * k = sh at *
          go_wp2_with (at_builtin; refine wpList_push rfl (.tmp 27) (.tmp 33) rfl (w.heap.size + 1 + 1) _ (P k) (by rfl) (HO.out.alloc _) wr.heap.size 1 [UInt8.ofNat (r64 m sh)] (by rfl) (has_one wr _) rfl (by omega) (by rw [HL.out]; omega) (by have := HR.out.lt; simp; omega) ?_; intro v' w' hO' hB')
          rw [← HK.out] at hO'
          go_roundw
          case rel => exact ⟨k + 1, by omega, by first | rfl | (congr 1; omega), hO', (HA.out.alloc _).below hB' (by omega), (HR.out.alloc _).below hB' (by omega), (up_alloc HB.out _).trans (hB'.mono (by omega))⟩
          case measure => simp [intOf]; omega
        · obtain rfl : k = 8 := by omega
          have ht := hO.text
          have HA := Lib.hid hA
          have HR := Lib.hid hR
          have HB := Lib.hid hb
          clear hO hA hR hb
          have hi := Lib.hid (show (Tryd.prog.info? 68).map (·.size) = some 10 by kernel_rfl)
          have hu := Tryd.underlying68
          have HPS := Lib.hid s.pad_size
          go_wp2_with (refine wpList_load_row rfl 68 _ rfl w.heap.size (by rfl) _ _ _ _ HA.out hu rfl (by rw [hi.out, List.size_toArray, St.length]) ?_)
          rw [← HPad.out]
          refine (radd_any s s.pad _ (by have := HPS.out; omega)).mono ?_; rintro e w2 ⟨rfl, hb2⟩
          replace HA := Lib.hid (HA.out.up hb2)
          replace HR := Lib.hid (HR.out.up hb2)
          replace HB := Lib.hid (below_nx HB.out hb2)
          clear hb2 ht
          have HSum := Lib.hid (show s.sum = outs (s.add s.pad).v 32 from rfl)
          generalize s.add s.pad = z at *
          go_wp2_with (refine wpList_store_whole rfl 68 _ _ rfl w.heap.size 68 s.cells z.cells (by rfl) (by rfl) HA.out (by rw [St.length, St.length]) (by rw [hi.out, St.length]) (St.one z) ?_; intro w3 hA3 hO3)
          have HA3 := Lib.hid hA3
          have HR3 := Lib.hid (hO3.keep (by omega) HR.out)
          have HB3 := Lib.hid (hO3.below (Nat.le_refl _) HB.out)
          have hz3 : w.heap.size + 1 < w3.heap.size := HR3.out.lt
          clear hA3 hO3 HA HR HB em
          go_loopw [7] (fun i wr => ∃ k : Nat, k ≤ 32 ∧ i = .int .i64 k ∧ Has wr w.heap.size 68 z.cells ∧ Has wr (w.heap.size + 1) 23 (nums .u8 (zeros 32)) ∧ Has wr w3.heap.size 23 (nums .u8 (outs z.v k ++ zeros (32 - k))) ∧ Below w.heap.size w wr) (fun i _ => 32 - (intOf i).toNat)
          case atStart => exact ⟨0, by omega, rfl, HA3.out.alloc _, HR3.out.alloc _, Has.make w3 _ (nums .u8 (zeros 32)), up_alloc HB3.out _⟩
          case round =>
            clear HA3 HR3 HB3
            obtain ⟨k, hk, rfl, hA, hR, hW, hb⟩ := hrel
            by_cases hlt : k < 32
            · have e1 : (k : Int) / 4 = ((k / 4 : Nat) : Int) := by omega
              have e2 : 24 - 8 * ((k : Int) % 4) = ((24 - k % 4 * 8 : Nat) : Int) := by omega
              have n1 : ((k / 4 : Nat) : Int) < 8 := by omega
              have hf := hW.free k
              have hc := hW.at (outs_at z.v k hlt)
              have hd := hA.at (i := k / 4) (v := .int .u32 ([z.v.a, z.v.b, z.v.c, z.v.d, z.v.e, z.v.f, z.v.g, z.v.h].getD (k / 4) 0 : Nat)) (by
                have h8 : k / 4 < 8 := by omega
                generalize k / 4 = j at h8
                match j, h8 with
                | 0, _ => rfl
                | 1, _ => rfl
                | 2, _ => rfl
                | 3, _ => rfl
                | 4, _ => rfl
                | 5, _ => rfl
                | 6, _ => rfl
                | 7, _ => rfl)
              have HZ := Lib.hid (outs_set z.v k hlt)
              generalize [z.v.a, z.v.b, z.v.c, z.v.d, z.v.e, z.v.f, z.v.g, z.v.h].getD (k / 4) 0 = x at *
              generalize k / 4 = j at *
              generalize 24 - k % 4 * 8 = sh at *
              have HA := Lib.hid hA
              have HR := Lib.hid hR
              have HW := Lib.hid hW
              have HB := Lib.hid hb
              clear hA hR hW hb
              go_wp2_with fail
              go_roundw
              case rel =>
                exact ⟨k + 1, by omega, by go_num, HA.out.other (p := ⟨w3.heap.size, k, none⟩) (by simp; omega) _, HR.out.other (p := ⟨w3.heap.size, k, none⟩) (by simp; omega) _, (congrArg (Has _ w3.heap.size _) HZ.out).mp (HW.out.set k _), HB.out.setCell (p := ⟨w3.heap.size, k, none⟩) (by simp; omega) _⟩
              case measure => simp [intOf]; omega
            · obtain rfl : k = 32 := by omega
              have hu2 := Tryd.underlying23
              have hi2 : (Tryd.prog.info? 23).map (·.size) = some 32 := by kernel_rfl
              have HA := Lib.hid hA
              have HR := Lib.hid hR
              have HW := Lib.hid hW
              have HB := Lib.hid hb
              clear hA hR hW hb
              go_wp2_with (first
                | (refine wpList_load_row rfl 23 _ rfl w3.heap.size (by rfl) _ _ _ _ HW.out hu2 rfl (by rw [hi2]; simp [nums, outs, zeros]) ?_)
                | (refine wpList_store_whole rfl 23 _ _ rfl (w.heap.size + 1) 23 (nums .u8 (zeros 32)) (nums .u8 (outs z.v 32)) (by rfl) (by rfl) HR.out (by simp [nums, outs, zeros]) (by rw [hi2]; simp [nums, outs]) (nums_one _ _) ?_; intro w4 hF hO4))
              refine bodyPost_ret_by (results_cell_row Tryd.results50 _ _ _ _ _ _ _ (by rfl) hF hu2 rfl (by rw [hi2]; simp [nums, outs])) rfl ⟨by rw [HSum.out], hO4.below (by omega) HB.out⟩
end Go.Proofs.YthhcopeejhhpgaaDoor

/- The other side's sum of a text; what is added in two pieces is added in one. -/
namespace Go.Proofs.YthhcopeejhhpgaaDoor
open Go.RowKit Word

theorem hs_more (v : W8) (l : List UInt8) (i j : Nat) : hs v l (i + j) = hs (hs v l i) (l.drop (64 * i)) j := by
  induction j with
  | zero => rfl
  | succ j ih =>
    rw [← Nat.add_assoc, hs, hs, ih, List.drop_drop, Nat.mul_add]

theorem hs_pre (v : W8) (l r : List UInt8) : ∀ j, 64 * j ≤ l.length → hs v (l ++ r) j = hs v l j
  | 0, _ => rfl
  | j + 1, h => by
    rw [hs, hs, hs_pre v l r j (by omega), List.drop_append_of_le_length (by omega), List.take_append_of_le_length (by rw [List.length_drop]; omega)]

theorem bytes_ext {x y : ByteArray} (h : x.data.toList = y.data.toList) : x = y := by
  apply ByteArray.ext
  apply Array.ext'
  exact h

theorem rest_list (t : ByteArray) (a : Nat) : (t.extract a t.size).data.toList = t.data.toList.drop a := by
  rw [ext_data, List.take_of_length_le]
  simp

theorem list_app (x y : ByteArray) : (x ++ y).data.toList = x.data.toList ++ y.data.toList := by simp
theorem list_len (x : ByteArray) : x.data.toList.length = x.size := by simp

/-- What is added in two pieces is added in one. -/
theorem add_add (s : St) (a b : ByteArray) : (s.add a).add b = s.add (a ++ b) := by
  obtain ⟨v, n, r⟩ := s
  have e0 : r ++ (a ++ b) = (r ++ a) ++ b := (ByteArray.append_assoc).symm
  unfold St.add
  simp only [e0]
  generalize r ++ a = T
  have hR : (T.extract (64 * (T.size / 64)) T.size).size = T.size - 64 * (T.size / 64) := by rw [ByteArray.size_extract]; omega
  have hq : (T ++ b).size / 64 = T.size / 64 + (T.extract (64 * (T.size / 64)) T.size ++ b).size / 64 := by
    rw [ByteArray.size_append, ByteArray.size_append, hR]; omega
  have hl : (T.extract (64 * (T.size / 64)) T.size ++ b).data.toList = (T ++ b).data.toList.drop (64 * (T.size / 64)) := by
    rw [list_app, rest_list, list_app, List.drop_append_of_le_length (by rw [list_len]; omega)]
  have h1 : hs v T.data.toList (T.size / 64) = hs v (T ++ b).data.toList (T.size / 64) := by
    rw [list_app, hs_pre _ _ _ _ (by rw [list_len]; omega)]
  congr 1
  · rw [hl, h1, ← hs_more, ← hq]
  · rw [ByteArray.size_append]; omega
  · apply bytes_ext
    rw [rest_list, rest_list, hl, List.drop_drop, ← Nat.mul_add, ← hq]

set_option maxHeartbeats 800000 in
theorem rof_any (t : ByteArray) (w : World) (hsz : t.size ≤ 100000) : Calls Tryd.prog 29 #[.string t] w fun e w' => e = .returned (.agg (nums .u8 (St.start.add t).sum).toArray) ∧ Below w.heap.size w w' := by
  have hz1 := (St.start.add_size t)
  have hz2 : St.start.rest.size = 0 := rfl
  have HZ := Lib.hid hz2
  clear hz2
  have hu2 := Tryd.underlying23
  have hi2 : (Tryd.prog.info? 23).map (·.size) = some 32 := by kernel_rfl
  have hl : (nums .u8 (St.start.add t).sum).length = 32 := by simp [nums, St.sum, outs_length]
  have ho := nums_one .u8 (St.start.add t).sum
  go_enter Tryd.func29, Tryd.ntmps29
  go_wp2_with fail
  have HR := Lib.hid (Has.make w 23 (nums .u8 (zeros 32)))
  refine (rstart_any _).mono ?_; rintro e w1 ⟨rfl, hb1⟩
  replace HR := Lib.hid (HR.out.up hb1)
  have HB := Lib.hid ((up_alloc (Below.refl _ w) _).trans (hb1.mono (by simp)))
  clear hb1
  go_wp2_with fail
  refine (radd_any St.start t _ (by rw [HZ.out]; omega)).mono ?_; rintro e w2 ⟨rfl, hb2⟩
  replace HR := Lib.hid (HR.out.up hb2)
  replace HB := Lib.hid (HB.out.trans (hb2.mono HB.out.size))
  clear hb2
  go_wp2_with fail
  refine (rend_any (St.start.add t) _ (by omega)).mono ?_; rintro e w3 ⟨rfl, hb3⟩
  replace HR := Lib.hid (HR.out.up hb3)
  replace HB := Lib.hid (HB.out.trans (hb3.mono HB.out.size))
  clear hb3
  generalize hO : nums .u8 (St.start.add t).sum = O at *
  have HO := Lib.hid hO
  clear hO
  go_wp2_with (refine wpList_store_whole rfl 23 _ _ rfl w.heap.size 23 (nums .u8 (zeros 32)) O (by rfl) (by rfl) HR.out (by rw [hl]; rfl) (by rw [hi2, hl]) ho ?_; intro w5 hF hO5)
  exact bodyPost_ret_by (results_cell_row Tryd.results29 _ _ _ _ _ _ _ (by rfl) hF hu2 rfl (by rw [hi2]; simp [hl])) rfl ⟨by rw [HO.out], hO5.below (Nat.le_refl _) HB.out⟩

end Go.Proofs.YthhcopeejhhpgaaDoor
