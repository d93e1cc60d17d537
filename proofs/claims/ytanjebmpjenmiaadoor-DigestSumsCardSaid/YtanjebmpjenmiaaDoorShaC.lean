/- The rounds: what digest.changed returns, as a plain function of the words and the block. -/
import Derived.Test.YtanjebmpjenmiaaDoorShaB
import Derived.WalkMore
import Derived.Deep.DeepCutAuto
import Derived.Deep.CutRange
import Derived.Deep.CutBlock
import Derived.Deep.LoopGhost
import Derived.Deep.DrawnRows
namespace Go.Proofs.YtanjebmpjenmiaaDoor
open Go.RowKit Word

attribute [local go_sem ↓] shl_nat shr_nat shl_lit shr_lit
attribute [local go_sem] wrap_add bits_xor bits_and bits_or wrap_less bits_not wrap_byte wrap_bt
attribute [local go_sem ↓] Go.wp_at_zero Go.wp_at_succ

/-- The table of the rounds' constants lies in the program's variable. -/
def kc (t : Nat) : Nat := [0x428a2f98, 0x71374491, 0xb5c0fbcf, 0xe9b5dba5, 0x3956c25b, 0x59f111f1, 0x923f82a4, 0xab1c5ed5,
  0xd807aa98, 0x12835b01, 0x243185be, 0x550c7dc3, 0x72be5d74, 0x80deb1fe, 0x9bdc06a7, 0xc19bf174,
  0xe49b69c1, 0xefbe4786, 0x0fc19dc6, 0x240ca1cc, 0x2de92c6f, 0x4a7484aa, 0x5cb0a9dc, 0x76f988da,
  0x983e5152, 0xa831c66d, 0xb00327c8, 0xbf597fc7, 0xc6e00bf3, 0xd5a79147, 0x06ca6351, 0x14292967,
  0x27b70a85, 0x2e1b2138, 0x4d2c6dfc, 0x53380d13, 0x650a7354, 0x766a0abb, 0x81c2c92e, 0x92722c85,
  0xa2bfe8a1, 0xa81a664b, 0xc24b8b70, 0xc76c51a3, 0xd192e819, 0xd6990624, 0xf40e3585, 0x106aa070,
  0x19a4c116, 0x1e376c08, 0x2748774c, 0x34b0bcb5, 0x391c0cb3, 0x4ed8aa4a, 0x5b9cca4f, 0x682e6ff3,
  0x748f82ee, 0x78a5636f, 0x84c87814, 0x8cc70208, 0x90befffa, 0xa4506ceb, 0xbef9a3f7, 0xc67178f2].getD t 0

def Tab (w : World) : Prop := ∀ t, t < 64 → w.cell? ⟨0, t, none⟩ = some (.int .u32 (kc t : Nat))

def s0 (x : Nat) : Nat := x32 (rrs x [7, 18]) (r32 x 3)
def s1 (x : Nat) : Nat := x32 (rrs x [17, 19]) (r32 x 10)

/-- The word that follows from those ahead of it. -/
def nextWord (l : List Nat) (t : Nat) : Nat := p32 (p32 (p32 (l.getD (t - 16) 0) (s0 (l.getD (t - 15) 0))) (l.getD (t - 7) 0)) (s1 (l.getD (t - 2) 0))

/-- A block's first 16 + n words. -/
def sched (b : List UInt8) : Nat → List Nat
  | 0 => firsts b 16
  | n + 1 => sched b n ++ [nextWord (sched b n) (16 + n)]

/-- Eight words. -/
structure W8 where
  a : Nat
  b : Nat
  c : Nat
  d : Nat
  e : Nat
  f : Nat
  g : Nat
  h : Nat

def W8.cells (v : W8) : List Value := nums .u32 [v.a, v.b, v.c, v.d, v.e, v.f, v.g, v.h]

/-- One round. -/
def rnd (v : W8) (k x : Nat) : W8 :=
  let one := p32 (p32 (p32 (p32 v.h (rrs v.e [6, 11, 25])) (x32 (a32 v.e v.f) (a32 (n32 v.e) v.g))) k) x
  let two := p32 (rrs v.a [2, 13, 22]) (x32 (x32 (a32 v.a v.b) (a32 v.a v.c)) (a32 v.b v.c))
  ⟨p32 one two, v.a, v.b, v.c, p32 v.d one, v.e, v.f, v.g⟩

/-- The first t rounds, over the words wd. -/
def rounds (v : W8) (wd : Nat → Nat) : Nat → W8
  | 0 => v
  | t + 1 => rnd (rounds v wd t) (kc t) (wd t)

/-- A block's word number t. -/
def wordAt (b : List UInt8) (t : Nat) : Nat := (sched b (t - 15)).getD t 0

/-- Two rows of words, one by one together. -/
def W8.plus (v u : W8) : W8 := ⟨p32 v.a u.a, p32 v.b u.b, p32 v.c u.c, p32 v.d u.d, p32 v.e u.e, p32 v.f u.f, p32 v.g u.g, p32 v.h u.h⟩

/-- The words behind a block. -/
def comp (v : W8) (b : List UInt8) : W8 := v.plus (rounds v (wordAt b) 64)

/-- The block of words, as it stands ahead of round t. -/
def arr (b : List UInt8) (t : Nat) : List Value := nums .u32 (sched b (t - 16) ++ zeros (48 - (t - 16)))

theorem sched_length (b : List UInt8) (n : Nat) : (sched b n).length = 16 + n := by
  induction n with
  | zero => simp [sched, firsts]
  | succ n ih => simp [sched, ih]; omega

theorem sched_pre (b : List UInt8) (n m : Nat) : ∃ r, sched b (n + m) = sched b n ++ r := by
  induction m with
  | zero => exact ⟨[], by simp⟩
  | succ m ih =>
    obtain ⟨r, hr⟩ := ih
    exact ⟨r ++ [nextWord (sched b (n + m)) (16 + (n + m))], by rw [← Nat.add_assoc, sched, hr]; simp⟩

theorem sched_more (b : List UInt8) (n m t : Nat) (ht : t < 16 + n) : (sched b (n + m)).getD t 0 = (sched b n).getD t 0 := by
  obtain ⟨r, hr⟩ := sched_pre b n m
  have hl := sched_length b n
  rw [hr, List.getD_eq_getElem?_getD, List.getD_eq_getElem?_getD, List.getElem?_append_left (by omega)]

theorem sched_at (b : List UInt8) (n t : Nat) (ht : t < 16 + n) : (sched b n).getD t 0 = wordAt b t := by
  unfold wordAt
  by_cases h : n ≤ t - 15
  · obtain ⟨m, hm⟩ := Nat.exists_eq_add_of_le h
    rw [hm, sched_more b n m t ht]
  · obtain ⟨m, hm⟩ := Nat.exists_eq_add_of_le (Nat.le_of_not_le h)
    rw [hm, sched_more b (t - 15) m t (by omega)]

theorem getD_snoc (l : List Nat) (x k : Nat) (h : l.length = k) : (l ++ [x]).getD k 0 = x := by
  subst h
  rw [List.getD_eq_getElem?_getD, List.getElem?_append_right (Nat.le_refl _), Nat.sub_self]
  rfl

theorem sched_succ (b : List UInt8) (n : Nat) : sched b (n + 1) = sched b n ++ [nextWord (sched b n) (16 + n)] := by rw [sched]

theorem sched_new (b : List UInt8) (n : Nat) : wordAt b (16 + n) = nextWord (sched b n) (16 + n) := by
  have e := getD_snoc (sched b n) (nextWord (sched b n) (16 + n)) (16 + n) (sched_length b n)
  have f := sched_at b (n + 1) (16 + n) (by omega)
  rw [sched_succ] at f
  exact f.symm.trans e

theorem wordAt_next (b : List UInt8) (t : Nat) (h1 : 16 ≤ t) :
    wordAt b t = p32 (p32 (p32 (wordAt b (t - 16)) (s0 (wordAt b (t - 15)))) (wordAt b (t - 7))) (s1 (wordAt b (t - 2))) := by
  obtain ⟨n, rfl⟩ : ∃ n, t = 16 + n := ⟨t - 16, by omega⟩
  rw [sched_new, nextWord, sched_at b n _ (by omega), sched_at b n _ (by omega), sched_at b n _ (by omega), sched_at b n _ (by omega)]

theorem arr_at (b : List UInt8) (t j : Nat) (ht : t ≤ 64) (hj : j < 16 ∨ j < t) : (arr b t)[j]? = some (.int .u32 (wordAt b j : Nat)) := by
  have hl := sched_length b (t - 16)
  unfold arr
  rw [nums_at _ _ (by simp [zeros, hl]; omega), List.getElem_append_left (by omega)]
  rw [← sched_at b (t - 16) j (by omega), List.getD_eq_getElem?_getD, List.getElem?_eq_getElem (by omega)]
  rfl

theorem arr_early (b : List UInt8) (t : Nat) (h : t < 16) : arr b (t + 1) = arr b t := by
  unfold arr
  rw [show t + 1 - 16 = 0 by omega, show t - 16 = 0 by omega]

theorem arr_some (b : List UInt8) (t : Nat) (h1 : 16 ≤ t) (h2 : t < 64) : (arr b t)[t]? = some (.int .u32 0) := by
  have hl := sched_length b (t - 16)
  unfold arr
  rw [nums_at _ _ (by simp [zeros, hl]; omega), List.getElem_append_right (by omega)]
  simp [zeros]

theorem arr_set (b : List UInt8) (t : Nat) (h1 : 16 ≤ t) (h2 : t < 64) : (arr b t).set t (.int .u32 (wordAt b t : Nat)) = arr b (t + 1) := by
  obtain ⟨n, rfl⟩ : ∃ n, t = 16 + n := ⟨t - 16, by omega⟩
  have hl := sched_length b n
  have hw := sched_new b n
  unfold arr
  rw [show 16 + n - 16 = n by omega, show 16 + n + 1 - 16 = n + 1 by omega, hw]
  have z : zeros (48 - n) = 0 :: zeros (48 - (n + 1)) := by
    unfold zeros
    rw [show 48 - n = (48 - (n + 1)) + 1 by omega, List.replicate_succ]
  rw [z, sched_succ]
  unfold nums
  rw [List.map_append, List.set_append_right _ _ (by simp [hl])]
  simp [hl]

theorem turned_7_18 (n g c : Nat) (w : World) (h0 : w.cell? ⟨g, 0, none⟩ = some (.int .i64 7)) (h1 : w.cell? ⟨g, 1, none⟩ = some (.int .i64 18)) :
    Calls Tryd.prog 29 #[.int .u32 n, .slice (some ⟨g, 0, none⟩) 2 c] w fun e w' => e = .returned (.int .u32 (rrs n [7, 18] : Nat)) ∧ w = w' :=
  turned_any n [7, 18] (by simp) (by simp) g c w (fun j h => by
    match j, h with
    | 0, _ => simpa using h0
    | 1, _ => simpa using h1)
theorem turned_17_19 (n g c : Nat) (w : World) (h0 : w.cell? ⟨g, 0, none⟩ = some (.int .i64 17)) (h1 : w.cell? ⟨g, 1, none⟩ = some (.int .i64 19)) :
    Calls Tryd.prog 29 #[.int .u32 n, .slice (some ⟨g, 0, none⟩) 2 c] w fun e w' => e = .returned (.int .u32 (rrs n [17, 19] : Nat)) ∧ w = w' :=
  turned_any n [17, 19] (by simp) (by simp) g c w (fun j h => by
    match j, h with
    | 0, _ => simpa using h0
    | 1, _ => simpa using h1)
theorem turned_6_11_25 (n g c : Nat) (w : World) (h0 : w.cell? ⟨g, 0, none⟩ = some (.int .i64 6)) (h1 : w.cell? ⟨g, 1, none⟩ = some (.int .i64 11)) (h2 : w.cell? ⟨g, 2, none⟩ = some (.int .i64 25)) :
    Calls Tryd.prog 29 #[.int .u32 n, .slice (some ⟨g, 0, none⟩) 3 c] w fun e w' => e = .returned (.int .u32 (rrs n [6, 11, 25] : Nat)) ∧ w = w' :=
  turned_any n [6, 11, 25] (by simp) (by simp) g c w (fun j h => by
    match j, h with
    | 0, _ => simpa using h0
    | 1, _ => simpa using h1
    | 2, _ => simpa using h2)
theorem turned_2_13_22 (n g c : Nat) (w : World) (h0 : w.cell? ⟨g, 0, none⟩ = some (.int .i64 2)) (h1 : w.cell? ⟨g, 1, none⟩ = some (.int .i64 13)) (h2 : w.cell? ⟨g, 2, none⟩ = some (.int .i64 22)) :
    Calls Tryd.prog 29 #[.int .u32 n, .slice (some ⟨g, 0, none⟩) 3 c] w fun e w' => e = .returned (.int .u32 (rrs n [2, 13, 22] : Nat)) ∧ w = w' :=
  turned_any n [2, 13, 22] (by simp) (by simp) g c w (fun j h => by
    match j, h with
    | 0, _ => simpa using h0
    | 1, _ => simpa using h1
    | 2, _ => simpa using h2)

/-- A sum's bytes, the highest one of each word first. -/
def outs (v : W8) (n : Nat) : List Nat := (List.range n).map fun i => r32 ([v.a, v.b, v.c, v.d, v.e, v.f, v.g, v.h].getD (i / 4) 0) (24 - i % 4 * 8) % 256

theorem outs_length (v : W8) (n : Nat) : (outs v n).length = n := by simp [outs]

theorem outs_at (v : W8) (i : Nat) (h : i < 32) : (nums .u8 (outs v i ++ zeros (32 - i)))[i]? = some (.int .u8 0) := by
  rw [nums_at _ _ (by simp [zeros, outs_length]; omega), List.getElem_append_right (by rw [outs_length]; omega)]
  simp [zeros]

theorem outs_set (v : W8) (i : Nat) (h : i < 32) :
    (nums .u8 (outs v i ++ zeros (32 - i))).set i (.int .u8 ((r32 ([v.a, v.b, v.c, v.d, v.e, v.f, v.g, v.h].getD (i / 4) 0) (24 - i % 4 * 8) % 256 : Nat) : Int)) = nums .u8 (outs v (i + 1) ++ zeros (32 - (i + 1))) := by
  have z : zeros (32 - i) = 0 :: zeros (32 - (i + 1)) := by
    unfold zeros
    rw [show 32 - i = (32 - (i + 1)) + 1 by omega, List.replicate_succ]
  have f : outs v (i + 1) = outs v i ++ [r32 ([v.a, v.b, v.c, v.d, v.e, v.f, v.g, v.h].getD (i / 4) 0) (24 - i % 4 * 8) % 256] := by simp [outs, List.range_succ]
  rw [z, f]
  unfold nums
  rw [List.map_append, List.set_append_right _ _ (by simp [outs_length])]
  simp [outs_length]

end Go.Proofs.YtanjebmpjenmiaaDoor
