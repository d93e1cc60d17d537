/- A block's words behind it, in an order that the kernel works out quickly. -/
import Derived.Test.YthhcopeejhhpgaaDoorSums
namespace Go.Proofs.YthhcopeejhhpgaaDoor
open Go.RowKit Word

/-- k, at a number that is worked out first. -/
def forceN {α : Type} (n : Nat) (k : Nat → α) : α := Nat.rec (motive := fun _ => α) (k 0) (fun m _ => k (m + 1)) n
theorem forceN_eq {α : Type} (n : Nat) (k : Nat → α) : forceN n k = k n := by cases n <;> rfl

/-- The words, the last one first. -/
def fnext (l : List Nat) : Nat := p32 (p32 (p32 (l.getD 15 0) (s0 (l.getD 14 0))) (l.getD 6 0)) (s1 (l.getD 1 0))
def fsched : Nat → List Nat → List Nat
  | 0, l => l
  | n + 1, l => forceN (fnext l) fun x => fsched n (x :: l)

theorem rev_getD (l : List Nat) (i : Nat) (h : i < l.length) : l.reverse.getD i 0 = l.getD (l.length - 1 - i) 0 := by
  rw [List.getD_eq_getElem?_getD, List.getD_eq_getElem?_getD, List.getElem?_reverse h]

theorem fnext_rev (b : List UInt8) (n : Nat) : fnext (sched b n).reverse = nextWord (sched b n) (16 + n) := by
  have hl := sched_length b n
  unfold fnext nextWord
  rw [rev_getD _ 15 (by omega), rev_getD _ 14 (by omega), rev_getD _ 6 (by omega), rev_getD _ 1 (by omega), hl]
  rw [show 16 + n - 1 - 15 = 16 + n - 16 by omega, show 16 + n - 1 - 14 = 16 + n - 15 by omega, show 16 + n - 1 - 6 = 16 + n - 7 by omega, show 16 + n - 1 - 1 = 16 + n - 2 by omega]

theorem fsched_eq (b : List UInt8) : ∀ k n, fsched k (sched b n).reverse = (sched b (n + k)).reverse
  | 0, n => rfl
  | k + 1, n => by
    rw [fsched, forceN_eq, fnext_rev]
    have : nextWord (sched b n) (16 + n) :: (sched b n).reverse = (sched b (n + 1)).reverse := by rw [sched_succ]; simp
    rw [this, fsched_eq b k (n + 1), show n + 1 + k = n + (k + 1) by omega]

/-- The rounds, each over its constant and word. -/
def fr : List (Nat × Nat) → Nat → Nat → Nat → Nat → Nat → Nat → Nat → Nat → W8
  | [], a, b, c, d, e, f, g, h => ⟨a, b, c, d, e, f, g, h⟩
  | p :: l, a, b, c, d, e, f, g, h =>
    forceN (p32 (p32 (p32 (p32 h (rrs e [6, 11, 25])) (x32 (a32 e f) (a32 (n32 e) g))) p.1) p.2) fun one =>
    forceN (p32 one (p32 (rrs a [2, 13, 22]) (x32 (x32 (a32 a b) (a32 a c)) (a32 b c)))) fun a' =>
    forceN (p32 d one) fun e' => fr l a' a b c e' e f g

theorem fr_eq : ∀ (l : List (Nat × Nat)) (a b c d e f g h : Nat), fr l a b c d e f g h = l.foldl (fun v p => rnd v p.1 p.2) ⟨a, b, c, d, e, f, g, h⟩
  | [], _, _, _, _, _, _, _, _ => rfl
  | p :: l, a, b, c, d, e, f, g, h => by
    rw [fr, forceN_eq, forceN_eq, forceN_eq, fr_eq l, List.foldl_cons]
    rfl

theorem rounds_fold (v : W8) (wd : Nat → Nat) (n : Nat) : rounds v wd n = ((List.range n).map fun t => (kc t, wd t)).foldl (fun v p => rnd v p.1 p.2) v := by
  induction n with
  | zero => rfl
  | succ n ih => rw [rounds, ih, List.range_succ, List.map_append, List.foldl_append]; rfl

def kcs : List Nat := (List.range 64).map kc

/-- The words behind a block, worked out in order. -/
def fcomp (v : W8) (b : List UInt8) : W8 := v.plus (fr (kcs.zip (fsched 48 (firsts b 16).reverse).reverse) v.a v.b v.c v.d v.e v.f v.g v.h)

theorem fcomp_eq (v : W8) (b : List UInt8) : fcomp v b = comp v b := by
  unfold fcomp comp
  rw [fr_eq, rounds_fold]
  have h1 : fsched 48 (firsts b 16).reverse = (sched b 48).reverse := by
    have := fsched_eq b 48 0
    rw [Nat.zero_add] at this
    exact this
  have h2 : kcs.zip (sched b 48) = (List.range 64).map fun t => (kc t, wordAt b t) := by
    have hl := sched_length b 48
    apply List.ext_getElem
    · simp [kcs, hl]
    · intro i h3 h4
      have hi : i < 64 := by simpa using h4
      have := sched_at b 48 i (by omega)
      rw [List.getD_eq_getElem?_getD, List.getElem?_eq_getElem (by omega)] at this
      simp [kcs]
      exact this
  rw [h1, List.reverse_reverse, h2]

end Go.Proofs.YthhcopeejhhpgaaDoor
