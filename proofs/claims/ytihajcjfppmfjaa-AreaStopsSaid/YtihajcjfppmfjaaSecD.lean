/- A disk's Read. -/
import Derived.Test.YtihajcjfppmfjaaSecC
namespace Go.Proofs.Ytihajcjfppmfjaa
open Go.RowKit Sec

theorem mul_in {m n k : Nat} (hk : k < m) (hm : m ≤ 4096) (hn : n ≤ 1024) : k * n + n ≤ 4194304 := by
  have h1 := room (n := n) hk
  have h2 : m * n ≤ 4096 * 1024 := Nat.mul_le_mul hm hn
  omega

set_option maxHeartbeats 1000000 in
/-- A Read of a sector that is pending. -/
theorem read_late (d _gl gt _n m k r : Nat) (_v : Value) (b : List UInt8) (hb : 0 < b.length) (hr : r = 0) (hk : k < m) (w : World)
    (C : Calls Try.prog 29 #[dp d, .int .i64 (k : Nat)] w fun e w' => e = .returned (.int .i64 (r : Nat)) ∧ w = w')
    (Q : World → Prop) (N : Calls Try.prog 26 #[dp d] w fun e w' => e = .returned (.tuple #[]) ∧ Q w')
    (h3 : ∀ w1, Q w1 → w1.cell? ⟨d, 3, none⟩ = some (.slice (some ⟨gt, 0, none⟩) m m)) (h4 : ∀ w1, Q w1 → w1.cell? ⟨gt, k, none⟩ = some (.string ⟨b.toArray⟩)) :
    Calls Try.prog 18 #[dp d, .int .i64 (k : Nat)] w fun e w' => e = .returned (.tuple #[.string ⟨b.toArray⟩, .int .i64 0]) ∧ Q w' := by
  subst hr
  have z : b.isEmpty = false := by cases b with
    | nil => simp at hb
    | cons => rfl
  have z2 : (!b.isEmpty) = true := by rw [z]; rfl
  have k1 : (k : Int) < (m : Int) := by omega
  have K := Lib.hid C
  have L := Lib.hid N
  have H3 := Lib.hid h3
  have H4 := Lib.hid h4
  clear C N h3 h4
  go_enter Try.func18, Try.ntmps18
  go_wp2_with fail
  refine K.out.mono ?_; rintro e w1 ⟨rfl, rfl⟩
  go_wp2_with fail
  refine L.out.mono ?_; rintro e w1 ⟨rfl, q⟩
  have h3 := H3.out _ q
  have h4 := H4.out _ q
  go_wp2_with fail
  go_ret2
  exact ⟨rfl, q⟩

set_option maxHeartbeats 1000000 in
/-- .. of one that is not. -/
theorem read_lasts (d gl gt n m k q N r : Nat) (b l : List UInt8) (hb : b.length = 0) (hr : r = 0) (hk : k < m) (hq : k * n = q) (hn : q + n ≤ N) (h0 : 0 < n) (hN : N ≤ 16777216) (hl : l.length = n) (w : World)
    (C : Calls Try.prog 29 #[dp d, .int .i64 (k : Nat)] w fun e w' => e = .returned (.int .i64 (r : Nat)) ∧ w = w')
    (Q : World → Prop) (hQ : ∀ w1, Q w1 → Q w1.drew) (N' : Calls Try.prog 26 #[dp d] w fun e w' => e = .returned (.tuple #[]) ∧ Q w')
    (h0' : ∀ w1, Q w1 → w1.cell? ⟨d, 0, none⟩ = some (.int .i64 (n : Nat))) (h1 : ∀ w1, Q w1 → w1.cell? ⟨d, 1, none⟩ = some (.slice (some ⟨gl, 0, none⟩) N N))
    (h3 : ∀ w1, Q w1 → w1.cell? ⟨d, 3, none⟩ = some (.slice (some ⟨gt, 0, none⟩) m m)) (h4 : ∀ w1, Q w1 → w1.cell? ⟨gt, k, none⟩ = some (.string ⟨b.toArray⟩)) (h5 : ∀ w1, Q w1 → w1.rangeAt gl q (bys l)) :
    Calls Try.prog 18 #[dp d, .int .i64 (k : Nat)] w fun e w' => e = .returned (.tuple #[.string ⟨l.toArray⟩, .int .i64 0]) ∧ Q w' := by
  subst hr
  obtain rfl : b = [] := List.length_eq_zero_iff.1 hb
  have k1 : (k : Int) < (m : Int) := by omega
  have hq' : (k : Int) * (n : Int) = (q : Int) := by rw [← hq]; simp
  have hw1 : wrap64 ((k : Int) * (n : Int)) = (q : Int) := by rw [hq']; exact IntWalk.wrap64_in _ ⟨by omega, by omega⟩
  have hw2 : IntKind.i64.wrap ((q : Int) + (n : Int)) = (q : Int) + (n : Int) := IntWalk.i64_in _ (by omega)
  have k2 : (q : Int) + (n : Int) ≤ (N : Int) := by omega
  have k3 : (q : Int) ≤ (q : Int) + (n : Int) := by omega
  have k4 : ¬ (N = q) := by omega
  have k5 : ((q : Int) + (n : Int)).toNat = q + n := by omega
  have k6 : q + n - q = n := by omega
  have k7 : (0 : Int) ≤ (q : Int) + (n : Int) := by omega
  have H5 := Lib.hid (fun w1 h => hl ▸ bytes_text w1 gl q (N - q) l (h5 w1 h))
  have K := Lib.hid C
  have L := Lib.hid N'
  have H0 := Lib.hid h0'
  have H1 := Lib.hid h1
  have H3 := Lib.hid h3
  have H4 := Lib.hid h4
  have HQ := Lib.hid hQ
  clear C N' h0' h1 h3 h4 h5 hl hb hQ hq
  go_enter Try.func18, Try.ntmps18
  go_wp2_with fail
  refine K.out.mono ?_; rintro e w1 ⟨rfl, rfl⟩
  go_wp2_with fail
  refine L.out.mono ?_; rintro e w1 ⟨rfl, q1⟩
  have h0 := H0.out _ q1
  have h1 := H1.out _ q1
  have h3 := H3.out _ q1
  have h4 := H4.out _ q1
  have h5 := H5.out _ (HQ.out _ q1)
  go_wp2_with fail
  go_still_tail 12, (by kernel_rfl)
  change wpList _ _ _ _ _ w1.drew
  go_wp2_with fail
  go_ret2
  exact ⟨rfl, HQ.out _ q1⟩

end Go.Proofs.Ytihajcjfppmfjaa
