/- Slices of texts in memory; what blackboxref09.Few and Same tell of them. -/
import Derived.Test.YthhcopeejhhpgaaDoorBase
import Derived.Test.YthhcopeejhhpgaaDoorMemory
import Derived.BigQuiet
import Derived.WalkSmall
namespace Go.Proofs.YthhcopeejhhpgaaDoor
open Go.RowKit

/-- A slice of texts in memory, a nil one too. -/
structure StSl (W : World) (A : Option Addr) (l : List (List UInt8)) : Prop where
  out : 0 < l.length → ∃ g o, A = some ⟨g, o, none⟩ ∧ ∀ (i : Nat) (s : List UInt8), l[i]? = some s → W.cell? ⟨g, o + i, none⟩ = some (.string ⟨s.toArray⟩)

theorem StSl.up {W W' : World} {A : Option Addr} {l : List (List UInt8)} (h : StSl W A l) (b : Below W.heap.size W W') : StSl W' A l := by
  refine ⟨fun hl => ?_⟩
  obtain ⟨g, o, hA, hc⟩ := h.out hl
  refine ⟨g, o, hA, fun i x hx => ?_⟩
  have h1 := hc i x hx
  exact (World.cell?_of_block (b.block g (World.block_lt_of_cell? W _ h1))).trans h1

theorem StSl.drop {W : World} {g o k : Nat} {l : List (List UInt8)} (h : StSl W (some ⟨g, o, none⟩) l) : StSl W (some ⟨g, o + k, none⟩) (l.drop k) := by
  refine ⟨fun hl => ?_⟩
  rw [List.length_drop] at hl
  obtain ⟨g', o', hA, hc⟩ := h.out (by omega)
  injection hA with hA
  injection hA with h1 h2
  subst h1 h2
  refine ⟨g, o + k, rfl, fun i s hs => ?_⟩
  rw [List.getElem?_drop] at hs
  have := hc (k + i) s hs
  rwa [← Nat.add_assoc] at this
theorem StSl.take {W : World} {A : Option Addr} {k : Nat} {l : List (List UInt8)} (h : StSl W A l) : StSl W A (l.take k) := by
  refine ⟨fun hl => ?_⟩
  rw [List.length_take] at hl
  obtain ⟨g, o, hA, hc⟩ := h.out (by omega)
  refine ⟨g, o, hA, fun i s hs => ?_⟩
  rw [List.getElem?_take] at hs
  split at hs
  · exact hc i s hs
  · cases hs

/-- How long texts are, all together. -/
def tot (l : List (List UInt8)) : Nat := (l.map fun s => min s.length 100000).sum
def fewL (l : List (List UInt8)) : Bool := decide (l.length ≤ 40) && decide (tot l ≤ 40000)
theorem fewL_yes {l : List (List UInt8)} (h : fewL l = true) : l.length ≤ 40 ∧ tot l ≤ 40000 := by simpa [fewL] using h
theorem tot_mem {l : List (List UInt8)} {s : List UInt8} (h : s ∈ l) : min s.length 100000 ≤ tot l := by
  induction l with
  | nil => cases h
  | cons x l ih =>
    show _ ≤ min x.length 100000 + tot l
    rcases List.mem_cons.1 h with rfl | h
    · omega
    · have := ih h; omega
theorem fewL_len {l : List (List UInt8)} (h : fewL l = true) {s : List UInt8} (hs : s ∈ l) : s.length ≤ 40000 := by
  have h1 := (fewL_yes h).2
  have h2 := tot_mem hs
  omega
theorem tot_take {l : List (List UInt8)} {k : Nat} (h : k < l.length) : tot (l.take (k + 1)) = tot (l.take k) + min l[k].length 100000 := by
  unfold tot
  rw [List.take_succ_eq_append_getElem h, List.map_append, List.sum_append]
  simp only [List.map_cons, List.map_nil, List.sum_cons, List.sum_nil, Nat.add_zero]
theorem tot_le (l : List (List UInt8)) : tot l ≤ 100000 * l.length := by
  induction l with
  | nil => exact Nat.le_refl _
  | cons x l ih =>
    show min x.length 100000 + tot l ≤ _
    rw [List.length_cons]
    omega

theorem min_lim (n : Nat) (W : World) : (Builtin.min_ #[3, 3] 3 #[.int .i64 (n : Int), .int .i64 100000]).run Tryd.prog W = .ok (.int .i64 ((min n 100000 : Nat) : Int)) W := by
  have h2 : (if (100000 : Int) < (n : Int) then (100000 : Int) else (n : Int)) = ((min n 100000 : Nat) : Int) := by
    split <;> omega
  simp [Builtin.min_, Builtin.min2, h2]

set_option maxHeartbeats 1000000 in
set_option maxRecDepth 100000 in
/-- Few: are texts few, and short? -/
theorem few_any (A : Option Addr) (l : List (List UInt8)) (n c : Nat) (hn : n = l.length) (hl : l.length ≤ 9223372036854775807) (w : World) (hA : StSl w A l) :
    Calls Tryd.prog 13 #[.slice A n c] w fun e w' => e = .returned (.bool (fewL l)) ∧ w' = w := by
  have HA := Lib.hid hA
  have HN := Lib.hid hn
  by_cases h40 : n ≤ 40
  · have h40' : (n : Int) ≤ 40 := by omega
    have hmin := min_lim
    clear hA hl
    go_enter Tryd.func13, Tryd.ntmps13
    go_wp2_with fail
    go_loopw [3, 4] (fun v i wr => ∃ k : Nat, k ≤ n ∧ v = .int .i64 (tot (l.take k) : Nat) ∧ i = .int .i64 (k : Nat) ∧ wr = w) (fun _ i _ => n - (intOf i).toNat)
    case atStart => exact ⟨0, Nat.zero_le _, rfl, rfl, rfl⟩
    case round =>
      obtain ⟨k, hk, rfl, rfl, rfl⟩ := hrel
      have hb := tot_le (l.take k)
      rw [List.length_take] at hb
      by_cases hlt : k < n
      · have hkl : k < l.length := by rw [← HN.out]; exact hlt
        obtain ⟨g, o, hAe, hc⟩ := HA.out.out (by omega)
        subst hAe
        have cc := hc k l[k] (List.getElem?_eq_getElem hkl)
        have hs : (⟨l[k].toArray⟩ : ByteArray).size = l[k].length := text_list _
        have ht := Lib.hid (tot_take hkl)
        have klt : (k : Int) < (n : Int) := by omega
        have hmk := hmin l[k].length
        generalize l[k] = s at *
        obtain ⟨m, hm⟩ : ∃ m, m = min s.length 100000 := ⟨_, rfl⟩
        rw [← hm] at ht hmk
        have hm2 : m ≤ 100000 := by omega
        have ht0 : tot (l.take k) ≤ 4000000 := by omega
        generalize tot (l.take k) = t0 at *
        clear hm hc hb hmin
        go_wp2_with fail
        go_roundw
        case rel => exact ⟨k + 1, by omega, by rw [ht.out]; go_num, by go_num, trivial⟩
        case measure => simp [intOf]; omega
      · obtain rfl : k = n := by omega
        have e : l.take k = l := List.take_of_length_le (by rw [HN.out]; exact Nat.le_refl _)
        rw [e] at hb ⊢
        have ht0 : tot l ≤ 4000000 := by have := HN.out; omega
        have hf : Hid (fewL l = decide (tot l ≤ 40000)) := Lib.hid <| by unfold fewL; rw [decide_eq_true (show l.length ≤ 40 by rw [← HN.out]; exact h40)]; simp
        generalize tot l = t0 at *
        clear hb e
        by_cases h4 : t0 ≤ 40000
        · have h4' : (t0 : Int) ≤ 40000 := by omega
          have hd : Hid (decide (t0 ≤ 40000) = true) := Lib.hid (decide_eq_true h4)
          go_wp2_with fail
          go_ret
          exact ⟨by rw [hf.out, hd.out]; rfl, rfl⟩
        · have h4' : ¬ (t0 : Int) ≤ 40000 := by omega
          have hd : Hid (decide (t0 ≤ 40000) = false) := Lib.hid (decide_eq_false h4)
          go_wp2_with fail
          go_ret
          exact ⟨by rw [hf.out, hd.out]; rfl, rfl⟩
  · have h40' : ¬ (n : Int) ≤ 40 := by omega
    have hf : fewL l = false := by unfold fewL; rw [decide_eq_false (show ¬ l.length ≤ 40 by rw [← hn]; exact h40)]; rfl
    rw [hf]
    have hn0 : (0 : Int) < (n : Int) := by omega
    clear hf hA hl
    go_enter Tryd.func13, Tryd.ntmps13
    go_wp2_with fail
    go_loopw [3, 4] (fun v i wr => v = .int .i64 0 ∧ i = .int .i64 0 ∧ wr = w) (fun _ _ _ => 0)
    case atStart => exact ⟨rfl, rfl, rfl⟩
    case round =>
      obtain ⟨rfl, rfl, rfl⟩ := hrel
      go_wp2_with fail
      go_ret
      exact ⟨rfl, rfl⟩

/-- Same: are two rows the same? -/
theorem same9_any (A A' : Option Addr) (l m : List (List UInt8)) (n n' c c' : Nat) (hn : n = l.length) (hn' : n' = m.length) (hl : l.length ≤ 9223372036854775807) (w : World) (hA : StSl w A l) (hA' : StSl w A' m) :
    Calls Tryd.prog 22 #[.slice A n c, .slice A' n' c'] w fun e w' => e = .returned (.bool (decide (l = m))) ∧ Below w.heap.size w w' := by
  by_cases hne : n = n'
  · subst hne
    have HA := Lib.hid hA
    have HA' := Lib.hid hA'
    have HN := Lib.hid hn
    have HN' := Lib.hid hn'
    have hb : n ≤ 9223372036854775807 := by omega
    clear hA hA' hn hn' hl
    go_enter Tryd.func22, Tryd.ntmps22
    go_wp2_with fail
    go_loopw [5] (fun i wr => ∃ k : Nat, k ≤ n ∧ i = .int .i64 (k : Nat) ∧ Hid (l.take k = m.take k) ∧ Hid (Below w.heap.size w wr)) (fun i _ => n - (intOf i).toNat)
    case atStart => exact ⟨0, Nat.zero_le _, rfl, Lib.hid rfl, Lib.hid (Below.refl _ _)⟩
    case round =>
      obtain ⟨k, hk, rfl, HE, HB⟩ := hrel
      by_cases hlt : k < n
      · have hkl : k < l.length := by rw [← HN.out]; exact hlt
        have hkm : k < m.length := by rw [← HN'.out]; exact hlt
        obtain ⟨g, o, hAe, hc⟩ := (HA.out.up HB.out).out (by omega)
        obtain ⟨g', o', hAe', hc'⟩ := (HA'.out.up HB.out).out (by omega)
        subst hAe hAe'
        have cc := hc k l[k] (List.getElem?_eq_getElem hkl)
        have cc' := hc' k m[k] (List.getElem?_eq_getElem hkm)
        have T1 := Lib.hid (List.take_succ_eq_append_getElem hkl)
        have T2 := Lib.hid (List.take_succ_eq_append_getElem hkm)
        have G1 := Lib.hid (List.getElem?_eq_getElem hkl)
        have G2 := Lib.hid (List.getElem?_eq_getElem hkm)
        have klt : (k : Int) < (n : Int) := by omega
        clear hc hc'
        generalize l[k] = s at *
        generalize m[k] = s' at *
        by_cases hs : s = s'
        · subst hs
          go_wp2_with fail
          go_quiet (fail)
          go_wp2_with fail
          go_roundw
          case rel => exact ⟨k + 1, by omega, by go_num, Lib.hid (by rw [T1.out, T2.out, HE.out]), Lib.hid (below_drewN HB.out nq)⟩
          case measure => simp [intOf]; omega
        · have hsn : (s == s') = false := beq_eq_false_iff_ne.2 hs
          have HNE := Lib.hid (show decide (l = m) = false by
            apply decide_eq_false
            intro e
            subst e
            exact hs (Option.some.inj (G1.out.symm.trans G2.out)))
          clear hs
          go_wp2_with fail
          go_quiet (fail)
          go_wp2_with fail
          go_ret
          exact ⟨by rw [HNE.out]; rfl, below_drewN HB.out nq⟩
      · obtain rfl : k = n := by omega
        have HEQ := Lib.hid (show decide (l = m) = true by
          apply decide_eq_true
          have := HE.out
          rwa [List.take_of_length_le (by rw [HN.out]; exact Nat.le_refl _), List.take_of_length_le (by rw [HN'.out]; exact Nat.le_refl _)] at this)
        go_wp2_with fail
        go_ret
        exact ⟨by rw [HEQ.out]; rfl, HB.out⟩
  · have HNE := Lib.hid (show decide (l = m) = false by
      apply decide_eq_false
      intro e
      subst e
      exact hne (hn.trans hn'.symm))
    have e1 : ((n : Int) == (n' : Int)) = false := by simp; omega
    have e2 : ((n : Int) != (n' : Int)) = true := by simp; omega
    clear hne hA hA' hn hn' hl
    go_enter Tryd.func22, Tryd.ntmps22
    go_wp2_with fail
    go_ret
    exact ⟨by rw [HNE.out]; rfl, Below.refl _ _⟩

end Go.Proofs.YthhcopeejhhpgaaDoor
