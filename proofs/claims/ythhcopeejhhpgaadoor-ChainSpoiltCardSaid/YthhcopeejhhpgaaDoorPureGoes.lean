/- Rows of batches that are linked are checked. -/
import Derived.Test.YthhcopeejhhpgaaDoorPureChain
namespace Go.Proofs.YthhcopeejhhpgaaDoor.Chn
open Wire Evt Bat

/-- A row's texts: so many events each, each batch linked to the sum of the one ahead. -/
def rws (H : List UInt8 → List UInt8) (a : List UInt8) (evs : List Ev) : List Int → List (List UInt8)
  | [] => []
  | z :: zs => if evs = [] then [] else
    if isB (headSeq (evs.take (min (max z 1).toNat evs.length))) (evs.take (min (max z 1).toNat evs.length)) = true then
      whole (lnk a (evs.take (min (max z 1).toNat evs.length))) :: rws H (H (whole (lnk a (evs.take (min (max z 1).toNat evs.length))))) (evs.drop (min (max z 1).toNat evs.length)) zs
    else []

theorem from_seq : ∀ (l : List Ev) (p i : Nat) {x : Ev}, runFrom (some p) l = true → l[i]? = some x → x.seq = p + 1 + i
  | [], _, _, _, _, h => by simp at h
  | y :: l, p, 0, x, hr, h => by
    rw [runFrom] at hr
    simp only [Bool.and_eq_true] at hr
    simp at h
    subst h
    exact on_yes.1 hr.1.2
  | y :: l, p, i + 1, x, hr, h => by
    rw [runFrom] at hr
    simp only [Bool.and_eq_true] at hr
    have e := on_yes.1 hr.1.2
    have := from_seq l y.seq i hr.2 (by simpa using h)
    omega

theorem run_seq {l : List Ev} (h : runL l = true) {i : Nat} {x : Ev} (hx : l[i]? = some x) : x.seq = headSeq l + i := by
  match l, i with
  | [], _ => simp at hx
  | y :: l, 0 => simp at hx; subst hx; rfl
  | y :: l, i + 1 =>
    rw [runL, runFrom] at h
    simp only [Bool.and_eq_true] at h
    have := from_seq l y.seq i h.2 (by simpa using hx)
    show x.seq = y.seq + (i + 1)
    omega

theorem run_take_ok {l : List Ev} (h : runL l = true) (n : Nat) : runL (l.take n) = true := by
  cases h' : runL (l.take n) with
  | true => rfl
  | false => rw [run_stop h'] at h; cases h

theorem run_drop_ok {l : List Ev} (h : runL l = true) (n : Nat) : runL (l.drop n) = true := by
  have e : l = l.take n ++ l.drop n := (List.take_append_drop n l).symm
  rw [e, runL, runFrom_append] at h
  simp only [Bool.and_eq_true] at h
  cases hd : l.drop n with
  | nil => rfl
  | cons x m =>
    have h2 := h.2
    rw [hd] at h2
    cases hl : lastOf none (l.take n) with
    | none => rw [hl] at h2; exact h2
    | some q =>
      rw [hl, runFrom_some] at h2
      simp only [Bool.and_eq_true] at h2
      exact h2.1

theorem head_take {l : List Ev} {n : Nat} (h : 0 < n) : headSeq (l.take n) = headSeq l := by
  obtain ⟨k, rfl⟩ : ∃ k, n = k + 1 := ⟨n - 1, by omega⟩
  cases l <;> rfl

theorem head_drop {l : List Ev} {n : Nat} (h : runL l = true) (hd : l.drop n ≠ []) : headSeq (l.drop n) = headSeq l + n ∧ ∃ x, x ∈ l ∧ x.seq = headSeq l + n := by
  cases hx : l.drop n with
  | nil => exact absurd hx hd
  | cons x m =>
    have h1 : l[n]? = some x := by
      have := List.getElem?_drop (xs := l) (i := n) (j := 0)
      rw [hx] at this
      simpa using this.symm
    have h2 := run_seq h h1
    exact ⟨h2, x, List.mem_of_getElem? h1, h2⟩

variable {H : List UInt8 → List UInt8}

theorem goes (hH : ∀ t, (H t).length = 32) : ∀ (zs : List Int) (evs : List Ev) (acc : List Ev) (a : List UInt8) (f : Nat), runL evs = true → (∀ x ∈ evs, x.seq < 18446744073709551616) → evs.length ≤ 256 → a.length = 32 → (evs ≠ [] → f = headSeq evs) →
    (run H (rws H a evs zs) ⟨acc, a, f⟩).2 = 0 ∧ ∃ k, k ≤ evs.length ∧ (run H (rws H a evs zs) ⟨acc, a, f⟩).1.acc = acc ++ evs.take k
  | [], evs, acc, a, f, _, _, _, _, _ => ⟨rfl, 0, Nat.zero_le _, by rw [List.take_zero, List.append_nil]; rfl⟩
  | z :: zs, evs, acc, a, f, hr, hs, hl, ha, hf => by
    rw [rws]
    by_cases he : evs = []
    · rw [if_pos he]
      exact ⟨rfl, 0, Nat.zero_le _, by rw [List.take_zero, List.append_nil]; rfl⟩
    · rw [if_neg he]
      have hpos : 0 < evs.length := List.length_pos_iff.2 he
      have hn : 0 < min (max z 1).toNat evs.length := by omega
      have hn2 : min (max z 1).toNat evs.length ≤ evs.length := Nat.min_le_right _ _
      generalize min (max z 1).toNat evs.length = n at *
      have hcl : (evs.take n).length = n := by rw [List.length_take]; omega
      have hB : isB (headSeq (evs.take n)) (evs.take n) = true := isB_yes.2 ⟨by omega, by omega, rfl, run_take_ok hr n⟩
      rw [if_pos hB]
      have hh := hf he
      have h64 : headSeq evs < 18446744073709551616 := by
        cases evs with
        | nil => exact absurd rfl he
        | cons x m => exact hs x (by simp)
      have fit : (lnk a (evs.take n)).Fits := ⟨by show headSeq (evs.take n) < _; rw [head_take hn]; exact h64, ha, fun x hx => hs x (List.mem_of_mem_take hx)⟩
      have g := gotB_put fit hB []
      rw [List.append_nil] at g
      have he0 : er ⟨acc, a, f⟩ (whole (lnk a (evs.take n))) = 0 := er_of g rfl (by show headSeq (evs.take n) = f; rw [head_take hn, hh])
      have hnx : nx H ⟨acc, a, f⟩ (whole (lnk a (evs.take n))) = ⟨acc ++ evs.take n, H (whole (lnk a (evs.take n))), (headSeq evs + n) % 18446744073709551616⟩ := by
        unfold nx
        rw [g]
        show (⟨acc ++ evs.take n, _, (headSeq (evs.take n) + (evs.take n).length) % _⟩ : Cs) = _
        rw [head_take hn, hcl]
      rw [run, if_neg (by simpa using he0), hnx]
      have ih := goes hH zs (evs.drop n) (acc ++ evs.take n) (H (whole (lnk a (evs.take n)))) ((headSeq evs + n) % 18446744073709551616) (run_drop_ok hr n) (fun x hx => hs x (List.mem_of_mem_drop hx)) (by rw [List.length_drop]; omega) (hH _) (fun hd => by
        obtain ⟨e1, x, hx, e2⟩ := head_drop hr hd
        rw [e1]
        have := hs x hx
        omega)
      obtain ⟨e1, k, hk, e2⟩ := ih
      refine ⟨e1, n + k, by rw [List.length_drop] at hk; omega, ?_⟩
      rw [e2, List.append_assoc, List.take_add]

/-- The sum that a row comes to. -/
theorem run_last {l : List (List UInt8)} {s : List UInt8} {c : Cs} (h : (run H (l ++ [s]) c).2 = 0) : (run H (l ++ [s]) c).1.a = H s := by
  have hr' : (run H l c).2 = 0 := by
    rw [run_append] at h
    split at h
    · next h1 => exact absurd h h1
    · next h1 => omega
  rw [run_snoc hr'] at h ⊢
  split at h
  · next h1 => exact absurd h h1
  · next h1 => rw [if_neg h1]; rfl

/-- A row's two pieces. -/
theorem run_parts {l : List (List UInt8)} {a : List UInt8} {f : Nat} (hf : f < 18446744073709551616) (h : (run H l ⟨[], a, f⟩).2 = 0) (k : Nat) :
    (run H (l.take k) ⟨[], a, f⟩).2 = 0 ∧
    (run H (l.drop k) ⟨[], (run H (l.take k) ⟨[], a, f⟩).1.a, (f + (run H (l.take k) ⟨[], a, f⟩).1.acc.length) % 18446744073709551616⟩).2 = 0 ∧
    (run H (l.drop k) ⟨[], (run H (l.take k) ⟨[], a, f⟩).1.a, (f + (run H (l.take k) ⟨[], a, f⟩).1.acc.length) % 18446744073709551616⟩).1.a = (run H l ⟨[], a, f⟩).1.a ∧
    (run H l ⟨[], a, f⟩).1.acc = (run H (l.take k) ⟨[], a, f⟩).1.acc ++ (run H (l.drop k) ⟨[], (run H (l.take k) ⟨[], a, f⟩).1.a, (f + (run H (l.take k) ⟨[], a, f⟩).1.acc.length) % 18446744073709551616⟩).1.acc := by
  have e := run_append (H := H) (l.take k) (l.drop k) ⟨[], a, f⟩
  rw [List.take_append_drop] at e
  have h1 : (run H (l.take k) ⟨[], a, f⟩).2 = 0 := by
    rw [e] at h
    split at h
    · next h2 => exact absurd h h2
    · next h2 => omega
  obtain ⟨n, e1, e2, _, _⟩ := run_num (c := ⟨[], a, f⟩) hf h1
  rw [if_neg (by simpa using h1)] at e
  have hn : (run H (l.take k) ⟨[], a, f⟩).1.acc.length = n := by rw [e2]; simp
  have hst : (run H (l.take k) ⟨[], a, f⟩).1 = ⟨(run H (l.take k) ⟨[], a, f⟩).1.acc, (run H (l.take k) ⟨[], a, f⟩).1.a, (f + (run H (l.take k) ⟨[], a, f⟩).1.acc.length) % 18446744073709551616⟩ := by
    rw [hn, ← e1]
  have e3 := run_acc (H := H) (l.drop k) (run H (l.take k) ⟨[], a, f⟩).1.acc (run H (l.take k) ⟨[], a, f⟩).1.a ((f + (run H (l.take k) ⟨[], a, f⟩).1.acc.length) % 18446744073709551616)
  rw [hst, e3] at e
  refine ⟨h1, ?_, ?_, ?_⟩
  · rw [e] at h; exact h
  · rw [e]
  · rw [e]

end Go.Proofs.YthhcopeejhhpgaaDoor.Chn
