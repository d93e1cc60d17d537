/- Batches that tell the sum of the one ahead: the plain functions, by any sum H; two rows that come to one sum. -/
import Derived.Test.YthhcopeejhhpgaaDoorPureBats
namespace Go.Proofs.YthhcopeejhhpgaaDoor.Chn
open Wire Evt Bat

def z32 : List UInt8 := List.replicate 32 0

/-- How far a check has got: the events so far, the sum that is to come, and the number. -/
structure Cs where
  acc : List Ev
  a : List UInt8
  f : Nat

section
variable (H : List UInt8 → List UInt8)

/-- The error of a text, if it comes next. -/
def er (c : Cs) (s : List UInt8) : Nat :=
  if (gotB s).err ≠ 0 then (gotB s).err else if (gotB s).used ≠ s.length then 3 else if (gotB s).bt.prev ≠ c.a ∨ (gotB s).bt.first ≠ c.f then 11 else 0

/-- .. and what is then. -/
def nx (c : Cs) (s : List UInt8) : Cs := ⟨c.acc ++ (gotB s).bt.evs, H s, ((gotB s).bt.first + (gotB s).bt.evs.length) % 18446744073709551616⟩

/-- A row of texts. -/
def run : List (List UInt8) → Cs → Cs × Nat
  | [], c => (c, 0)
  | s :: l, c => if er c s ≠ 0 then (c, er c s) else run l (nx H c s)

/-- What a check tells. -/
def chk (a : List UInt8) (f : Nat) (l : List (List UInt8)) : List Ev × List UInt8 × Nat :=
  if (run H l ⟨[], a, f⟩).2 = 0 then ((run H l ⟨[], a, f⟩).1.acc, (run H l ⟨[], a, f⟩).1.a, 0) else ([], z32, (run H l ⟨[], a, f⟩).2)

/-- A batch that is linked. -/
def lnk (a : List UInt8) (l : List Ev) : Bt := ⟨headSeq l, l, a⟩

end

section
variable {H : List UInt8 → List UInt8}

theorem er_zero {c : Cs} {s : List UInt8} (h : er c s = 0) : ∃ b : Bt, gotB s = ⟨b, s.length, 0⟩ ∧ b.prev = c.a ∧ b.first = c.f := by
  unfold er at h
  split at h
  · next h1 => exact absurd h h1
  · next h1 =>
    split at h
    · cases h
    · next h2 =>
      split at h
      · cases h
      · next h3 =>
        have h1' : (gotB s).err = 0 := by omega
        have h2' : (gotB s).used = s.length := by omega
        generalize gotB s = g at *
        obtain ⟨b, u, e⟩ := g
        simp only at h1' h2' h3
        subst h1' h2'
        refine ⟨b, rfl, ?_, ?_⟩
        · exact Decidable.byContradiction fun h => h3 (Or.inl h)
        · exact Decidable.byContradiction fun h => h3 (Or.inr h)

theorem er_of {c : Cs} {s : List UInt8} {b : Bt} (h : gotB s = ⟨b, s.length, 0⟩) (h1 : b.prev = c.a) (h2 : b.first = c.f) : er c s = 0 := by
  unfold er
  rw [h]
  simp [h1, h2]

theorem run_append (l m : List (List UInt8)) (c : Cs) : run H (l ++ m) c = if (run H l c).2 ≠ 0 then run H l c else run H m (run H l c).1 := by
  induction l generalizing c with
  | nil => simp [run]
  | cons s l ih =>
    rw [List.cons_append, run, run]
    by_cases h : er c s ≠ 0
    · rw [if_pos h, if_pos h, if_pos h]
    · rw [if_neg h, if_neg h]
      exact ih _

theorem run_snoc {l : List (List UInt8)} {s : List UInt8} {c : Cs} (h : (run H l c).2 = 0) : run H (l ++ [s]) c = if er (run H l c).1 s ≠ 0 then ((run H l c).1, er (run H l c).1 s) else (nx H (run H l c).1 s, 0) := by
  rw [run_append, if_neg (by simpa using h), run]
  split
  · rfl
  · rfl

/-- A loop that goes through the texts: one more that is right. -/
theorem run_take {l : List (List UInt8)} {k : Nat} (hk : k < l.length) {c : Cs} (h : (run H (l.take k) c).2 = 0) (he : er (run H (l.take k) c).1 l[k] = 0) : run H (l.take (k + 1)) c = (nx H (run H (l.take k) c).1 l[k], 0) := by
  rw [List.take_succ_eq_append_getElem hk, run_snoc h, if_neg (by simpa using he)]

/-- .. that is not. -/
theorem run_halt {l : List (List UInt8)} {k : Nat} (hk : k < l.length) {c : Cs} (h : (run H (l.take k) c).2 = 0) (he : er (run H (l.take k) c).1 l[k] ≠ 0) : (run H l c).2 = er (run H (l.take k) c).1 l[k] := by
  have e : l.take (k + 1) ++ l.drop (k + 1) = l := List.take_append_drop _ _
  have h1 := run_snoc (s := l[k]) h
  rw [if_pos he, ← List.take_succ_eq_append_getElem hk] at h1
  have h2 := run_append (H := H) (l.take (k + 1)) (l.drop (k + 1)) c
  rw [e, h1, if_pos he] at h2
  rw [h2]

theorem run_len32 (hH : ∀ t, (H t).length = 32) : ∀ (l : List (List UInt8)) {c : Cs}, c.a.length = 32 → (run H l c).1.a.length = 32
  | [], _, h => h
  | s :: l, c, h => by
    rw [run]
    split
    · exact h
    · exact run_len32 hH l (hH s)

/-- What a check tells, where a loop ends. -/
theorem chk_halt {l : List (List UInt8)} {k : Nat} (hk : k < l.length) {a : List UInt8} {f : Nat} {st : Cs} (h : run H (l.take k) ⟨[], a, f⟩ = (st, 0)) {x : Nat} (hx : er st l[k] = x) (he : x ≠ 0) : chk H a f l = ([], z32, x) := by
  subst hx
  have h1 := run_halt (H := H) hk (c := ⟨[], a, f⟩) (by rw [h]) (by rw [h]; exact he)
  rw [h] at h1
  unfold chk
  rw [h1, if_neg he]
theorem chk_end {l : List (List UInt8)} {k : Nat} (hk : k = l.length) {a : List UInt8} {f : Nat} {st : Cs} (h : run H (l.take k) ⟨[], a, f⟩ = (st, 0)) : chk H a f l = (st.acc, st.a, 0) := by
  rw [hk, List.take_length] at h
  unfold chk
  rw [h]
  rfl
theorem run_on {l : List (List UInt8)} {k : Nat} (hk : k < l.length) {c st : Cs} (h : run H (l.take k) c = (st, 0)) (he : er st l[k] = 0) : run H (l.take (k + 1)) c = (nx H st l[k], 0) := by
  have := run_take (H := H) hk (c := c) (by rw [h]) (by rw [h]; exact he)
  rwa [h] at this

/-- The events of a row that was checked from elsewhere stand behind. -/
theorem run_acc (l : List (List UInt8)) (acc : List Ev) (a : List UInt8) (f : Nat) : run H l ⟨acc, a, f⟩ = (⟨acc ++ (run H l ⟨[], a, f⟩).1.acc, (run H l ⟨[], a, f⟩).1.a, (run H l ⟨[], a, f⟩).1.f⟩, (run H l ⟨[], a, f⟩).2) := by
  induction l generalizing acc a f with
  | nil => simp [run]
  | cons s l ih =>
    rw [run, run]
    have e : er ⟨acc, a, f⟩ s = er ⟨[], a, f⟩ s := rfl
    rw [e]
    split
    · simp
    · unfold nx
      rw [ih, ih (acc := [] ++ _)]
      simp [List.append_assoc]

/-- A text that is right: its batch, whole. -/
theorem er_text {c : Cs} {s : List UInt8} (h : er c s = 0) : ∃ b : Bt, s = whole b ∧ isB b.first b.evs = true ∧ b.Fits ∧ gotB s = ⟨b, s.length, 0⟩ ∧ b.prev = c.a ∧ b.first = c.f := by
  obtain ⟨b, h1, h2, h3⟩ := er_zero h
  obtain ⟨h4, h5, h6, _⟩ := gotB_back h1
  rw [List.take_length] at h6
  exact ⟨b, h6.symm, h4, h5, h1, h2, h3⟩

/-- The number behind a row: the first one, and so many events more. -/
theorem run_num {l : List (List UInt8)} {c : Cs} (hf : c.f < 18446744073709551616) (h : (run H l c).2 = 0) : ∃ n, (run H l c).1.f = (c.f + n) % 18446744073709551616 ∧ (run H l c).1.acc.length = c.acc.length + n ∧ l.length ≤ n ∧ n ≤ 256 * l.length := by
  induction l generalizing c with
  | nil => exact ⟨0, by rw [run]; simp; omega, by rw [run]; simp, by simp, by simp⟩
  | cons s l ih =>
    rw [run] at h ⊢
    split at h
    · next h1 => exact absurd h h1
    · next h1 =>
      rw [if_neg h1]
      obtain ⟨b, _, h2, _, h3, _, h4⟩ := er_text (c := c) (s := s) (by omega)
      obtain ⟨n, e1, e2, e3, e4⟩ := ih (c := nx H c s) (by unfold nx; exact Nat.mod_lt _ (by omega)) h
      obtain ⟨i1, i2, _⟩ := isB_yes.1 h2
      have ea : (nx H c s).acc.length = c.acc.length + b.evs.length := by unfold nx; rw [h3]; simp
      have ef : (nx H c s).f = (c.f + b.evs.length) % 18446744073709551616 := by unfold nx; rw [h3]; simp only [h4]
      refine ⟨b.evs.length + n, ?_, ?_, ?_, ?_⟩
      · rw [e1, ef]; omega
      · rw [e2, ea]; omega
      · rw [List.length_cons]; omega
      · rw [List.length_cons]; omega

/-- The first texts that differ, from the ends on. -/
def cl : List (List UInt8) → List (List UInt8) → Option (List UInt8 × List UInt8)
  | x :: l, y :: m => if x = y then cl l m else some (x, y)
  | _, _ => none

def clash (H : List UInt8 → List UInt8) (l m : List (List UInt8)) : List UInt8 × List UInt8 × Bool :=
  match cl l.reverse m.reverse with
  | some (x, y) => (x, y, decide (H x = H y))
  | none => ([], [], false)

theorem cl_same (l : List (List UInt8)) : cl l l = none := by
  induction l with
  | nil => rfl
  | cons x l ih => rw [cl, if_pos rfl]; exact ih

theorem cl_diff : ∀ (l m : List (List UInt8)) {x y : List UInt8}, cl l m = some (x, y) → x ≠ y
  | [], _, _, _, h => by simp [cl] at h
  | _ :: _, [], _, _, h => by simp [cl] at h
  | u :: l, v :: m, x, y, h => by
    rw [cl] at h
    split at h
    · exact cl_diff l m h
    · next hne => cases h; exact hne

/-- Texts one by one from the ends on: as long as they are the same, the clash is further ahead. -/
theorem cl_drop {l m : List (List UInt8)} {k : Nat} (h : l.take k = m.take k) (hl : k ≤ l.length) (hm : k ≤ m.length) : cl l m = cl (l.drop k) (m.drop k) := by
  induction k generalizing l m with
  | zero => simp
  | succ k ih =>
    match l, m, hl, hm with
    | x :: l, y :: m, hl, hm =>
      rw [List.take_succ_cons, List.take_succ_cons] at h
      injection h with h1 h2
      subst h1
      rw [cl, if_pos rfl, List.drop_succ_cons, List.drop_succ_cons]
      exact ih h2 (by simpa using hl) (by simpa using hm)

theorem row_cases {α : Type} (l : List α) : l = [] ∨ ∃ k x, l = k ++ [x] := by
  rcases l.eq_nil_or_concat with h | ⟨k, x, h⟩
  · exact Or.inl h
  · exact Or.inr ⟨k, x, by simpa using h⟩

/-- Rows from one state to one sum and number: the same, or two texts with one sum. -/
theorem tells_all {c : Cs} (hf : c.f < 18446744073709551616) : ∀ (n : Nat) (l m : List (List UInt8)), l.length = n → l.length ≤ 1000000 → m.length ≤ 1000000 → (run H l c).2 = 0 → (run H m c).2 = 0 → (run H l c).1.a = (run H m c).1.a → (run H l c).1.f = (run H m c).1.f →
    l = m ∨ ∃ x y, cl l.reverse m.reverse = some (x, y) ∧ H x = H y
  | n, l, m, hn, hl, hm, hr, hs, ha, hfe => by
    rcases row_cases l with rfl | ⟨l', x, rfl⟩
    · rcases row_cases m with rfl | ⟨m', y, rfl⟩
      · exact Or.inl rfl
      · exfalso
        obtain ⟨k, e1, _, e3, e4⟩ := run_num hf hs
        rw [← hfe] at e1
        have e0 : (run H [] c).1.f = c.f := rfl
        rw [e0] at e1
        rw [List.length_append, List.length_singleton] at e3 hm e4
        omega
    · rcases row_cases m with rfl | ⟨m', y, rfl⟩
      · exfalso
        obtain ⟨k, e1, _, e3, e4⟩ := run_num hf hr
        rw [hfe] at e1
        have e0 : (run H [] c).1.f = c.f := rfl
        rw [e0] at e1
        rw [List.length_append, List.length_singleton] at e3 hl e4
        omega
      · have hr' : (run H l' c).2 = 0 := by
          rw [run_append] at hr
          split at hr
          · next h => exact absurd hr h
          · next h => omega
        have hs' : (run H m' c).2 = 0 := by
          rw [run_append] at hs
          split at hs
          · next h => exact absurd hs h
          · next h => omega
        have er1 : er (run H l' c).1 x = 0 := by
          rw [run_snoc hr'] at hr
          split at hr
          · next h => exact absurd hr h
          · next h => omega
        have er2 : er (run H m' c).1 y = 0 := by
          rw [run_snoc hs'] at hs
          split at hs
          · next h => exact absurd hs h
          · next h => omega
        rw [run_snoc hr', if_neg (by simpa using er1), run_snoc hs', if_neg (by simpa using er2)] at ha hfe
        have hxy : H x = H y := ha
        rw [List.reverse_append, List.reverse_append]
        show _ ∨ ∃ u v, cl (x :: l'.reverse) (y :: m'.reverse) = some (u, v) ∧ H u = H v
        rw [cl]
        by_cases hne : x = y
        · subst hne
          rw [if_pos rfl]
          obtain ⟨b, g1, g2, g3⟩ := er_zero er1
          obtain ⟨b', g1', g2', g3'⟩ := er_zero er2
          rw [g1] at g1'
          have hb : b = b' := by injection g1'
          subst hb
          have hlen : l'.length < n := by rw [List.length_append, List.length_singleton] at hn; omega
          rcases tells_all hf l'.length l' m' rfl (by rw [List.length_append] at hl; omega) (by rw [List.length_append] at hm; omega) hr' hs' (g2.symm.trans g2') (g3.symm.trans g3') with h | h
          · subst h; exact Or.inl rfl
          · exact Or.inr h
        · rw [if_neg hne]
          exact Or.inr ⟨x, y, rfl, hxy⟩
termination_by n => n

/-- .. to one sum alone, with one text at least each. -/
theorem tells {c : Cs} (hf : c.f < 18446744073709551616) {l m : List (List UInt8)} (hl0 : l ≠ []) (hm0 : m ≠ []) (hl : l.length ≤ 1000000) (hm : m.length ≤ 1000000) (hr : (run H l c).2 = 0) (hs : (run H m c).2 = 0) (ha : (run H l c).1.a = (run H m c).1.a) :
    l = m ∨ ∃ x y, cl l.reverse m.reverse = some (x, y) ∧ H x = H y := by
  rcases row_cases l with rfl | ⟨l', x, rfl⟩
  · exact absurd rfl hl0
  rcases row_cases m with rfl | ⟨m', y, rfl⟩
  · exact absurd rfl hm0
  have hr' : (run H l' c).2 = 0 := by
    rw [run_append] at hr
    split at hr
    · next h => exact absurd hr h
    · next h => omega
  have hs' : (run H m' c).2 = 0 := by
    rw [run_append] at hs
    split at hs
    · next h => exact absurd hs h
    · next h => omega
  have er1 : er (run H l' c).1 x = 0 := by
    rw [run_snoc hr'] at hr
    split at hr
    · next h => exact absurd hr h
    · next h => omega
  have er2 : er (run H m' c).1 y = 0 := by
    rw [run_snoc hs'] at hs
    split at hs
    · next h => exact absurd hs h
    · next h => omega
  by_cases hne : x = y
  · subst hne
    refine tells_all hf _ _ _ rfl hl hm hr hs ha ?_
    rw [run_snoc hr', if_neg (by simpa using er1), run_snoc hs', if_neg (by simpa using er2)]
    rfl
  · rw [run_snoc hr', if_neg (by simpa using er1), run_snoc hs', if_neg (by simpa using er2)] at ha
    rw [List.reverse_append, List.reverse_append]
    refine Or.inr ⟨x, y, ?_, ha⟩
    show cl (x :: l'.reverse) (y :: m'.reverse) = _
    rw [cl, if_neg hne]
end

end Go.Proofs.YthhcopeejhhpgaaDoor.Chn
