/- The document's Clash. -/
import Derived.Test.YthhcopeejhhpgaaDoorHash
import Derived.Test.YthhcopeejhhpgaaDoorStrs
import Derived.Test.YthhcopeejhhpgaaDoorPureChain
namespace Go.Proofs.YthhcopeejhhpgaaDoor.Chn

theorem rev_at {l : List (List UInt8)} {k p : Nat} (hk : 1 ≤ k) (hp : p + k = l.length) : l.reverse[k - 1]? = l[p]? := by
  rw [List.getElem?_reverse (by omega)]
  congr 1
  omega

theorem clash_none {H : List UInt8 → List UInt8} {l m : List (List UInt8)} {k : Nat} (h : l.reverse.take k = m.reverse.take k) (hl : k ≤ l.length) (hm : k ≤ m.length) (hend : k = l.length ∨ k = m.length) : clash H l m = ([], [], false) := by
  have e := cl_drop h (by rw [List.length_reverse]; exact hl) (by rw [List.length_reverse]; exact hm)
  have e2 : cl (l.reverse.drop k) (m.reverse.drop k) = none := by
    rcases hend with h | h
    · rw [List.drop_eq_nil_of_le (by rw [List.length_reverse]; omega)]
      simp [cl]
    · have hd : m.reverse.drop k = [] := List.drop_eq_nil_of_le (by rw [List.length_reverse]; omega)
      rw [hd]
      cases l.reverse.drop k <;> simp [cl]
  unfold clash
  rw [e, e2]

theorem clash_some {H : List UInt8 → List UInt8} {l m : List (List UInt8)} {k : Nat} {x y : List UInt8} (h : l.reverse.take k = m.reverse.take k) (hx : l.reverse[k]? = some x) (hy : m.reverse[k]? = some y) (hne : x ≠ y) : clash H l m = (x, y, decide (H x = H y)) := by
  obtain ⟨hl, hx'⟩ := List.getElem?_eq_some_iff.1 hx
  obtain ⟨hm, hy'⟩ := List.getElem?_eq_some_iff.1 hy
  have e := cl_drop h (by omega) (by omega)
  unfold clash
  rw [e, List.drop_eq_getElem_cons hl, List.drop_eq_getElem_cons hm, hx', hy', cl, if_neg hne]

theorem take_rev {l m : List (List UInt8)} {k : Nat} {x : List UInt8} (h : l.reverse.take k = m.reverse.take k) (hx : l.reverse[k]? = some x) (hy : m.reverse[k]? = some x) : l.reverse.take (k + 1) = m.reverse.take (k + 1) := by
  obtain ⟨hl, hx'⟩ := List.getElem?_eq_some_iff.1 hx
  obtain ⟨hm, hy'⟩ := List.getElem?_eq_some_iff.1 hy
  rw [List.take_succ_eq_append_getElem hl, List.take_succ_eq_append_getElem hm, h, hx', hy']

end Go.Proofs.YthhcopeejhhpgaaDoor.Chn
namespace Go.Proofs.YthhcopeejhhpgaaDoor
open Go.RowKit Chn

set_option maxHeartbeats 1000000 in
set_option maxRecDepth 100000 in
theorem rclash_any (A A' : Option Addr) (l m : List (List UInt8)) (n n' c c' : Nat) (hn : n = l.length) (hn' : n' = m.length) (hl : l.length ≤ 1000000) (hm : m.length ≤ 1000000) (hls : ∀ s ∈ l, s.length ≤ 100000) (hms : ∀ s ∈ m, s.length ≤ 100000) (w : World) (hA : StSl w A l) (hA' : StSl w A' m) :
    Calls Tryd.prog 18 #[.slice A n c, .slice A' n' c'] w fun e w' => e = .returned (.tuple #[.string ⟨(clash hsh l m).1.toArray⟩, .string ⟨(clash hsh l m).2.1.toArray⟩, .bool (clash hsh l m).2.2]) ∧ Below w.heap.size w w' := by
  have HA := Lib.hid hA
  have HA' := Lib.hid hA'
  have HN := Lib.hid hn
  have HN' := Lib.hid hn'
  have HLS := Lib.hid hls
  have HMS := Lib.hid hms
  have nb : n ≤ 1000000 := by omega
  have nb' : n' ≤ 1000000 := by omega
  clear hA hA' hn hn' hls hms hl hm
  go_enter Tryd.func18, Tryd.ntmps18
  go_wp2_with fail
  go_loopw [7] (fun i wr => ∃ k : Nat, 1 ≤ k ∧ k ≤ n + 1 ∧ k ≤ n' + 1 ∧ i = .int .i64 (k : Nat) ∧ Hid (l.reverse.take (k - 1) = m.reverse.take (k - 1)) ∧ wr = w) (fun i _ => n + 1 - (intOf i).toNat)
  case atStart => exact ⟨1, Nat.le_refl _, by omega, by omega, rfl, Lib.hid (by simp), rfl⟩
  case round =>
    obtain ⟨k, hk1, hk, hk', rfl, HE, rfl⟩ := hrel
    by_cases h1 : k ≤ n
    · have h1' : (k : Int) ≤ (n : Int) := by omega
      by_cases h2 : k ≤ n'
      · have h2' : (k : Int) ≤ (n' : Int) := by omega
        obtain ⟨p, hp⟩ : ∃ p, p + k = n := ⟨n - k, by omega⟩
        obtain ⟨p', hp'⟩ : ∃ p', p' + k = n' := ⟨n' - k, by omega⟩
        obtain ⟨g, o, hAe, hc⟩ := HA.out.out (by rw [← HN.out]; omega)
        obtain ⟨g', o', hAe', hc'⟩ := HA'.out.out (by rw [← HN'.out]; omega)
        subst hAe hAe'
        have hpl : p < l.length := by rw [← HN.out]; omega
        have hpm : p' < m.length := by rw [← HN'.out]; omega
        have R1 := rev_at (l := l) hk1 (by rw [← HN.out]; exact hp)
        have R2 := rev_at (l := m) hk1 (by rw [← HN'.out]; exact hp')
        rw [List.getElem?_eq_getElem hpl] at R1
        rw [List.getElem?_eq_getElem hpm] at R2
        have cc := hc p l[p] (List.getElem?_eq_getElem hpl)
        have cc' := hc' p' m[p'] (List.getElem?_eq_getElem hpm)
        have S1 := Lib.hid (HLS.out _ (List.getElem_mem hpl))
        have S2 := Lib.hid (HMS.out _ (List.getElem_mem hpm))
        have q1 : (n : Int) - (k : Int) = (p : Int) := by omega
        have q2 : (n' : Int) - (k : Int) = (p' : Int) := by omega
        have q3 : (p : Int) < (n : Int) := by omega
        have q4 : (p' : Int) < (n' : Int) := by omega
        clear hc hc'
        generalize l[p] = s at *
        generalize m[p'] = s' at *
        have HR1 := Lib.hid R1
        have HR2 := Lib.hid R2
        clear R1 R2 hpl hpm
        by_cases hs : s = s'
        · subst hs
          have HT := Lib.hid (take_rev HE.out HR1.out HR2.out)
          go_wp2_with fail
          go_roundw
          case rel => exact ⟨k + 1, by omega, by omega, by omega, by go_num, Lib.hid (by rw [show k + 1 - 1 = k - 1 + 1 by omega]; exact HT.out), trivial⟩
          case measure => simp [intOf]; omega
        · have hsn : (s == s') = false := beq_eq_false_iff_ne.2 hs
          have HC := Lib.hid (clash_some (H := hsh) HE.out HR1.out HR2.out hs)
          have EQ := eql_dig (hsh s) (hsh s') (hsh_len _) (hsh_len _)
          have X := Lib.hid (fun W => rhof_any s S1.out W)
          have Y := Lib.hid (fun W => rhof_any s' S2.out W)
          clear hs
          go_wp2_with fail
          generalize hsh s = hx at *
          generalize hsh s' = hy at *
          refine wp_region_held_drew (S := fun _ => True) (by kernel_rfl) (trivial) (fun hHeld => ?_)
          refine wpAnyH_take (i := 0) (v := ?_) rfl (by kernel_rfl) (by kernel_rfl) (by kernel_rfl) (fun _ _ _ h => h) (Or.inl ⟨by rfl, ?_⟩) (by assumption) ?_
          rotate_left
          · intro w hSw; (try dsimp only at hSw); go_simp; try with_reducible rfl
          try simp only [Act.put, List.getElem_toArray, List.getElem_cons_zero, List.setIfInBounds_toArray, List.set_cons_zero, List.set_cons_succ]
          refine wpAnyH_take (i := 1) (v := ?_) rfl (by kernel_rfl) (by kernel_rfl) (by kernel_rfl) (fun _ _ _ h => h) (Or.inl ⟨by rfl, ?_⟩) (by assumption) ?_
          rotate_left
          · intro w hSw; (try dsimp only at hSw); go_simp; try with_reducible rfl
          try simp only [Act.put, List.getElem_toArray, List.getElem_cons_zero, List.getElem_cons_succ, List.setIfInBounds_toArray, List.set_cons_zero, List.set_cons_succ]
          refine wpAnyH_take (i := 2) (v := ?_) rfl (by kernel_rfl) (by kernel_rfl) (by kernel_rfl) (fun _ _ _ h => h) (Or.inl ⟨by rfl, ?_⟩) (by assumption) ?_
          rotate_left
          · intro w hSw; (try dsimp only at hSw); go_simp; try with_reducible rfl
          try simp only [Act.put, List.getElem_toArray, List.getElem_cons_zero, List.getElem_cons_succ, List.setIfInBounds_toArray, List.set_cons_zero, List.set_cons_succ]
          refine wpAnyH_take (i := 4) (v := ?_) rfl (by kernel_rfl) (by kernel_rfl) (by kernel_rfl) (fun _ _ _ h => h) (Or.inl ⟨by rfl, ?_⟩) (by assumption) ?_
          rotate_left
          · intro w hSw; (try dsimp only at hSw); go_simp; try with_reducible rfl
          try simp only [Act.put, List.getElem_toArray, List.getElem_cons_zero, List.getElem_cons_succ, List.setIfInBounds_toArray, List.set_cons_zero, List.set_cons_succ]
          refine wpAnyH_ready (rs := [3]) (by kernel_rfl) (by simp) (AllReadyH.cons rfl (fun K hK => ?_) AllReadyH.nil)
          go_simp
          refine (X.out _).mono ?_; rintro e wn ⟨rfl, hbn'⟩
          have hbn : Below wr.heap.size wr wn := up_trans (Below.refl _ _).drew hbn'
          clear hbn'
          go_wp2_with fail
          refine hK.out _ _ (trivial) (fun hHeld => ?_)
          clear hK K
          try simp only [Act.put, List.getElem_toArray, List.getElem_cons_zero, List.getElem_cons_succ, List.setIfInBounds_toArray, List.set_cons_zero, List.set_cons_succ]
          refine wpAnyH_ready (rs := [5]) (by kernel_rfl) (by simp) (AllReadyH.cons rfl (fun K hK => ?_) AllReadyH.nil)
          go_simp
          refine (Y.out _).mono ?_; rintro e wn ⟨rfl, hbn'⟩
          replace hbn : Below wr.heap.size wr wn := up_trans hbn hbn'
          clear hbn'
          go_wp2_with fail
          refine hK.out _ _ (trivial) (fun hHeld => ?_)
          clear hK K
          try simp only [Act.put, List.getElem_toArray, List.getElem_cons_zero, List.getElem_cons_succ, List.setIfInBounds_toArray, List.set_cons_zero, List.set_cons_succ]
          refine wpAnyH_take (i := 6) (v := ?_) rfl (by kernel_rfl) (by kernel_rfl) (by kernel_rfl) (fun _ _ _ h => h) (Or.inl ⟨by rfl, ?_⟩) (by assumption) ?_
          rotate_left
          · intro w hSw; (try dsimp only at hSw); go_simp; try with_reducible rfl
          try simp only [Act.put, List.getElem_toArray, List.getElem_cons_zero, List.getElem_cons_succ, List.setIfInBounds_toArray, List.set_cons_zero, List.set_cons_succ]
          refine wpAnyH_take (i := 7) (v := ?_) rfl (by kernel_rfl) (by kernel_rfl) (by kernel_rfl) (fun _ _ _ h => h) (Or.inl ⟨by rfl, ?_⟩) (by assumption) ?_
          rotate_left
          · intro w hSw; (try dsimp only at hSw); go_simp; try with_reducible rfl
          try simp only [Act.put, List.getElem_toArray, List.getElem_cons_zero, List.getElem_cons_succ, List.setIfInBounds_toArray, List.set_cons_zero, List.set_cons_succ]
          refine wpAnyH_take (i := 8) (v := ?_) rfl (by kernel_rfl) (by kernel_rfl) (by kernel_rfl) (fun _ _ _ h => h) (Or.inl ⟨by rfl, ?_⟩) (by assumption) ?_
          rotate_left
          · intro w hSw; (try dsimp only at hSw); go_simp; try with_reducible rfl
          try simp only [Act.put, List.getElem_toArray, List.getElem_cons_zero, List.getElem_cons_succ, List.setIfInBounds_toArray, List.set_cons_zero, List.set_cons_succ]
          refine wpAnyH_take (i := 9) (v := ?_) rfl (by kernel_rfl) (by kernel_rfl) (by kernel_rfl) (fun _ _ _ h => h) (Or.inl ⟨by rfl, ?_⟩) (by assumption) ?_
          rotate_left
          · intro w hSw; (try dsimp only at hSw); go_simp; try with_reducible rfl
          try simp only [Act.put, List.getElem_toArray, List.getElem_cons_zero, List.getElem_cons_succ, List.setIfInBounds_toArray, List.set_cons_zero, List.set_cons_succ]
          refine wpAnyH_done (by kernel_rfl) ?_ _
          skip
          go_wp2_with fail
          go_ret3
          exact ⟨by rw [HC.out]; rfl, hbn⟩
      · have h2' : ¬ (k : Int) ≤ (n' : Int) := by omega
        have HC := Lib.hid (clash_none (H := hsh) HE.out (by rw [← HN.out]; omega) (by rw [← HN'.out]; omega) (Or.inr (by rw [← HN'.out]; omega)))
        go_wp2_with fail
        go_ret3
        exact ⟨by rw [HC.out]; rfl, Below.refl _ _⟩
    · have h1' : ¬ (k : Int) ≤ (n : Int) := by omega
      have HC := Lib.hid (clash_none (H := hsh) HE.out (by rw [← HN.out]; omega) (by rw [← HN'.out]; omega) (Or.inl (by rw [← HN.out]; omega)))
      go_wp2_with fail
      go_ret3
      exact ⟨by rw [HC.out]; rfl, Below.refl _ _⟩

end Go.Proofs.YthhcopeejhhpgaaDoor
