/- chain.Clash. -/
import Derived.Test.YthhcopeejhhpgaaDoorChClash
import Derived.WalkMore
import Derived.Deep.LoopGhost
namespace Go.Proofs.YthhcopeejhhpgaaDoor
open Go.RowKit Chn

set_option maxHeartbeats 1000000 in
set_option maxRecDepth 100000 in
theorem samesum_any (s t : List UInt8) (hs : s.length ≤ 100000) (ht : t.length ≤ 100000) (w : World) (hT : Tab w) :
    Calls Tryd.prog 30 #[.string ⟨s.toArray⟩, .string ⟨t.toArray⟩] w fun e w' => e = .returned (.bool (decide (hsh s = hsh t))) ∧ Below w.heap.size w w' := by
  have EQ := eql_dig (hsh s) (hsh t) (hsh_len _) (hsh_len _)
  have X := Lib.hid (fun W h => hof_any s hs W h)
  have Y := Lib.hid (fun W h => hof_any t ht W h)
  have HT := Lib.hid hT
  clear hs ht hT
  generalize hsh s = x at *
  generalize hsh t = y at *
  go_enter Tryd.func30, Tryd.ntmps30
  go_wp2_with fail
  refine (X.out _ HT.out).mono ?_; rintro e w1 ⟨rfl, b1⟩
  go_wp2_with fail
  refine (Y.out _ (tab_up HT.out b1)).mono ?_; rintro e w2 ⟨rfl, b2⟩
  go_wp2_with fail
  go_ret
  exact ⟨rfl, up_trans b1 b2⟩

set_option maxHeartbeats 1000000 in
set_option maxRecDepth 100000 in
theorem pclash_any (A A' : Option Addr) (l m : List (List UInt8)) (n n' c c' : Nat) (w : World) (hT : Tab w) (hn : n = l.length) (hn' : n' = m.length) (hl : l.length ≤ 1000000) (hm : m.length ≤ 1000000) (hls : ∀ s ∈ l, s.length ≤ 100000) (hms : ∀ s ∈ m, s.length ≤ 100000) (hA : StSl w A l) (hA' : StSl w A' m) :
    Calls Tryd.prog 17 #[.slice A n c, .slice A' n' c'] w fun e w' => e = .returned (.tuple #[.string ⟨(clash hsh l m).1.toArray⟩, .string ⟨(clash hsh l m).2.1.toArray⟩, .bool (clash hsh l m).2.2]) ∧ Below w.heap.size w w' := by
  have HA := Lib.hid hA
  have HA' := Lib.hid hA'
  have HN := Lib.hid hn
  have HN' := Lib.hid hn'
  have HLS := Lib.hid hls
  have HMS := Lib.hid hms
  have HT := Lib.hid hT
  have nb : n ≤ 1000000 := by omega
  have nb' : n' ≤ 1000000 := by omega
  clear hA hA' hn hn' hls hms hl hm hT
  go_enter Tryd.func17, Tryd.ntmps17
  go_wp2_with fail
  go_step3
  go_wp2_with fail
  go_step3
  go_wp2_with fail
  go_loopw [7] (fun i wr => ∃ k : Nat, 1 ≤ k ∧ k ≤ n + 1 ∧ k ≤ n' + 1 ∧ i = .int .i64 (k : Nat) ∧ Hid (l.reverse.take (k - 1) = m.reverse.take (k - 1)) ∧ Hid (Below w.heap.size w wr)) (fun i _ => n + 1 - (intOf i).toNat)
  case atStart => exact ⟨1, Nat.le_refl _, by omega, by omega, rfl, Lib.hid (by simp), Lib.hid (Below.refl _ _)⟩
  case round =>
    obtain ⟨k, hk1, hk, hk', rfl, HE, HB⟩ := hrel
    by_cases h1 : k ≤ n
    · have d1 : decide ((k : Int) > (n : Int)) = false := by simp; omega
      have d1' : decide ((n : Int) < (k : Int)) = false := by simp; omega
      by_cases h2 : k ≤ n'
      · have d2 : decide ((k : Int) > (n' : Int)) = false := by simp; omega
        have d2' : decide ((n' : Int) < (k : Int)) = false := by simp; omega
        obtain ⟨p, hp⟩ : ∃ p, p + k = n := ⟨n - k, by omega⟩
        obtain ⟨p', hp'⟩ : ∃ p', p' + k = n' := ⟨n' - k, by omega⟩
        obtain ⟨g, o, hAe, hc⟩ := (HA.out.up HB.out.drew).out (by rw [← HN.out]; omega)
        obtain ⟨g', o', hAe', hc'⟩ := (HA'.out.up HB.out.drew).out (by rw [← HN'.out]; omega)
        subst hAe hAe'
        have hpl : p < l.length := by rw [← HN.out]; omega
        have hpm : p' < m.length := by rw [← HN'.out]; omega
        have R1 := rev_at (l := l) hk1 (by rw [← HN.out]; exact hp)
        have R2 := rev_at (l := m) hk1 (by rw [← HN'.out]; exact hp')
        rw [List.getElem?_eq_getElem hpl] at R1
        rw [List.getElem?_eq_getElem hpm] at R2
        have cc := hc p l[p] (List.getElem?_eq_getElem hpl)
        have cc' := hc' p' m[p'] (List.getElem?_eq_getElem hpm)
        have S1 := Lib.hid (HLS.out _ (List.getElem_mem hpl))
        have S2 := Lib.hid (HMS.out _ (List.getElem_mem hpm))
        have q1 : (n : Int) - (k : Int) = (p : Int) := by omega
        have q2 : (n' : Int) - (k : Int) = (p' : Int) := by omega
        have w1 : IntKind.i64.wrap (p : Int) = (p : Int) := by simp [IntKind.wrap, IntKind.bits, IntKind.signed]; omega
        have w2 : IntKind.i64.wrap (p' : Int) = (p' : Int) := by simp [IntKind.wrap, IntKind.bits, IntKind.signed]; omega
        have q3 : (p : Int) < (n : Int) := by omega
        have q4 : (p' : Int) < (n' : Int) := by omega
        clear hc hc'
        generalize l[p] = s at *
        generalize m[p'] = s' at *
        have HR1 := Lib.hid R1
        have HR2 := Lib.hid R2
        clear R1 R2 hpl hpm
        by_cases hs : s = s'
        · subst hs
          have HTK := Lib.hid (take_rev HE.out HR1.out HR2.out)
          go_wp2_with fail
          go_still_tail 15, (by kernel_rfl)
          change wpList _ _ _ _ _ wr.drew
          go_wp2_with fail
          go_roundw
          case rel => exact ⟨k + 1, by omega, by omega, by omega, by go_num, Lib.hid (by rw [show k + 1 - 1 = k - 1 + 1 by omega]; exact HTK.out), Lib.hid HB.out.drew⟩
          case measure => simp [intOf]; omega
        · have hsn : (s == s') = false := beq_eq_false_iff_ne.2 hs
          have HC := Lib.hid (clash_some (H := hsh) HE.out HR1.out HR2.out hs)
          have X := Lib.hid (fun W h => samesum_any s s' S1.out S2.out W h)
          clear hs
          go_wp2_with fail
          go_still_tail 15, (by kernel_rfl)
          change wpList _ _ _ _ _ wr.drew
          have HBd := Lib.hid HB.out.drew
          generalize hwd : wr.drew = wd at *
          clear hwd
          go_wp2_with fail
          go_still_tail 15, (by kernel_rfl)
          change wpList _ _ _ _ _ wd.drew
          go_wp2_with fail
          refine (X.out _ (tab_up HT.out HBd.out.drew)).mono ?_; rintro e w5 ⟨rfl, b5⟩
          go_wp2_with fail
          rw [Exit.noGoto_ret]
          go_ret3
          exact ⟨by rw [HC.out]; rfl, up_trans HBd.out.drew b5⟩
      · have d2 : decide ((k : Int) > (n' : Int)) = true := by simp; omega
        have d2' : decide ((n' : Int) < (k : Int)) = true := by simp; omega
        have HC := Lib.hid (clash_none (H := hsh) HE.out (by rw [← HN.out]; omega) (by rw [← HN'.out]; omega) (Or.inr (by rw [← HN'.out]; omega)))
        go_wp2_with fail
        rw [Exit.noGoto_ret]
        go_ret3
        exact ⟨by rw [HC.out]; rfl, HB.out⟩
    · have d1 : decide ((k : Int) > (n : Int)) = true := by simp; omega
      have d1' : decide ((n : Int) < (k : Int)) = true := by simp; omega
      have HC := Lib.hid (clash_none (H := hsh) HE.out (by rw [← HN.out]; omega) (by rw [← HN'.out]; omega) (Or.inl (by rw [← HN.out]; omega)))
      go_wp2_with fail
      rw [Exit.noGoto_ret]
      go_ret3
      exact ⟨by rw [HC.out]; rfl, HB.out⟩

end Go.Proofs.YthhcopeejhhpgaaDoor
