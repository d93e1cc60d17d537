/- The walk of the law EventRuns: a row runs on just if both pieces of it do, and the second one goes on where the first one ended. -/
import Derived.Test.YtjiepfcohhbjkaaDoorOwnE
namespace Go.Proofs.YtjiepfcohhbjkaaDoor
open Go.RowKit Wire Evt

theorem on_wrap {z x : Nat} (hx : x < 18446744073709551616) (hz : z = 18446744073709551615) : on z x = false := on_no (by omega)

set_option maxHeartbeats 16000000 in
set_option maxRecDepth 100000 in
theorem EventRuns_core (A B : Option Addr) (la lb : List Ev) (ca cb : Nat) (hca : la.length ≤ ca) (hcb : lb.length ≤ cb)
    (hsa : ∀ x ∈ la, x.seq < 18446744073709551616) (hsb : ∀ x ∈ lb, x.seq < 18446744073709551616) (hA0 : A = none → ca = 0) (hB0 : B = none → cb = 0) (w : World) (hA : EvSl w A la) (hB : EvSl w B lb) (hT : Names w) :
    Calls Tryd.prog 8 #[.slice A la.length ca, .slice B lb.length cb] w fun e w' => e = .returned (.bool true) ∧ Below w.heap.size w w' := by
  have HA := Lib.hid hA
  have HB := Lib.hid hB
  have HT := Lib.hid hT
  clear hA hB hT
  have hsl : ∀ x ∈ [] ++ la ++ lb, x.seq < 18446744073709551616 := by
    intro x hx
    rw [List.nil_append] at hx
    rcases List.mem_append.1 hx with h | h
    · exact hsa x h
    · exact hsb x h
  obtain ⟨n, hn⟩ : ∃ n, la.length = n := ⟨_, rfl⟩
  obtain ⟨m, hm⟩ : ∃ m, lb.length = m := ⟨_, rfl⟩
  have HN := Lib.hid hn
  have HM := Lib.hid hm
  rw [hn, hm]
  by_cases h300 : 300 < n
  · have h1 : (300 : Int) < (n : Int) := by omega
    clear hn hm hca hcb hsa hsb hsl hA0 hB0
    go_enter Tryd.func8, Tryd.ntmps8
    go_wp2_with fail
    go_ret
    exact ⟨rfl, Below.refl _ _⟩
  · have h1 : ¬ (300 : Int) < (n : Int) := by omega
    have h1' : decide ((300 : Int) < (n : Int)) = false := by simpa using h1
    by_cases m300 : 300 < m
    · have h2 : (300 : Int) < (m : Int) := by omega
      clear hn hm hca hcb hsa hsb hsl hA0 hB0
      go_enter Tryd.func8, Tryd.ntmps8
      go_wp2_with fail
      go_ret
      exact ⟨rfl, Below.refl _ _⟩
    · have h2 : ¬ (300 : Int) < (m : Int) := by omega
      have h2' : decide ((300 : Int) < (m : Int)) = false := by simpa using h2
      by_cases hn0 : n = 0
      · have hR : runL (la ++ lb) = (runL la && runL lb && true) := by
          obtain rfl : la = [] := List.length_eq_zero_iff.1 (by omega)
          simp [runL, runFrom]
        have d1 : ((n : Int) == 0) = true := by rw [beq_iff_eq]; omega
        clear hn hm hn0
        cases hra : runL la with
        | false =>
          have ra0 := fun w h => run_any A la ca (by have := HN.out; omega) hca hsa w h
          have rl0 := fun A2 n2 c2 (h2 : n2 = ([] ++ la ++ lb).length) (hc : ([] ++ la ++ lb).length ≤ c2) w h => run_len A2 ([] ++ la ++ lb) n2 c2 h2 (by have a1 := HN.out; have a2 := HM.out; simp; omega) hc hsl w h
          rw [hra] at ra0
          rw [show runL ([] ++ la ++ lb) = false by rw [List.nil_append, hR, hra, Bool.false_and]; rfl] at rl0
          have RA := Lib.hid ra0
          have RL := Lib.hid rl0
          simp only [HN.out] at RA
          clear ra0 rl0 hra hR hca hcb hsa hsb hsl
          go_enter Tryd.func8, Tryd.ntmps8
          go_wp2_with (first | (refine wpList_pushE rfl (.tmp 16) (.tmp 17) rfl w.heap.size _ [] (by rfl) (OwnE.nil _ _) A n ca la (by rfl) HN.out HA.out hA0 (by simp; omega) (Nat.le_refl _) ?_; intro v1 w1 hO1 hb1) | (refine wpList_pushE rfl (.tmp 19) (.tmp 20) rfl w.heap.size v1 ([] ++ la) (by rfl) hO1 B m cb lb (by rfl) HM.out (HB.out.up hb1) hB0 (by have := HN.out; simp; omega) hb1.size ?_; intro v2 w2 hO2 hb2; obtain ⟨A2, n2, c2, rfl, hn2, hc2, hE2⟩ := hO2.opened; have HL2 := Lib.hid hn2; have B2 := Lib.hid (hb1.trans hb2); have HE := Lib.hid hE2; have HC := Lib.hid hc2; clear hO1 hb1 hO2 hb2 hE2 hc2 hn2))
          refine (happened_any _ (HT.out.up B2.out)).mono ?_; rintro e w3 ⟨rfl, b3⟩
          have B3 := Lib.hid (up_trans B2.out b3)
          have HE3 := Lib.hid (HE.out.up b3)
          clear b3
          go_wp2_with fail
          refine (RL.out A2 n2 c2 HL2.out HC.out _ HE3.out).mono ?_; rintro e w4 ⟨rfl, b4⟩
          have B4 := Lib.hid (up_trans B3.out b4)
          clear b4
          go_wp2_with fail
          refine (RA.out _ (HA.out.up B4.out)).mono ?_; rintro e w5 ⟨rfl, b5⟩
          have B5 := Lib.hid (up_trans B4.out b5)
          clear b5
          go_wp2_with fail
          go_ret
          exact ⟨rfl, B5.out⟩
        | true =>
          cases hrb : runL lb with
          | false =>
            have ra0 := fun w h => run_any A la ca (by have := HN.out; omega) hca hsa w h
            have rl0 := fun A2 n2 c2 (h2 : n2 = ([] ++ la ++ lb).length) (hc : ([] ++ la ++ lb).length ≤ c2) w h => run_len A2 ([] ++ la ++ lb) n2 c2 h2 (by have a1 := HN.out; have a2 := HM.out; simp; omega) hc hsl w h
            rw [hra] at ra0
            rw [show runL ([] ++ la ++ lb) = false by rw [List.nil_append, hR, hra, hrb]; rfl] at rl0
            have rb0 := fun w h => run_any B lb cb (by have := HM.out; omega) hcb hsb w h
            rw [hrb] at rb0
            have RB := Lib.hid rb0
            simp only [HM.out] at RB
            clear rb0 hrb
            have RA := Lib.hid ra0
            have RL := Lib.hid rl0
            simp only [HN.out] at RA
            clear ra0 rl0 hra hR hca hcb hsa hsb hsl
            go_enter Tryd.func8, Tryd.ntmps8
            go_wp2_with (first | (refine wpList_pushE rfl (.tmp 16) (.tmp 17) rfl w.heap.size _ [] (by rfl) (OwnE.nil _ _) A n ca la (by rfl) HN.out HA.out hA0 (by simp; omega) (Nat.le_refl _) ?_; intro v1 w1 hO1 hb1) | (refine wpList_pushE rfl (.tmp 19) (.tmp 20) rfl w.heap.size v1 ([] ++ la) (by rfl) hO1 B m cb lb (by rfl) HM.out (HB.out.up hb1) hB0 (by have := HN.out; simp; omega) hb1.size ?_; intro v2 w2 hO2 hb2; obtain ⟨A2, n2, c2, rfl, hn2, hc2, hE2⟩ := hO2.opened; have HL2 := Lib.hid hn2; have B2 := Lib.hid (hb1.trans hb2); have HE := Lib.hid hE2; have HC := Lib.hid hc2; clear hO1 hb1 hO2 hb2 hE2 hc2 hn2))
            refine (happened_any _ (HT.out.up B2.out)).mono ?_; rintro e w3 ⟨rfl, b3⟩
            have B3 := Lib.hid (up_trans B2.out b3)
            have HE3 := Lib.hid (HE.out.up b3)
            clear b3
            go_wp2_with fail
            refine (RL.out A2 n2 c2 HL2.out HC.out _ HE3.out).mono ?_; rintro e w4 ⟨rfl, b4⟩
            have B4 := Lib.hid (up_trans B3.out b4)
            clear b4
            go_wp2_with fail
            refine (RA.out _ (HA.out.up B4.out)).mono ?_; rintro e w5 ⟨rfl, b5⟩
            have B5 := Lib.hid (up_trans B4.out b5)
            clear b5
            go_wp2_with fail
            refine (RB.out _ (HB.out.up B5.out)).mono ?_; rintro e w6 ⟨rfl, b6⟩
            go_wp2_with fail
            go_ret
            exact ⟨rfl, up_trans B5.out b6⟩
          | true =>
            have ra0 := fun w h => run_any A la ca (by have := HN.out; omega) hca hsa w h
            have rl0 := fun A2 n2 c2 (h2 : n2 = ([] ++ la ++ lb).length) (hc : ([] ++ la ++ lb).length ≤ c2) w h => run_len A2 ([] ++ la ++ lb) n2 c2 h2 (by have a1 := HN.out; have a2 := HM.out; simp; omega) hc hsl w h
            rw [hra] at ra0
            rw [show runL ([] ++ la ++ lb) = true by rw [List.nil_append, hR, hra, hrb]; rfl] at rl0
            have rb0 := fun w h => run_any B lb cb (by have := HM.out; omega) hcb hsb w h
            rw [hrb] at rb0
            have RB := Lib.hid rb0
            simp only [HM.out] at RB
            clear rb0 hrb
            have RA := Lib.hid ra0
            have RL := Lib.hid rl0
            simp only [HN.out] at RA
            clear ra0 rl0 hra hR hca hcb hsa hsb hsl
            go_enter Tryd.func8, Tryd.ntmps8
            go_wp2_with (first | (refine wpList_pushE rfl (.tmp 16) (.tmp 17) rfl w.heap.size _ [] (by rfl) (OwnE.nil _ _) A n ca la (by rfl) HN.out HA.out hA0 (by simp; omega) (Nat.le_refl _) ?_; intro v1 w1 hO1 hb1) | (refine wpList_pushE rfl (.tmp 19) (.tmp 20) rfl w.heap.size v1 ([] ++ la) (by rfl) hO1 B m cb lb (by rfl) HM.out (HB.out.up hb1) hB0 (by have := HN.out; simp; omega) hb1.size ?_; intro v2 w2 hO2 hb2; obtain ⟨A2, n2, c2, rfl, hn2, hc2, hE2⟩ := hO2.opened; have HL2 := Lib.hid hn2; have B2 := Lib.hid (hb1.trans hb2); have HE := Lib.hid hE2; have HC := Lib.hid hc2; clear hO1 hb1 hO2 hb2 hE2 hc2 hn2))
            refine (happened_any _ (HT.out.up B2.out)).mono ?_; rintro e w3 ⟨rfl, b3⟩
            have B3 := Lib.hid (up_trans B2.out b3)
            have HE3 := Lib.hid (HE.out.up b3)
            clear b3
            go_wp2_with fail
            refine (RL.out A2 n2 c2 HL2.out HC.out _ HE3.out).mono ?_; rintro e w4 ⟨rfl, b4⟩
            have B4 := Lib.hid (up_trans B3.out b4)
            clear b4
            go_wp2_with fail
            refine (RA.out _ (HA.out.up B4.out)).mono ?_; rintro e w5 ⟨rfl, b5⟩
            have B5 := Lib.hid (up_trans B4.out b5)
            clear b5
            go_wp2_with fail
            refine (RB.out _ (HB.out.up B5.out)).mono ?_; rintro e w6 ⟨rfl, b6⟩
            go_wp2_with fail
            go_ret
            exact ⟨rfl, up_trans B5.out b6⟩
      · have d1 : ((n : Int) == 0) = false := by rw [beq_eq_false_iff_ne]; omega
        by_cases hm0 : m = 0
        · have hR : runL (la ++ lb) = (runL la && runL lb && true) := by
            obtain rfl : lb = [] := List.length_eq_zero_iff.1 (by omega)
            simp [runL, runFrom]
          have d2 : ((m : Int) == 0) = true := by rw [beq_iff_eq]; omega
          clear hn hm hn0 hm0
          cases hra : runL la with
          | false =>
            have ra0 := fun w h => run_any A la ca (by have := HN.out; omega) hca hsa w h
            have rl0 := fun A2 n2 c2 (h2 : n2 = ([] ++ la ++ lb).length) (hc : ([] ++ la ++ lb).length ≤ c2) w h => run_len A2 ([] ++ la ++ lb) n2 c2 h2 (by have a1 := HN.out; have a2 := HM.out; simp; omega) hc hsl w h
            rw [hra] at ra0
            rw [show runL ([] ++ la ++ lb) = false by rw [List.nil_append, hR, hra, Bool.false_and]; rfl] at rl0
            have RA := Lib.hid ra0
            have RL := Lib.hid rl0
            simp only [HN.out] at RA
            clear ra0 rl0 hra hR hca hcb hsa hsb hsl
            go_enter Tryd.func8, Tryd.ntmps8
            go_wp2_with (first | (refine wpList_pushE rfl (.tmp 16) (.tmp 17) rfl w.heap.size _ [] (by rfl) (OwnE.nil _ _) A n ca la (by rfl) HN.out HA.out hA0 (by simp; omega) (Nat.le_refl _) ?_; intro v1 w1 hO1 hb1) | (refine wpList_pushE rfl (.tmp 19) (.tmp 20) rfl w.heap.size v1 ([] ++ la) (by rfl) hO1 B m cb lb (by rfl) HM.out (HB.out.up hb1) hB0 (by have := HN.out; simp; omega) hb1.size ?_; intro v2 w2 hO2 hb2; obtain ⟨A2, n2, c2, rfl, hn2, hc2, hE2⟩ := hO2.opened; have HL2 := Lib.hid hn2; have B2 := Lib.hid (hb1.trans hb2); have HE := Lib.hid hE2; have HC := Lib.hid hc2; clear hO1 hb1 hO2 hb2 hE2 hc2 hn2))
            refine (happened_any _ (HT.out.up B2.out)).mono ?_; rintro e w3 ⟨rfl, b3⟩
            have B3 := Lib.hid (up_trans B2.out b3)
            have HE3 := Lib.hid (HE.out.up b3)
            clear b3
            go_wp2_with fail
            refine (RL.out A2 n2 c2 HL2.out HC.out _ HE3.out).mono ?_; rintro e w4 ⟨rfl, b4⟩
            have B4 := Lib.hid (up_trans B3.out b4)
            clear b4
            go_wp2_with fail
            refine (RA.out _ (HA.out.up B4.out)).mono ?_; rintro e w5 ⟨rfl, b5⟩
            have B5 := Lib.hid (up_trans B4.out b5)
            clear b5
            go_wp2_with fail
            go_ret
            exact ⟨rfl, B5.out⟩
          | true =>
            cases hrb : runL lb with
            | false =>
              have ra0 := fun w h => run_any A la ca (by have := HN.out; omega) hca hsa w h
              have rl0 := fun A2 n2 c2 (h2 : n2 = ([] ++ la ++ lb).length) (hc : ([] ++ la ++ lb).length ≤ c2) w h => run_len A2 ([] ++ la ++ lb) n2 c2 h2 (by have a1 := HN.out; have a2 := HM.out; simp; omega) hc hsl w h
              rw [hra] at ra0
              rw [show runL ([] ++ la ++ lb) = false by rw [List.nil_append, hR, hra, hrb]; rfl] at rl0
              have rb0 := fun w h => run_any B lb cb (by have := HM.out; omega) hcb hsb w h
              rw [hrb] at rb0
              have RB := Lib.hid rb0
              simp only [HM.out] at RB
              clear rb0 hrb
              have RA := Lib.hid ra0
              have RL := Lib.hid rl0
              simp only [HN.out] at RA
              clear ra0 rl0 hra hR hca hcb hsa hsb hsl
              go_enter Tryd.func8, Tryd.ntmps8
              go_wp2_with (first | (refine wpList_pushE rfl (.tmp 16) (.tmp 17) rfl w.heap.size _ [] (by rfl) (OwnE.nil _ _) A n ca la (by rfl) HN.out HA.out hA0 (by simp; omega) (Nat.le_refl _) ?_; intro v1 w1 hO1 hb1) | (refine wpList_pushE rfl (.tmp 19) (.tmp 20) rfl w.heap.size v1 ([] ++ la) (by rfl) hO1 B m cb lb (by rfl) HM.out (HB.out.up hb1) hB0 (by have := HN.out; simp; omega) hb1.size ?_; intro v2 w2 hO2 hb2; obtain ⟨A2, n2, c2, rfl, hn2, hc2, hE2⟩ := hO2.opened; have HL2 := Lib.hid hn2; have B2 := Lib.hid (hb1.trans hb2); have HE := Lib.hid hE2; have HC := Lib.hid hc2; clear hO1 hb1 hO2 hb2 hE2 hc2 hn2))
              refine (happened_any _ (HT.out.up B2.out)).mono ?_; rintro e w3 ⟨rfl, b3⟩
              have B3 := Lib.hid (up_trans B2.out b3)
              have HE3 := Lib.hid (HE.out.up b3)
              clear b3
              go_wp2_with fail
              refine (RL.out A2 n2 c2 HL2.out HC.out _ HE3.out).mono ?_; rintro e w4 ⟨rfl, b4⟩
              have B4 := Lib.hid (up_trans B3.out b4)
              clear b4
              go_wp2_with fail
              refine (RA.out _ (HA.out.up B4.out)).mono ?_; rintro e w5 ⟨rfl, b5⟩
              have B5 := Lib.hid (up_trans B4.out b5)
              clear b5
              go_wp2_with fail
              refine (RB.out _ (HB.out.up B5.out)).mono ?_; rintro e w6 ⟨rfl, b6⟩
              go_wp2_with fail
              go_ret
              exact ⟨rfl, up_trans B5.out b6⟩
            | true =>
              have ra0 := fun w h => run_any A la ca (by have := HN.out; omega) hca hsa w h
              have rl0 := fun A2 n2 c2 (h2 : n2 = ([] ++ la ++ lb).length) (hc : ([] ++ la ++ lb).length ≤ c2) w h => run_len A2 ([] ++ la ++ lb) n2 c2 h2 (by have a1 := HN.out; have a2 := HM.out; simp; omega) hc hsl w h
              rw [hra] at ra0
              rw [show runL ([] ++ la ++ lb) = true by rw [List.nil_append, hR, hra, hrb]; rfl] at rl0
              have rb0 := fun w h => run_any B lb cb (by have := HM.out; omega) hcb hsb w h
              rw [hrb] at rb0
              have RB := Lib.hid rb0
              simp only [HM.out] at RB
              clear rb0 hrb
              have RA := Lib.hid ra0
              have RL := Lib.hid rl0
              simp only [HN.out] at RA
              clear ra0 rl0 hra hR hca hcb hsa hsb hsl
              go_enter Tryd.func8, Tryd.ntmps8
              go_wp2_with (first | (refine wpList_pushE rfl (.tmp 16) (.tmp 17) rfl w.heap.size _ [] (by rfl) (OwnE.nil _ _) A n ca la (by rfl) HN.out HA.out hA0 (by simp; omega) (Nat.le_refl _) ?_; intro v1 w1 hO1 hb1) | (refine wpList_pushE rfl (.tmp 19) (.tmp 20) rfl w.heap.size v1 ([] ++ la) (by rfl) hO1 B m cb lb (by rfl) HM.out (HB.out.up hb1) hB0 (by have := HN.out; simp; omega) hb1.size ?_; intro v2 w2 hO2 hb2; obtain ⟨A2, n2, c2, rfl, hn2, hc2, hE2⟩ := hO2.opened; have HL2 := Lib.hid hn2; have B2 := Lib.hid (hb1.trans hb2); have HE := Lib.hid hE2; have HC := Lib.hid hc2; clear hO1 hb1 hO2 hb2 hE2 hc2 hn2))
              refine (happened_any _ (HT.out.up B2.out)).mono ?_; rintro e w3 ⟨rfl, b3⟩
              have B3 := Lib.hid (up_trans B2.out b3)
              have HE3 := Lib.hid (HE.out.up b3)
              clear b3
              go_wp2_with fail
              refine (RL.out A2 n2 c2 HL2.out HC.out _ HE3.out).mono ?_; rintro e w4 ⟨rfl, b4⟩
              have B4 := Lib.hid (up_trans B3.out b4)
              clear b4
              go_wp2_with fail
              refine (RA.out _ (HA.out.up B4.out)).mono ?_; rintro e w5 ⟨rfl, b5⟩
              have B5 := Lib.hid (up_trans B4.out b5)
              clear b5
              go_wp2_with fail
              refine (RB.out _ (HB.out.up B5.out)).mono ?_; rintro e w6 ⟨rfl, b6⟩
              go_wp2_with fail
              go_ret
              exact ⟨rfl, up_trans B5.out b6⟩
        · have d2 : ((m : Int) == 0) = false := by rw [beq_eq_false_iff_ne]; omega
          obtain ⟨n', rfl⟩ : ∃ n', n = n' + 1 := ⟨n - 1, by omega⟩
          obtain ⟨m', rfl⟩ : ∃ m', m = m' + 1 := ⟨m - 1, by omega⟩
          obtain ⟨z, hz⟩ : ∃ z, la[n']? = some z := ⟨_, List.getElem?_eq_getElem (by omega)⟩
          obtain ⟨x, hx⟩ : ∃ x, lb[0]? = some x := ⟨_, List.getElem?_eq_getElem (by omega)⟩
          have hR : runL (la ++ lb) = (runL la && runL lb && on z.seq x.seq) := by
            have e1 : la = la.take n' ++ [z] := by
              have := List.take_succ_eq_append_getElem (show n' < la.length by omega)
              rw [List.take_of_length_le (by omega), (List.getElem?_eq_some_iff.1 hz).2] at this
              exact this
            cases lb with
            | nil => simp at hx
            | cons y l =>
              obtain rfl : y = x := by simpa using hx
              rw [e1]
              exact run_two
          have zs := hsa z (List.mem_of_getElem? hz)
          have xs := hsb x (List.mem_of_getElem? hx)
          obtain ⟨ga, oa, rfl, hva⟩ := HA.out (by omega)
          obtain ⟨gb, ob, rfl, hvb⟩ := HB.out (by omega)
          have CA := Lib.hid (fun W (h : Below w.heap.size w W) => hva.up h n' z hz 0 _ rfl)
          have CB := Lib.hid (fun W (h : Below w.heap.size w W) => hvb.up h 0 x hx 0 _ rfl)
          simp only [Nat.zero_mul, Nat.add_zero] at CA CB
          generalize z.seq = p at *
          generalize x.seq = q at *
          have k1 : IntKind.i64.wrap (n' : Int) = (n' : Int) := IntWalk.i64_in _ (by omega)
          have k2 : (0 : Int) ≤ (n' : Int) := by omega
          have k3 : (0 : Int) < (m' : Int) + 1 := by omega
          have d3 : ((n' : Int) + 1 == 0) = false := by rw [beq_eq_false_iff_ne]; omega
          have d4 : ((m' : Int) + 1 == 0) = false := by rw [beq_eq_false_iff_ne]; omega
          clear hva hvb hz hx hn hm hn0 hm0
          by_cases hp : p = 18446744073709551615
          · have e1 : IntKind.u64.wrap ((p : Int) + 1) = 0 := by rw [IntKind.wrap_u64, hp]; rfl
            rw [on_wrap xs hp] at hR
            clear hp
            cases hra : runL la with
            | false =>
              have ra0 := fun w h => run_any (some ⟨ga, oa, none⟩) la ca (by have := HN.out; omega) hca hsa w h
              have rl0 := fun A2 n2 c2 (h2 : n2 = ([] ++ la ++ lb).length) (hc : ([] ++ la ++ lb).length ≤ c2) w h => run_len A2 ([] ++ la ++ lb) n2 c2 h2 (by have a1 := HN.out; have a2 := HM.out; simp; omega) hc hsl w h
              rw [hra] at ra0
              rw [show runL ([] ++ la ++ lb) = false by rw [List.nil_append, hR, hra, Bool.false_and]; rfl] at rl0
              have RA := Lib.hid ra0
              have RL := Lib.hid rl0
              simp only [HN.out] at RA
              clear ra0 rl0 hra hR hca hcb hsa hsb hsl
              go_enter Tryd.func8, Tryd.ntmps8
              go_wp2_with (first | (refine wpList_pushE rfl (.tmp 16) (.tmp 17) rfl w.heap.size _ [] (by rfl) (OwnE.nil _ _) (some ⟨ga, oa, none⟩) (n' + 1) ca la (by rfl) HN.out HA.out hA0 (by simp; omega) (Nat.le_refl _) ?_; intro v1 w1 hO1 hb1) | (refine wpList_pushE rfl (.tmp 19) (.tmp 20) rfl w.heap.size v1 ([] ++ la) (by rfl) hO1 (some ⟨gb, ob, none⟩) (m' + 1) cb lb (by rfl) HM.out (HB.out.up hb1) hB0 (by have := HN.out; simp; omega) hb1.size ?_; intro v2 w2 hO2 hb2; obtain ⟨A2, n2, c2, rfl, hn2, hc2, hE2⟩ := hO2.opened; have HL2 := Lib.hid hn2; have B2 := Lib.hid (hb1.trans hb2); have HE := Lib.hid hE2; have HC := Lib.hid hc2; clear hO1 hb1 hO2 hb2 hE2 hc2 hn2; have q1 := CA.out _ B2.out; have q2 := CB.out _ B2.out))
              refine (happened_any _ (HT.out.up B2.out)).mono ?_; rintro e w3 ⟨rfl, b3⟩
              have B3 := Lib.hid (up_trans B2.out b3)
              have HE3 := Lib.hid (HE.out.up b3)
              clear b3
              go_wp2_with fail
              refine (RL.out A2 n2 c2 HL2.out HC.out _ HE3.out).mono ?_; rintro e w4 ⟨rfl, b4⟩
              have B4 := Lib.hid (up_trans B3.out b4)
              clear b4
              go_wp2_with fail
              refine (RA.out _ (HA.out.up B4.out)).mono ?_; rintro e w5 ⟨rfl, b5⟩
              have B5 := Lib.hid (up_trans B4.out b5)
              clear b5
              go_wp2_with fail
              go_ret
              exact ⟨rfl, B5.out⟩
            | true =>
              cases hrb : runL lb with
              | false =>
                have ra0 := fun w h => run_any (some ⟨ga, oa, none⟩) la ca (by have := HN.out; omega) hca hsa w h
                have rl0 := fun A2 n2 c2 (h2 : n2 = ([] ++ la ++ lb).length) (hc : ([] ++ la ++ lb).length ≤ c2) w h => run_len A2 ([] ++ la ++ lb) n2 c2 h2 (by have a1 := HN.out; have a2 := HM.out; simp; omega) hc hsl w h
                rw [hra] at ra0
                rw [show runL ([] ++ la ++ lb) = false by rw [List.nil_append, hR, hra, hrb]; rfl] at rl0
                have rb0 := fun w h => run_any (some ⟨gb, ob, none⟩) lb cb (by have := HM.out; omega) hcb hsb w h
                rw [hrb] at rb0
                have RB := Lib.hid rb0
                simp only [HM.out] at RB
                clear rb0 hrb
                have RA := Lib.hid ra0
                have RL := Lib.hid rl0
                simp only [HN.out] at RA
                clear ra0 rl0 hra hR hca hcb hsa hsb hsl
                go_enter Tryd.func8, Tryd.ntmps8
                go_wp2_with (first | (refine wpList_pushE rfl (.tmp 16) (.tmp 17) rfl w.heap.size _ [] (by rfl) (OwnE.nil _ _) (some ⟨ga, oa, none⟩) (n' + 1) ca la (by rfl) HN.out HA.out hA0 (by simp; omega) (Nat.le_refl _) ?_; intro v1 w1 hO1 hb1) | (refine wpList_pushE rfl (.tmp 19) (.tmp 20) rfl w.heap.size v1 ([] ++ la) (by rfl) hO1 (some ⟨gb, ob, none⟩) (m' + 1) cb lb (by rfl) HM.out (HB.out.up hb1) hB0 (by have := HN.out; simp; omega) hb1.size ?_; intro v2 w2 hO2 hb2; obtain ⟨A2, n2, c2, rfl, hn2, hc2, hE2⟩ := hO2.opened; have HL2 := Lib.hid hn2; have B2 := Lib.hid (hb1.trans hb2); have HE := Lib.hid hE2; have HC := Lib.hid hc2; clear hO1 hb1 hO2 hb2 hE2 hc2 hn2; have q1 := CA.out _ B2.out; have q2 := CB.out _ B2.out))
                refine (happened_any _ (HT.out.up B2.out)).mono ?_; rintro e w3 ⟨rfl, b3⟩
                have B3 := Lib.hid (up_trans B2.out b3)
                have HE3 := Lib.hid (HE.out.up b3)
                clear b3
                go_wp2_with fail
                refine (RL.out A2 n2 c2 HL2.out HC.out _ HE3.out).mono ?_; rintro e w4 ⟨rfl, b4⟩
                have B4 := Lib.hid (up_trans B3.out b4)
                clear b4
                go_wp2_with fail
                refine (RA.out _ (HA.out.up B4.out)).mono ?_; rintro e w5 ⟨rfl, b5⟩
                have B5 := Lib.hid (up_trans B4.out b5)
                clear b5
                go_wp2_with fail
                refine (RB.out _ (HB.out.up B5.out)).mono ?_; rintro e w6 ⟨rfl, b6⟩
                go_wp2_with fail
                go_ret
                exact ⟨rfl, up_trans B5.out b6⟩
              | true =>
                have ra0 := fun w h => run_any (some ⟨ga, oa, none⟩) la ca (by have := HN.out; omega) hca hsa w h
                have rl0 := fun A2 n2 c2 (h2 : n2 = ([] ++ la ++ lb).length) (hc : ([] ++ la ++ lb).length ≤ c2) w h => run_len A2 ([] ++ la ++ lb) n2 c2 h2 (by have a1 := HN.out; have a2 := HM.out; simp; omega) hc hsl w h
                rw [hra] at ra0
                rw [show runL ([] ++ la ++ lb) = false by rw [List.nil_append, hR, hra, hrb]; rfl] at rl0
                have rb0 := fun w h => run_any (some ⟨gb, ob, none⟩) lb cb (by have := HM.out; omega) hcb hsb w h
                rw [hrb] at rb0
                have RB := Lib.hid rb0
                simp only [HM.out] at RB
                clear rb0 hrb
                have RA := Lib.hid ra0
                have RL := Lib.hid rl0
                simp only [HN.out] at RA
                clear ra0 rl0 hra hR hca hcb hsa hsb hsl
                go_enter Tryd.func8, Tryd.ntmps8
                go_wp2_with (first | (refine wpList_pushE rfl (.tmp 16) (.tmp 17) rfl w.heap.size _ [] (by rfl) (OwnE.nil _ _) (some ⟨ga, oa, none⟩) (n' + 1) ca la (by rfl) HN.out HA.out hA0 (by simp; omega) (Nat.le_refl _) ?_; intro v1 w1 hO1 hb1) | (refine wpList_pushE rfl (.tmp 19) (.tmp 20) rfl w.heap.size v1 ([] ++ la) (by rfl) hO1 (some ⟨gb, ob, none⟩) (m' + 1) cb lb (by rfl) HM.out (HB.out.up hb1) hB0 (by have := HN.out; simp; omega) hb1.size ?_; intro v2 w2 hO2 hb2; obtain ⟨A2, n2, c2, rfl, hn2, hc2, hE2⟩ := hO2.opened; have HL2 := Lib.hid hn2; have B2 := Lib.hid (hb1.trans hb2); have HE := Lib.hid hE2; have HC := Lib.hid hc2; clear hO1 hb1 hO2 hb2 hE2 hc2 hn2; have q1 := CA.out _ B2.out; have q2 := CB.out _ B2.out))
                refine (happened_any _ (HT.out.up B2.out)).mono ?_; rintro e w3 ⟨rfl, b3⟩
                have B3 := Lib.hid (up_trans B2.out b3)
                have HE3 := Lib.hid (HE.out.up b3)
                clear b3
                go_wp2_with fail
                refine (RL.out A2 n2 c2 HL2.out HC.out _ HE3.out).mono ?_; rintro e w4 ⟨rfl, b4⟩
                have B4 := Lib.hid (up_trans B3.out b4)
                clear b4
                go_wp2_with fail
                refine (RA.out _ (HA.out.up B4.out)).mono ?_; rintro e w5 ⟨rfl, b5⟩
                have B5 := Lib.hid (up_trans B4.out b5)
                clear b5
                go_wp2_with fail
                refine (RB.out _ (HB.out.up B5.out)).mono ?_; rintro e w6 ⟨rfl, b6⟩
                go_wp2_with fail
                go_ret
                exact ⟨rfl, up_trans B5.out b6⟩
          · have e1 : IntKind.u64.wrap ((p : Int) + 1) = (p : Int) + 1 := by rw [IntKind.wrap_u64]; omega
            have e2 : ((p : Int) + 1 != 0) = true := by rw [bne_iff_ne]; omega
            by_cases hq : q = p + 1
            · rw [on_yes.2 hq] at hR
              have e3 : ((q : Int) == (p : Int) + 1) = true := by rw [beq_iff_eq]; omega
              clear hq hp
              cases hra : runL la with
              | false =>
                have ra0 := fun w h => run_any (some ⟨ga, oa, none⟩) la ca (by have := HN.out; omega) hca hsa w h
                have rl0 := fun A2 n2 c2 (h2 : n2 = ([] ++ la ++ lb).length) (hc : ([] ++ la ++ lb).length ≤ c2) w h => run_len A2 ([] ++ la ++ lb) n2 c2 h2 (by have a1 := HN.out; have a2 := HM.out; simp; omega) hc hsl w h
                rw [hra] at ra0
                rw [show runL ([] ++ la ++ lb) = false by rw [List.nil_append, hR, hra, Bool.false_and]; rfl] at rl0
                have RA := Lib.hid ra0
                have RL := Lib.hid rl0
                simp only [HN.out] at RA
                clear ra0 rl0 hra hR hca hcb hsa hsb hsl
                go_enter Tryd.func8, Tryd.ntmps8
                go_wp2_with (first | (refine wpList_pushE rfl (.tmp 16) (.tmp 17) rfl w.heap.size _ [] (by rfl) (OwnE.nil _ _) (some ⟨ga, oa, none⟩) (n' + 1) ca la (by rfl) HN.out HA.out hA0 (by simp; omega) (Nat.le_refl _) ?_; intro v1 w1 hO1 hb1) | (refine wpList_pushE rfl (.tmp 19) (.tmp 20) rfl w.heap.size v1 ([] ++ la) (by rfl) hO1 (some ⟨gb, ob, none⟩) (m' + 1) cb lb (by rfl) HM.out (HB.out.up hb1) hB0 (by have := HN.out; simp; omega) hb1.size ?_; intro v2 w2 hO2 hb2; obtain ⟨A2, n2, c2, rfl, hn2, hc2, hE2⟩ := hO2.opened; have HL2 := Lib.hid hn2; have B2 := Lib.hid (hb1.trans hb2); have HE := Lib.hid hE2; have HC := Lib.hid hc2; clear hO1 hb1 hO2 hb2 hE2 hc2 hn2; have q1 := CA.out _ B2.out; have q2 := CB.out _ B2.out))
                refine (happened_any _ (HT.out.up B2.out)).mono ?_; rintro e w3 ⟨rfl, b3⟩
                have B3 := Lib.hid (up_trans B2.out b3)
                have HE3 := Lib.hid (HE.out.up b3)
                clear b3
                go_wp2_with fail
                refine (RL.out A2 n2 c2 HL2.out HC.out _ HE3.out).mono ?_; rintro e w4 ⟨rfl, b4⟩
                have B4 := Lib.hid (up_trans B3.out b4)
                clear b4
                go_wp2_with fail
                refine (RA.out _ (HA.out.up B4.out)).mono ?_; rintro e w5 ⟨rfl, b5⟩
                have B5 := Lib.hid (up_trans B4.out b5)
                clear b5
                go_wp2_with fail
                go_ret
                exact ⟨rfl, B5.out⟩
              | true =>
                cases hrb : runL lb with
                | false =>
                  have ra0 := fun w h => run_any (some ⟨ga, oa, none⟩) la ca (by have := HN.out; omega) hca hsa w h
                  have rl0 := fun A2 n2 c2 (h2 : n2 = ([] ++ la ++ lb).length) (hc : ([] ++ la ++ lb).length ≤ c2) w h => run_len A2 ([] ++ la ++ lb) n2 c2 h2 (by have a1 := HN.out; have a2 := HM.out; simp; omega) hc hsl w h
                  rw [hra] at ra0
                  rw [show runL ([] ++ la ++ lb) = false by rw [List.nil_append, hR, hra, hrb]; rfl] at rl0
                  have rb0 := fun w h => run_any (some ⟨gb, ob, none⟩) lb cb (by have := HM.out; omega) hcb hsb w h
                  rw [hrb] at rb0
                  have RB := Lib.hid rb0
                  simp only [HM.out] at RB
                  clear rb0 hrb
                  have RA := Lib.hid ra0
                  have RL := Lib.hid rl0
                  simp only [HN.out] at RA
                  clear ra0 rl0 hra hR hca hcb hsa hsb hsl
                  go_enter Tryd.func8, Tryd.ntmps8
                  go_wp2_with (first | (refine wpList_pushE rfl (.tmp 16) (.tmp 17) rfl w.heap.size _ [] (by rfl) (OwnE.nil _ _) (some ⟨ga, oa, none⟩) (n' + 1) ca la (by rfl) HN.out HA.out hA0 (by simp; omega) (Nat.le_refl _) ?_; intro v1 w1 hO1 hb1) | (refine wpList_pushE rfl (.tmp 19) (.tmp 20) rfl w.heap.size v1 ([] ++ la) (by rfl) hO1 (some ⟨gb, ob, none⟩) (m' + 1) cb lb (by rfl) HM.out (HB.out.up hb1) hB0 (by have := HN.out; simp; omega) hb1.size ?_; intro v2 w2 hO2 hb2; obtain ⟨A2, n2, c2, rfl, hn2, hc2, hE2⟩ := hO2.opened; have HL2 := Lib.hid hn2; have B2 := Lib.hid (hb1.trans hb2); have HE := Lib.hid hE2; have HC := Lib.hid hc2; clear hO1 hb1 hO2 hb2 hE2 hc2 hn2; have q1 := CA.out _ B2.out; have q2 := CB.out _ B2.out))
                  refine (happened_any _ (HT.out.up B2.out)).mono ?_; rintro e w3 ⟨rfl, b3⟩
                  have B3 := Lib.hid (up_trans B2.out b3)
                  have HE3 := Lib.hid (HE.out.up b3)
                  clear b3
                  go_wp2_with fail
                  refine (RL.out A2 n2 c2 HL2.out HC.out _ HE3.out).mono ?_; rintro e w4 ⟨rfl, b4⟩
                  have B4 := Lib.hid (up_trans B3.out b4)
                  clear b4
                  go_wp2_with fail
                  refine (RA.out _ (HA.out.up B4.out)).mono ?_; rintro e w5 ⟨rfl, b5⟩
                  have B5 := Lib.hid (up_trans B4.out b5)
                  clear b5
                  go_wp2_with fail
                  refine (RB.out _ (HB.out.up B5.out)).mono ?_; rintro e w6 ⟨rfl, b6⟩
                  go_wp2_with fail
                  go_ret
                  exact ⟨rfl, up_trans B5.out b6⟩
                | true =>
                  have ra0 := fun w h => run_any (some ⟨ga, oa, none⟩) la ca (by have := HN.out; omega) hca hsa w h
                  have rl0 := fun A2 n2 c2 (h2 : n2 = ([] ++ la ++ lb).length) (hc : ([] ++ la ++ lb).length ≤ c2) w h => run_len A2 ([] ++ la ++ lb) n2 c2 h2 (by have a1 := HN.out; have a2 := HM.out; simp; omega) hc hsl w h
                  rw [hra] at ra0
                  rw [show runL ([] ++ la ++ lb) = true by rw [List.nil_append, hR, hra, hrb]; rfl] at rl0
                  have rb0 := fun w h => run_any (some ⟨gb, ob, none⟩) lb cb (by have := HM.out; omega) hcb hsb w h
                  rw [hrb] at rb0
                  have RB := Lib.hid rb0
                  simp only [HM.out] at RB
                  clear rb0 hrb
                  have RA := Lib.hid ra0
                  have RL := Lib.hid rl0
                  simp only [HN.out] at RA
                  clear ra0 rl0 hra hR hca hcb hsa hsb hsl
                  go_enter Tryd.func8, Tryd.ntmps8
                  go_wp2_with (first | (refine wpList_pushE rfl (.tmp 16) (.tmp 17) rfl w.heap.size _ [] (by rfl) (OwnE.nil _ _) (some ⟨ga, oa, none⟩) (n' + 1) ca la (by rfl) HN.out HA.out hA0 (by simp; omega) (Nat.le_refl _) ?_; intro v1 w1 hO1 hb1) | (refine wpList_pushE rfl (.tmp 19) (.tmp 20) rfl w.heap.size v1 ([] ++ la) (by rfl) hO1 (some ⟨gb, ob, none⟩) (m' + 1) cb lb (by rfl) HM.out (HB.out.up hb1) hB0 (by have := HN.out; simp; omega) hb1.size ?_; intro v2 w2 hO2 hb2; obtain ⟨A2, n2, c2, rfl, hn2, hc2, hE2⟩ := hO2.opened; have HL2 := Lib.hid hn2; have B2 := Lib.hid (hb1.trans hb2); have HE := Lib.hid hE2; have HC := Lib.hid hc2; clear hO1 hb1 hO2 hb2 hE2 hc2 hn2; have q1 := CA.out _ B2.out; have q2 := CB.out _ B2.out))
                  refine (happened_any _ (HT.out.up B2.out)).mono ?_; rintro e w3 ⟨rfl, b3⟩
                  have B3 := Lib.hid (up_trans B2.out b3)
                  have HE3 := Lib.hid (HE.out.up b3)
                  clear b3
                  go_wp2_with fail
                  refine (RL.out A2 n2 c2 HL2.out HC.out _ HE3.out).mono ?_; rintro e w4 ⟨rfl, b4⟩
                  have B4 := Lib.hid (up_trans B3.out b4)
                  clear b4
                  go_wp2_with fail
                  refine (RA.out _ (HA.out.up B4.out)).mono ?_; rintro e w5 ⟨rfl, b5⟩
                  have B5 := Lib.hid (up_trans B4.out b5)
                  clear b5
                  go_wp2_with fail
                  refine (RB.out _ (HB.out.up B5.out)).mono ?_; rintro e w6 ⟨rfl, b6⟩
                  go_wp2_with fail
                  go_ret
                  exact ⟨rfl, up_trans B5.out b6⟩
            · rw [on_no hq] at hR
              have e3 : ((q : Int) == (p : Int) + 1) = false := by rw [beq_eq_false_iff_ne]; omega
              clear hq hp
              cases hra : runL la with
              | false =>
                have ra0 := fun w h => run_any (some ⟨ga, oa, none⟩) la ca (by have := HN.out; omega) hca hsa w h
                have rl0 := fun A2 n2 c2 (h2 : n2 = ([] ++ la ++ lb).length) (hc : ([] ++ la ++ lb).length ≤ c2) w h => run_len A2 ([] ++ la ++ lb) n2 c2 h2 (by have a1 := HN.out; have a2 := HM.out; simp; omega) hc hsl w h
                rw [hra] at ra0
                rw [show runL ([] ++ la ++ lb) = false by rw [List.nil_append, hR, hra, Bool.false_and]; rfl] at rl0
                have RA := Lib.hid ra0
                have RL := Lib.hid rl0
                simp only [HN.out] at RA
                clear ra0 rl0 hra hR hca hcb hsa hsb hsl
                go_enter Tryd.func8, Tryd.ntmps8
                go_wp2_with (first | (refine wpList_pushE rfl (.tmp 16) (.tmp 17) rfl w.heap.size _ [] (by rfl) (OwnE.nil _ _) (some ⟨ga, oa, none⟩) (n' + 1) ca la (by rfl) HN.out HA.out hA0 (by simp; omega) (Nat.le_refl _) ?_; intro v1 w1 hO1 hb1) | (refine wpList_pushE rfl (.tmp 19) (.tmp 20) rfl w.heap.size v1 ([] ++ la) (by rfl) hO1 (some ⟨gb, ob, none⟩) (m' + 1) cb lb (by rfl) HM.out (HB.out.up hb1) hB0 (by have := HN.out; simp; omega) hb1.size ?_; intro v2 w2 hO2 hb2; obtain ⟨A2, n2, c2, rfl, hn2, hc2, hE2⟩ := hO2.opened; have HL2 := Lib.hid hn2; have B2 := Lib.hid (hb1.trans hb2); have HE := Lib.hid hE2; have HC := Lib.hid hc2; clear hO1 hb1 hO2 hb2 hE2 hc2 hn2; have q1 := CA.out _ B2.out; have q2 := CB.out _ B2.out))
                refine (happened_any _ (HT.out.up B2.out)).mono ?_; rintro e w3 ⟨rfl, b3⟩
                have B3 := Lib.hid (up_trans B2.out b3)
                have HE3 := Lib.hid (HE.out.up b3)
                clear b3
                go_wp2_with fail
                refine (RL.out A2 n2 c2 HL2.out HC.out _ HE3.out).mono ?_; rintro e w4 ⟨rfl, b4⟩
                have B4 := Lib.hid (up_trans B3.out b4)
                clear b4
                go_wp2_with fail
                refine (RA.out _ (HA.out.up B4.out)).mono ?_; rintro e w5 ⟨rfl, b5⟩
                have B5 := Lib.hid (up_trans B4.out b5)
                clear b5
                go_wp2_with fail
                go_ret
                exact ⟨rfl, B5.out⟩
              | true =>
                cases hrb : runL lb with
                | false =>
                  have ra0 := fun w h => run_any (some ⟨ga, oa, none⟩) la ca (by have := HN.out; omega) hca hsa w h
                  have rl0 := fun A2 n2 c2 (h2 : n2 = ([] ++ la ++ lb).length) (hc : ([] ++ la ++ lb).length ≤ c2) w h => run_len A2 ([] ++ la ++ lb) n2 c2 h2 (by have a1 := HN.out; have a2 := HM.out; simp; omega) hc hsl w h
                  rw [hra] at ra0
                  rw [show runL ([] ++ la ++ lb) = false by rw [List.nil_append, hR, hra, hrb]; rfl] at rl0
                  have rb0 := fun w h => run_any (some ⟨gb, ob, none⟩) lb cb (by have := HM.out; omega) hcb hsb w h
                  rw [hrb] at rb0
                  have RB := Lib.hid rb0
                  simp only [HM.out] at RB
                  clear rb0 hrb
                  have RA := Lib.hid ra0
                  have RL := Lib.hid rl0
                  simp only [HN.out] at RA
                  clear ra0 rl0 hra hR hca hcb hsa hsb hsl
                  go_enter Tryd.func8, Tryd.ntmps8
                  go_wp2_with (first | (refine wpList_pushE rfl (.tmp 16) (.tmp 17) rfl w.heap.size _ [] (by rfl) (OwnE.nil _ _) (some ⟨ga, oa, none⟩) (n' + 1) ca la (by rfl) HN.out HA.out hA0 (by simp; omega) (Nat.le_refl _) ?_; intro v1 w1 hO1 hb1) | (refine wpList_pushE rfl (.tmp 19) (.tmp 20) rfl w.heap.size v1 ([] ++ la) (by rfl) hO1 (some ⟨gb, ob, none⟩) (m' + 1) cb lb (by rfl) HM.out (HB.out.up hb1) hB0 (by have := HN.out; simp; omega) hb1.size ?_; intro v2 w2 hO2 hb2; obtain ⟨A2, n2, c2, rfl, hn2, hc2, hE2⟩ := hO2.opened; have HL2 := Lib.hid hn2; have B2 := Lib.hid (hb1.trans hb2); have HE := Lib.hid hE2; have HC := Lib.hid hc2; clear hO1 hb1 hO2 hb2 hE2 hc2 hn2; have q1 := CA.out _ B2.out; have q2 := CB.out _ B2.out))
                  refine (happened_any _ (HT.out.up B2.out)).mono ?_; rintro e w3 ⟨rfl, b3⟩
                  have B3 := Lib.hid (up_trans B2.out b3)
                  have HE3 := Lib.hid (HE.out.up b3)
                  clear b3
                  go_wp2_with fail
                  refine (RL.out A2 n2 c2 HL2.out HC.out _ HE3.out).mono ?_; rintro e w4 ⟨rfl, b4⟩
                  have B4 := Lib.hid (up_trans B3.out b4)
                  clear b4
                  go_wp2_with fail
                  refine (RA.out _ (HA.out.up B4.out)).mono ?_; rintro e w5 ⟨rfl, b5⟩
                  have B5 := Lib.hid (up_trans B4.out b5)
                  clear b5
                  go_wp2_with fail
                  refine (RB.out _ (HB.out.up B5.out)).mono ?_; rintro e w6 ⟨rfl, b6⟩
                  go_wp2_with fail
                  go_ret
                  exact ⟨rfl, up_trans B5.out b6⟩
                | true =>
                  have ra0 := fun w h => run_any (some ⟨ga, oa, none⟩) la ca (by have := HN.out; omega) hca hsa w h
                  have rl0 := fun A2 n2 c2 (h2 : n2 = ([] ++ la ++ lb).length) (hc : ([] ++ la ++ lb).length ≤ c2) w h => run_len A2 ([] ++ la ++ lb) n2 c2 h2 (by have a1 := HN.out; have a2 := HM.out; simp; omega) hc hsl w h
                  rw [hra] at ra0
                  rw [show runL ([] ++ la ++ lb) = false by rw [List.nil_append, hR, hra, hrb]; rfl] at rl0
                  have rb0 := fun w h => run_any (some ⟨gb, ob, none⟩) lb cb (by have := HM.out; omega) hcb hsb w h
                  rw [hrb] at rb0
                  have RB := Lib.hid rb0
                  simp only [HM.out] at RB
                  clear rb0 hrb
                  have RA := Lib.hid ra0
                  have RL := Lib.hid rl0
                  simp only [HN.out] at RA
                  clear ra0 rl0 hra hR hca hcb hsa hsb hsl
                  go_enter Tryd.func8, Tryd.ntmps8
                  go_wp2_with (first | (refine wpList_pushE rfl (.tmp 16) (.tmp 17) rfl w.heap.size _ [] (by rfl) (OwnE.nil _ _) (some ⟨ga, oa, none⟩) (n' + 1) ca la (by rfl) HN.out HA.out hA0 (by simp; omega) (Nat.le_refl _) ?_; intro v1 w1 hO1 hb1) | (refine wpList_pushE rfl (.tmp 19) (.tmp 20) rfl w.heap.size v1 ([] ++ la) (by rfl) hO1 (some ⟨gb, ob, none⟩) (m' + 1) cb lb (by rfl) HM.out (HB.out.up hb1) hB0 (by have := HN.out; simp; omega) hb1.size ?_; intro v2 w2 hO2 hb2; obtain ⟨A2, n2, c2, rfl, hn2, hc2, hE2⟩ := hO2.opened; have HL2 := Lib.hid hn2; have B2 := Lib.hid (hb1.trans hb2); have HE := Lib.hid hE2; have HC := Lib.hid hc2; clear hO1 hb1 hO2 hb2 hE2 hc2 hn2; have q1 := CA.out _ B2.out; have q2 := CB.out _ B2.out))
                  refine (happened_any _ (HT.out.up B2.out)).mono ?_; rintro e w3 ⟨rfl, b3⟩
                  have B3 := Lib.hid (up_trans B2.out b3)
                  have HE3 := Lib.hid (HE.out.up b3)
                  clear b3
                  go_wp2_with fail
                  refine (RL.out A2 n2 c2 HL2.out HC.out _ HE3.out).mono ?_; rintro e w4 ⟨rfl, b4⟩
                  have B4 := Lib.hid (up_trans B3.out b4)
                  clear b4
                  go_wp2_with fail
                  refine (RA.out _ (HA.out.up B4.out)).mono ?_; rintro e w5 ⟨rfl, b5⟩
                  have B5 := Lib.hid (up_trans B4.out b5)
                  clear b5
                  go_wp2_with fail
                  refine (RB.out _ (HB.out.up B5.out)).mono ?_; rintro e w6 ⟨rfl, b6⟩
                  go_wp2_with fail
                  go_ret
                  exact ⟨rfl, up_trans B5.out b6⟩

end Go.Proofs.YtjiepfcohhbjkaaDoor
