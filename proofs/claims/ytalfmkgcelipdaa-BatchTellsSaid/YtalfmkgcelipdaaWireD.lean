/- A number, taken: the contract of the document's own Take. -/
import Derived.Test.YtalfmkgcelipdaaWireC
namespace Go.Proofs.Ytalfmkgcelipdaa
open Go.RowKit Wire

theorem Mid.big {l : List UInt8} {k x : Nat} (h : Mid l k x) (hk : k = 9) (hl : k < l.length) {c : UInt8} (hc : l[k] = c) (h1 : 1 < c.toNat) : tk l = (0, [], 6) := by
  have ha := h.all
  rw [drop_at hl, hc] at ha
  subst hk
  rw [← ha, tkGo_big h1]

set_option maxHeartbeats 1600000 in
set_option maxRecDepth 100000 in
theorem rtake_any (s : ByteArray) (hs : s.size ≤ maxLen) (w : World) :
    Calls Try.prog 32 #[.string s] w fun e w' => e = .returned (.tuple #[.int .u64 ((tk s.data.toList).1 : Nat), .string ⟨(tk s.data.toList).2.1.toArray⟩, .int .i64 ((tk s.data.toList).2.2 : Nat)]) ∧ Below w.heap.size w w' := by
  unfold maxLen at hs
  have hS := Lib.hid (Mid.start s.data.toList)
  go_enter Try.func32, Try.ntmps32
  go_wp2_with fail
  go_loop [5, 6] (fun n i => ∃ k x : Nat, k ≤ 10 ∧ k ≤ s.size ∧ i = .int .i64 k ∧ n = .int .u64 (x : Nat) ∧ Hid (Mid s.data.toList k x)) (fun _ i => 10 - (intOf i).toNat)
  case atStart => exact ⟨0, 0, by omega, by omega, rfl, rfl, hS⟩
  case round =>
    obtain ⟨k, x, hk, hks, rfl, rfl, hH⟩ := hrel
    clear hS
    by_cases hlt : k < 10
    · by_cases hsz : k < s.size
      · have k0 : (0 : Int) ≤ (k : Int) := by omega
        have k1 : (k : Int) < (s.size : Int) := by omega
        have k1' : ¬ (s.size : Int) ≤ (k : Int) := by omega
        have k9 : (k : Int) ≤ 9 := by omega
        have hkl : k < s.data.toList.length := by simp; omega
        have hx := hH.out.lt
        have hb := s[k].toNat_lt
        by_cases hA : k = 9 ∧ 1 < s[k].toNat
        · have R := Lib.hid (hH.out.big hA.1 hkl (c := s[k]) rfl hA.2)
          have d9 : ((k : Int) == 9) = true := by rw [beq_iff_eq]; omega
          have d1 : decide (1 < s[k].toNat) = true := by simpa using hA.2
          have d0 : (1 : Int) < (s[k].toNat : Int) := by omega
          clear hA
          go_wp2_with fail
          go_ret3
          exact ⟨by rw [R.out]; rfl, Below.refl _ _⟩
        · have x2 := wrap_sev s[k] k
          have e1 := nxt_val hH.out hlt hA
          have hN := nxt_lt hH.out s[k]
          have x3 : IntKind.u64.wrap ((x : Int) + ((shv s[k] k : Nat) : Int)) = ((nxt x s[k] k : Nat) : Int) := by
            rw [IntWalk.u64_in _ (by rw [shv_val hlt hA]; omega), shv_val hlt hA, e1]; omega
          have HA := Lib.hid hA
          clear e1
          by_cases hc : s[k].toNat < 128
          · have hc' : (s[k].toNat : Int) < 128 := by omega
            have hL := hH.out.land (by omega) hkl (c := s[k]) rfl hc
            by_cases hB : s[k].toNat = 0 ∧ 0 < k
            · have R := Lib.hid (hL.zero hB.2 hB.1)
              have d1 : ¬ (1 : Int) < (s[k].toNat : Int) := by omega
              have d1' : decide ((1 : Int) < (s[k].toNat : Int)) = false := by simp; omega
              have d2 : decide (0 < k) = true := by simpa using hB.2
              have d0 : 0 < k := hB.2
              have d3 : ((s[k].toNat : Int) == 0) = true := by rw [beq_iff_eq]; omega
              clear hA hB hL hc
              by_cases h9 : k = 9
              · have d9 : ((k : Int) == 9) = true := by rw [beq_iff_eq]; omega
                clear h9
                go_wp2_with fail
                go_ret3
                exact ⟨by rw [R.out]; rfl, Below.refl _ _⟩
              · have d9 : ((k : Int) == 9) = false := by rw [beq_eq_false_iff_ne]; omega
                clear h9
                go_wp2_with fail
                go_ret3
                exact ⟨by rw [R.out]; rfl, Below.refl _ _⟩
            · have R := Lib.hid (hL.fine hA hB)
              have F := Lib.hid (front_of s (k + 1))
              have e1 := IntWalk.i64_in ((k : Int) + 1) (by omega)
              have e2 : (0 : Int) ≤ (k : Int) + 1 := by omega
              have e3 : ((k : Int) + 1).toNat = k + 1 := by omega
              have e4 : (k : Int) + 1 ≤ (s.size : Int) := by omega
              have E : Hid (Ending.returned (.tuple #[.int .u64 (nxt x s[k] k : Nat), .string (s.extract (k + 1) s.size), .int .i64 0]) = .returned (.tuple #[.int .u64 ((tk s.data.toList).1 : Nat), .string ⟨(tk s.data.toList).2.1.toArray⟩, .int .i64 ((tk s.data.toList).2.2 : Nat)])) := Lib.hid (by
                rw [R.out, F.out]; rfl)
              clear R F hL hc
              by_cases h0 : k = 0
              · have d2 : decide (0 < k) = false := by simp; omega
                have d9 : ((k : Int) == 9) = false := by rw [beq_eq_false_iff_ne]; omega
                clear hA hB h0
                by_cases hz : s[k].toNat = 0
                · have d3 : ((s[k].toNat : Int) == 0) = true := by rw [beq_iff_eq]; omega
                  clear hz
                  go_wp2_with fail
                  go_quiet (fail)
                  go_wp2_with fail
                  go_ret3
                  exact ⟨E.out, below_drewN (Below.refl _ _) _⟩
                · have d3 : ((s[k].toNat : Int) == 0) = false := by rw [beq_eq_false_iff_ne]; omega
                  clear hz
                  go_wp2_with fail
                  go_quiet (fail)
                  go_wp2_with fail
                  go_ret3
                  exact ⟨E.out, below_drewN (Below.refl _ _) _⟩
              · have d3 : ((s[k].toNat : Int) == 0) = false := by rw [beq_eq_false_iff_ne]; omega
                by_cases h9 : k = 9
                · have d9 : ((k : Int) == 9) = true := by rw [beq_iff_eq]; omega
                  have d1 : ¬ (1 : Int) < (s[k].toNat : Int) := by omega
                  have d1' : decide ((1 : Int) < (s[k].toNat : Int)) = false := by simp; omega
                  clear hA hB h0 h9
                  go_wp2_with fail
                  go_quiet (fail)
                  go_wp2_with fail
                  go_ret3
                  exact ⟨E.out, below_drewN (Below.refl _ _) _⟩
                · have d9 : ((k : Int) == 9) = false := by rw [beq_eq_false_iff_ne]; omega
                  clear hA hB h0 h9
                  go_wp2_with fail
                  go_quiet (fail)
                  go_wp2_with fail
                  go_ret3
                  exact ⟨E.out, below_drewN (Below.refl _ _) _⟩
          · have hc' : ¬ (s[k].toNat : Int) < 128 := by omega
            have HL := Lib.hid (hH.out.next (by omega) hkl (c := s[k]) rfl (by omega))
            have d9 : ((k : Int) == 9) = false := by rw [beq_eq_false_iff_ne]; omega
            clear hc hA
            go_wp2_with fail
            go_round
            case rel => exact ⟨k + 1, _, by omega, by omega, by go_num, rfl, HL⟩
            case measure => simp [intOf]; omega
      · have R := Lib.hid (hH.out.more (by simp; omega) (by simp; omega))
        have h' : (s.size : Int) ≤ (k : Int) := by omega
        go_wp2_with fail
        go_ret3
        exact ⟨by rw [R.out]; rfl, Below.refl _ _⟩
    · obtain rfl : k = 10 := by omega
      have R := Lib.hid hH.out.range
      go_wp2_with fail
      go_ret3
      exact ⟨by rw [R.out]; rfl, Below.refl _ _⟩
end Go.Proofs.Ytalfmkgcelipdaa
