/- Whatever is wrong in a body, it is no batch's: the contracts of the closure batch.read$1, which recovers. -/
import Derived.Test.YtalfmkgcelipdaaDoorBatE
import Derived.Test.YtalfmkgcelipdaaDoorBatD
import Derived.Defers
import Derived.Recover
namespace Go.Proofs.YtalfmkgcelipdaaDoor
open Go.RowKit Wire Evt Bat

def zbt : List Value := btc 0 (.slice none 0 0) (List.replicate 32 0)
theorem btc_length (first : Nat) (v : Value) {prev : List UInt8} (h : prev.length = 32) : (btc first v prev).length = 34 := by simp [btc, bys, h]
theorem info_batch : (Tryd.prog.info? 27).map (·.size) = some 34 := by kernel_rfl
theorem btc_one (first A n cap) (prev : List UInt8) : ∀ v ∈ btc first (.slice A n cap) prev, v.oneCell' = true := by
  intro v hv
  rcases List.mem_cons.1 hv with rfl | hv
  · rfl
  rcases List.mem_cons.1 hv with rfl | hv
  · rfl
  exact bys_one prev v hv

theorem Only2.store {w w1 w' : World} {g g2 b : Nat} (h : Only2 w w1 g g2) (ho : Only w1 w' b) (hb : b = g ∨ b = g2) : Only2 w w' g g2 :=
  ⟨Nat.le_trans h.size (Nat.le_of_eq ho.size.symm), fun h1 h2 k => ho.keep (by rcases hb with rfl | rfl <;> assumption) (h.keep h1 h2 k), fun h1 h2 hB k => ho.below (by rcases hb with rfl | rfl <;> assumption) (h.below h1 h2 hB k)⟩

def caught : PanicEntry := { v := .iface 29 (.int .i64 3), recovered := true }

set_option maxHeartbeats 1600000 in
set_option maxRecDepth 100000 in
theorem catch_yes (gb ge : Nat) (x : Value) (L : List Value) (hL : L.length = 34) (hne : gb ≠ ge) (w : World) (hb : Has w gb 27 L) (he : Has w ge 29 [x]) :
    CallsD Tryd.prog 52 #[.pointer (some ⟨gb, 0, none⟩), .pointer (some ⟨ge, 0, none⟩)] (.panicking [thrown]) w fun e u' w' =>
      e = .returned (.tuple #[]) ∧ u' = .panicking [caught] ∧ Has w' gb 27 zbt ∧ Has w' ge 29 [.int .i64 3] ∧ Only2 w w' gb ge := by
  refine callsD_of_wpS Tryd.func52 rfl fun c₀ cs hu => ?_
  apply wpS_seq
  apply wpS_region
  simp [wpOpsS, go_sem, recoverD, hu, thrown, Tryd.ntmps52, Exit.thenS]
  refine wpS_cond (t := true) (by simp [Act.eval, Array.replicate]) ?_
  simp only [if_true]
  refine wpS_of_wp ?_
  change Code.wp Tryd.prog _ _ { tmps := #[.pointer (some ⟨gb, 0, none⟩), .pointer (some ⟨ge, 0, none⟩), .iface 29 (.int .i64 3), .bool true, undef], defers := [] } w
  have hi := info_batch
  have hz : zbt.length = 34 := btc_length _ _ (by simp)
  have ho := btc_one 0 none 0 0 (List.replicate 32 0)
  have HB := Lib.hid hb
  have HE := Lib.hid he
  have h1 := he.at (i := 0) rfl
  clear hb he
  go_wp2_with (refine wpList_store_whole rfl 27 _ _ rfl gb 27 L zbt (by rfl) (by rfl) HB.out (by rw [hz, hL]) (by rw [hi, hz]) ho ?_; intro w2 hF hO; have e1 := hO.keep hne.symm HE.out; have e2 := e1.at (i := 0) rfl; have e3 := e1.free 0)
  cases c₀
  simp only [bodyPostS, true_and]
  refine ⟨_, rfl, .tuple #[], by simp [results, Tryd.results52], rfl, rfl, hF.other hne _, e1.set 0 _, ?_⟩
  exact ((Only2.refl w gb ge).store hO (Or.inl rfl)).set (Or.inr rfl) _

theorem catch_idle (p q : Addr) (w : World) :
    CallsD Tryd.prog 52 #[.pointer (some p), .pointer (some q)] .returning w fun e u' w' => e = .returned (.tuple #[]) ∧ u' = .returning ∧ w' = w := by
  refine callsD_of_wpS Tryd.func52 rfl fun c₀ cs hu => ?_
  apply wpS_seq
  apply wpS_region
  simp [wpOpsS, go_sem, recoverD, hu, Tryd.ntmps52, Exit.thenS]
  refine wpS_cond (t := false) (by simp [Act.eval, Array.replicate]) ?_
  simp only [Bool.false_eq_true, if_false]
  refine wpS_of_wp (wp_skip ?_)
  cases c₀
  simp_all [bodyPostS, results, Tryd.results52]

end Go.Proofs.YtalfmkgcelipdaaDoor
