/- Rows and batches that are the same: contracts of the document's own Same, at what is the same; batch.Put at what is not right; batch.Last. -/
import Derived.Test.YtalfmkgcelipdaaDoorBatL
import Derived.Test.YtalfmkgcelipdaaDoorBase
import Derived.Test.YtalfmkgcelipdaaDoorEvRunB
import Derived.Laws.StructEq
namespace Go.Proofs.YtalfmkgcelipdaaDoor
open Go.RowKit Wire Evt Bat

set_option maxHeartbeats 1000000 in
set_option maxRecDepth 100000 in
theorem esame_any (A A' : Option Addr) (l : List Ev) (n cap cap' : Nat) (hn : n = l.length) (hcap : n ≤ cap) (hcap' : n ≤ cap') (hm : l.length ≤ 100000) (w : World) (hA : EvSl w A l) (hA' : EvSl w A' l) :
    Calls Tryd.prog 50 #[.slice A n cap, .slice A' n cap'] w fun e w' => e = .returned (.bool true) ∧ Below w.heap.size w w' := by
  have HN := Lib.hid hn
  have HA := Lib.hid hA
  have HA' := Lib.hid hA'
  have hm' : n ≤ 100000 := by omega
  clear hn hA hA' hm
  go_enter Tryd.func50, Tryd.ntmps50
  go_wp2_with fail
  go_loopw [5] (fun i wr => ∃ k : Nat, k ≤ n ∧ i = .int .i64 (k : Nat) ∧ Hid (Below w.heap.size w wr)) (fun i _ => n - (intOf i).toNat)
  case atStart => exact ⟨0, by omega, rfl, Lib.hid (Below.refl _ _)⟩
  case round =>
    obtain ⟨k, hk, rfl, hB⟩ := hrel
    by_cases hlt : k < n
    · obtain ⟨x, hx⟩ : ∃ x, l[k]? = some x := ⟨_, List.getElem?_eq_getElem (by rw [← HN.out]; exact hlt)⟩
      obtain ⟨g, o, rfl, hev⟩ := (HA.out.up hB.out) (by rw [← HN.out]; omega)
      obtain ⟨g', o', rfl, hev'⟩ := (HA'.out.up hB.out) (by rw [← HN.out]; omega)
      have HK := Lib.hid (fun W (h : Below wr.heap.size wr W) => And.intro (ev_at (hev.up h) hx) (ev_at (hev'.up h) hx))
      have hk0 : (0 : Int) ≤ (k : Int) := by omega
      have hk1 : (k : Int) < (n : Int) := by omega
      have hk2 : (k : Int) ≤ 100000 := by omega
      obtain ⟨s, t, p, kd, a, b⟩ := x
      simp only at HK
      clear hev hev' hx
      go_wp2_with fail
      refine wp_region_held_drew (S := fun W => (W.cell? ⟨g, o + k * 6, none⟩ = some (.int .u64 (s : Nat)) ∧ W.cell? ⟨g, o + k * 6 + 1, none⟩ = some (.int .i64 t) ∧ W.cell? ⟨g, o + k * 6 + 2, none⟩ = some (.int .i64 p) ∧ W.cell? ⟨g, o + k * 6 + 3, none⟩ = some (.int .i64 kd) ∧ W.cell? ⟨g, o + k * 6 + 4, none⟩ = some (.int .i64 a) ∧ W.cell? ⟨g, o + k * 6 + 5, none⟩ = some (.int .i64 b)) ∧ (W.cell? ⟨g', o' + k * 6, none⟩ = some (.int .u64 (s : Nat)) ∧ W.cell? ⟨g', o' + k * 6 + 1, none⟩ = some (.int .i64 t) ∧ W.cell? ⟨g', o' + k * 6 + 2, none⟩ = some (.int .i64 p) ∧ W.cell? ⟨g', o' + k * 6 + 3, none⟩ = some (.int .i64 kd) ∧ W.cell? ⟨g', o' + k * 6 + 4, none⟩ = some (.int .i64 a) ∧ W.cell? ⟨g', o' + k * 6 + 5, none⟩ = some (.int .i64 b))) (by kernel_rfl) (HK.out _ (Below.refl _ _).drew) (fun hHeld => ?_)
      refine wpAnyH_take (i := 0) (v := ?_) rfl (by kernel_rfl) (by kernel_rfl) (by kernel_rfl) (fun _ _ _ h => h) (Or.inl ⟨by rfl, ?_⟩) (by assumption) ?_
      rotate_left
      · intro w hSw; (try dsimp only at hSw); go_simp; try with_reducible rfl
      try simp only [Act.put, List.getElem_toArray, List.getElem_cons_zero, List.setIfInBounds_toArray, List.set_cons_zero, List.set_cons_succ]
      refine wpAnyH_take (i := 1) (v := ?_) rfl (by kernel_rfl) (by kernel_rfl) (by kernel_rfl) (fun _ _ _ h => h) (Or.inl ⟨by rfl, ?_⟩) (by assumption) ?_
      rotate_left
      · intro w hSw; (try dsimp only at hSw); go_simp; try with_reducible rfl
      try simp only [Act.put, List.getElem_toArray, List.getElem_cons_zero, List.getElem_cons_succ, List.setIfInBounds_toArray, List.set_cons_zero, List.set_cons_succ]
      refine wpAnyH_take (i := 2) (v := ?_) rfl (by kernel_rfl) (by kernel_rfl) (by kernel_rfl) (fun _ _ _ h => h) (Or.inl ⟨by rfl, ?_⟩) (by assumption) ?_
      rotate_left
      · intro w hSw; (try dsimp only at hSw); go_simp; try with_reducible rfl
      try simp only [Act.put, List.getElem_toArray, List.getElem_cons_zero, List.getElem_cons_succ, List.setIfInBounds_toArray, List.set_cons_zero, List.set_cons_succ]
      refine wpAnyH_take (i := 3) (v := ?_) rfl (by kernel_rfl) (by kernel_rfl) (by kernel_rfl) (fun _ _ _ h => h) (Or.inl ⟨by rfl, ?_⟩) (by assumption) ?_
      rotate_left
      · intro w hSw; (try dsimp only at hSw); go_simp; try with_reducible rfl
      try simp only [Act.put, List.getElem_toArray, List.getElem_cons_zero, List.getElem_cons_succ, List.setIfInBounds_toArray, List.set_cons_zero, List.set_cons_succ]
      refine wpAnyH_take (i := 4) (v := ?_) rfl (by kernel_rfl) (by kernel_rfl) (by kernel_rfl) (fun _ _ _ h => h) (Or.inl ⟨by rfl, ?_⟩) (by assumption) ?_
      rotate_left
      · intro w hSw; (try dsimp only at hSw); go_simp; try with_reducible rfl
      try simp only [Act.put, List.getElem_toArray, List.getElem_cons_zero, List.getElem_cons_succ, List.setIfInBounds_toArray, List.set_cons_zero, List.set_cons_succ]
      refine wpAnyH_take (i := 5) (v := ?_) rfl (by kernel_rfl) (by kernel_rfl) (by kernel_rfl) (fun _ _ _ h => h) (Or.inl ⟨by rfl, ?_⟩) (by assumption) ?_
      rotate_left
      · intro w hSw; (try dsimp only at hSw); go_simp; try with_reducible rfl
      try simp only [Act.put, List.getElem_toArray, List.getElem_cons_zero, List.getElem_cons_succ, List.setIfInBounds_toArray, List.set_cons_zero, List.set_cons_succ]
      refine wpAnyH_take (i := 6) (v := ?_) rfl (by kernel_rfl) (by kernel_rfl) (by kernel_rfl) (fun _ _ _ h => h) (Or.inl ⟨by rfl, ?_⟩) (by assumption) ?_
      rotate_left
      · intro w hSw; (try dsimp only at hSw); go_simp; try with_reducible rfl
      try simp only [Act.put, List.getElem_toArray, List.getElem_cons_zero, List.getElem_cons_succ, List.setIfInBounds_toArray, List.set_cons_zero, List.set_cons_succ]
      refine wpAnyH_take (i := 7) (v := ?_) rfl (by kernel_rfl) (by kernel_rfl) (by kernel_rfl) (fun _ _ _ h => h) (Or.inl ⟨by rfl, ?_⟩) (by assumption) ?_
      rotate_left
      · intro w hSw; (try dsimp only at hSw); go_simp; try with_reducible rfl
      try simp only [Act.put, List.getElem_toArray, List.getElem_cons_zero, List.getElem_cons_succ, List.setIfInBounds_toArray, List.set_cons_zero, List.set_cons_succ]
      refine wpAnyH_take (i := 8) (v := ?_) rfl (by kernel_rfl) (by kernel_rfl) (by kernel_rfl) (fun _ _ _ h => h) (Or.inl ⟨by rfl, ?_⟩) (by assumption) ?_
      rotate_left
      · intro w hSw; (try dsimp only at hSw); go_simp; try with_reducible rfl
      try simp only [Act.put, List.getElem_toArray, List.getElem_cons_zero, List.getElem_cons_succ, List.setIfInBounds_toArray, List.set_cons_zero, List.set_cons_succ]
      refine wpAnyH_done (by kernel_rfl) ?_ _
      go_wp2_with fail
      go_roundw
      case rel => exact ⟨k + 1, by omega, by go_num, Lib.hid (up_trans hB.out (Below.refl _ _).drew)⟩
      case measure => simp [intOf]; omega
    · obtain rfl : k = n := by omega
      go_wp2_with fail
      go_ret
      exact ⟨rfl, hB.out⟩

theorem bys_nums (l : List UInt8) : bys l = nums .u8 (l.map (·.toNat)) := by simp [bys, nums]

/-- An array in the midst of a block, read by an operation that waits for a test. -/
theorem wpList_load_mid_wanted {P : Program} {ops : Array Oper} {rest : List Oper} {op : Oper} {a : Act} {w : World} {Q : Exit → Act → World → Prop} (hw : Region.wanted op (yielded ops a.tmps) = true) (ty : TypeId) (x : Operand) (ho : op.op = .load ty x)
    (b o : Nat) (hx : a.eval x = .pointer (some ⟨b, o, none⟩)) (cs : List Value) (d : TypeDesc) (hc : w.rangeAt b o cs)
    (hu : P.underlying ty = some d) (hd : d.isRow = true) (hi : (P.info? ty).map (·.size) = some cs.length)
    (h : wpList P ops Q rest (a.put op.dst (.agg cs.toArray)) w) : wpList P ops Q (op :: rest) a w :=
  wpList_wanted hw fun _ hK => wp_load_mid ty x ho b o hx cs d hc hu hd hi (hK _ _ h)

theorem OwnE.slice {B : Nat} {A : Option Addr} {n cap : Nat} {l : List Ev} {w : World} (h : OwnE B (.slice A n cap) l w) : n = l.length ∧ l.length ≤ cap ∧ EvSl w A l := by
  obtain ⟨A', n', cap', he, h1, h2, h3⟩ := h.opened
  injection he with e1 e2 e3
  subst e1 e2 e3
  exact ⟨h1, h2, h3⟩

set_option maxHeartbeats 2000000 in
set_option maxRecDepth 100000 in
theorem same_any (first : Nat) (p : List UInt8) (hp : p.length = 32) (A A' : Option Addr) (l : List Ev) (n cap cap' : Nat) (hn : n = l.length) (hcap : n ≤ cap) (hcap' : n ≤ cap') (hm : l.length ≤ 100000) (w : World) (hA : EvSl w A l) (hA' : EvSl w A' l) :
    Calls Tryd.prog 27 #[.agg (btc first (.slice A n cap) p).toArray, .agg (btc first (.slice A' n cap') p).toArray] w fun e w' => e = .returned (.bool true) ∧ Below w.heap.size w w' := by
  have i1 := fun w hA hA' => esame_any A A' l n cap cap' hn hcap hcap' hm w hA hA'
  have I := Lib.hid i1
  have HX := Lib.hid ((Has.make w 27 (btc first (.slice A n cap) p)).alloc (.cells (btc first (.slice A' n cap') p).toArray 27))
  have HY := Lib.hid (Has.make2 w (.cells (btc first (.slice A n cap) p).toArray 27) 27 (btc first (.slice A' n cap') p))
  have R1 := Lib.hid (btc_range HX.out)
  have R2 := Lib.hid (btc_range HY.out)
  have x0 := HX.out.at (i := 0) (v := .int .u64 (first : Nat)) rfl
  have x1 := HX.out.at (i := 1) (v := .slice A n cap) rfl
  have y0 := HY.out.at (i := 0) (v := .int .u64 (first : Nat)) rfl
  have y1 := HY.out.at (i := 1) (v := .slice A' n cap') rfl
  have hbl : (bys p).length = 32 := by rw [bys_length, hp]
  have hi := info_digest
  have hu := Tryd.underlying25
  have heq : ∀ W, (binOp .eql 25 (.agg (bys p).toArray) (.agg (bys p).toArray)).run Tryd.prog W = .ok (.bool true) W := fun W => by
    rw [bys_nums]; exact eql_sums _ (by simp [hp]) W
  generalize btc first (.slice A n cap) p = L at *
  generalize btc first (.slice A' n cap') p = L' at *
  have B1 := Lib.hid (up_alloc (up_alloc (Below.refl w.heap.size w) (.cells L.toArray 27)) (.cells L'.toArray 27))
  have HA := Lib.hid hA
  have HA' := Lib.hid hA'
  clear i1 hA hA' hn hcap hcap' hm HX HY
  go_enter Tryd.func27, Tryd.ntmps27
  go_wp2_with (first
    | (refine wpList_load_mid_wanted (by rfl) 25 _ rfl w.heap.size 2 (by rfl) (bys p) _ R1.out hu rfl (by rw [hi, hbl]) ?_)
    | (refine wpList_load_mid_wanted (by rfl) 25 _ rfl (w.heap.size + 1) 2 (by rfl) (bys p) _ R2.out hu rfl (by rw [hi, hbl]) ?_))
  refine (I.out _ (HA.out.up B1.out) (HA'.out.up B1.out)).mono ?_; rintro e w2 ⟨rfl, b2⟩
  go_wp2_with fail
  go_ret
  exact ⟨rfl, up_trans B1.out b2⟩

set_option maxHeartbeats 1000000 in
set_option maxRecDepth 100000 in
theorem bput_no (b : Bt) (hf : b.Fits) (h : isB b.first b.evs = false) (hm : b.evs.length ≤ 140737488355327) (A : Option Addr) (n cap : Nat) (hn : n = b.evs.length) (hcap : b.evs.length ≤ cap) (w : World) (hA : EvSl w A b.evs) :
    Calls Tryd.prog 6 #[.agg (btc b.first (.slice A n cap) b.prev).toArray] w fun e w' => e = .returned (.tuple #[.string ⟨#[]⟩, .int .i64 1]) ∧ Below w.heap.size w w' := by
  have i1 := fun w hA => bis_any b.first b.evs b.prev hf.seqs A n cap hn hcap hm w hA
  rw [h] at i1
  have I := Lib.hid i1
  have hlen := btc_length b.first (.slice A n cap) hf.prev
  have hi := info_batch
  have hu := Tryd.underlying27
  have HA := Lib.hid hA
  have HX := Lib.hid (Has.make w 27 (btc b.first (.slice A n cap) b.prev))
  generalize btc b.first (.slice A n cap) b.prev = L at *
  have B1 := Lib.hid (up_alloc (Below.refl w.heap.size w) (.cells L.toArray 27))
  clear i1 h hA hn hcap hm
  go_enter Tryd.func6, Tryd.ntmps6
  go_wp2_with (refine wpList_load_row rfl 27 _ rfl w.heap.size (by rfl) _ _ _ _ HX.out hu rfl (by rw [hi, List.size_toArray, hlen]) ?_)
  refine (I.out _ (HA.out.up B1.out)).mono ?_; rintro e w2 ⟨rfl, b2⟩
  go_wp2_with fail
  go_ret2
  exact ⟨rfl, up_trans B1.out b2⟩

/-- What batch.Put gives. -/
theorem bput_any (b : Bt) (hf : b.Fits) (hm : b.evs.length ≤ 140737488355327) (A : Option Addr) (n cap : Nat) (hn : n = b.evs.length) (hcap : b.evs.length ≤ cap) (w : World) (hA : EvSl w A b.evs) :
    Calls Tryd.prog 6 #[.agg (btc b.first (.slice A n cap) b.prev).toArray] w fun e w' => e = .returned (.tuple #[.string ⟨(putB b).1.toArray⟩, .int .i64 ((putB b).2 : Nat)]) ∧ Below w.heap.size w w' := by
  cases h : isB b.first b.evs with
  | true =>
    rw [putB_yes h]
    exact bput_yes b hf h A n cap hn hcap w hA
  | false =>
    rw [putB_no h]
    exact bput_no b hf h hm A n cap hn hcap w hA

/-- The number that follows, less 1, in 64 bits. -/
def lastB (first n : Nat) : Nat := (first + n + 18446744073709551615) % 18446744073709551616
theorem blast_any (first n : Nat) (hn : n ≤ 140737488355327) (A : Option Addr) (cap : Nat) (p : List UInt8) (w : World) :
    Calls Tryd.prog 13 #[.agg (btc first (.slice A n cap) p).toArray] w fun e w' => e = .returned (.int .u64 (lastB first n : Nat)) ∧ Below w.heap.size w w' := by
  have L0 : (btc first (.slice A n cap) p)[0]? = some (.int .u64 (first : Nat)) := rfl
  have L1 : (btc first (.slice A n cap) p)[1]? = some (.slice A n cap) := rfl
  generalize btc first (.slice A n cap) p = L at *
  have B1 := Lib.hid (up_alloc (Below.refl w.heap.size w) (.cells L.toArray 27))
  have HR := Lib.hid (show IntKind.u64.wrap (IntKind.u64.wrap ((first : Int) + (n : Int)) - 1) = ((lastB first n : Nat) : Int) by
    simp only [IntKind.wrap_u64]; unfold lastB; omega)
  go_enter Tryd.func13, Tryd.ntmps13
  go_wp2_with fail
  go_ret
  exact ⟨by rw [← HR.out]; rfl, B1.out⟩

end Go.Proofs.YtalfmkgcelipdaaDoor
