/- chain.Link, first part: a copy of a slice of events; a batch put together of it. -/
import Derived.Test.YthhcopeejhhpgaaDoorChLink
import Derived.Laws.Tables
namespace Go.Proofs.YthhcopeejhhpgaaDoor
open Go.RowKit Wire Evt Bat Crc Chn

/-- A copy of the events of any slice, nil too. -/
theorem clone_any (A : Option Addr) (l : List Ev) (n c : Nat) (hn : n = l.length) (hm : l.length ≤ 1000) (w : World) (hA : EvSl w A l) :
    Calls Tryd.prog 23 #[.slice A n c] w fun e w' => ∃ A' n' c', e = .returned (.slice A' n' c') ∧ OwnE w.heap.size (.slice A' n' c') l w' ∧ Below w.heap.size w w' := by
  have q : ∀ (w : World) (a : Option Addr) (n c n' c' : Nat), (binOp .eql 24 (.slice a n c) (.slice none n' c')).run Tryd.prog w = .ok (.bool a.isNone) w := fun w a n c n' c' => Lib.run_eql_slice_nil w _ _ a n c n' c' Tryd.underlying24
  cases A with
  | none =>
    have hl : l = [] := by
      cases l with
      | nil => rfl
      | cons x m =>
        obtain ⟨g, o, h, _⟩ := hA (by simp)
        cases h
    subst hl
    clear hA hm
    go_enter Tryd.func23, Tryd.ntmps23
    go_wp2_with fail
    go_ret
    exact ⟨none, 0, 0, rfl, OwnE.nil _ _, Below.refl _ _⟩
  | some ad =>
    have HA := Lib.hid hA
    have HN := Lib.hid hn
    have HM := Lib.hid hm
    clear hA hn hm
    go_enter Tryd.func23, Tryd.ntmps23
    go_wp2_with (refine wpList_pushEs rfl (.tmp 5) (.tmp 6) rfl w.heap.size _ [] rfl ⟨World.ownsRow_made w #[] 0 (Nat.le_refl _) (Nat.zero_le _) (by simp)⟩ (some ad) n c l rfl HN.out.symm (HA.out.up (up_alloc (Below.refl _ _) _)) (fun h => by cases h) (by have := HM.out; have := HN.out; simp; omega) (by simp) ?_; intro v' w1 ho s1; have HO := Lib.hid ho; have HB := Lib.hid ((up_alloc (Below.refl w.heap.size w) (.cells #[] 47)).trans (s1.below (fun k hk => hk.1) (by simp))); clear ho s1)
    obtain ⟨A', n', c', rfl, _, _, _, _⟩ := HO.out.opened2
    go_ret
    exact ⟨A', n', c', rfl, HO.out, HB.out⟩

theorem yieldsIf_bat {ops : Array Oper} {S : World → Prop} {op : Oper} {a : Act} (hw : Region.wanted op (yielded ops a.tmps) = true) (t : TypeId) (parts : Array (Nat × Operand)) (ho : op.op = .build t parts)
    (cells : Array Value) (hc : Tryd.prog.built t (parts.toList.map fun p => (p.1, a.eval p.2)) = some cells) : YieldsIf Tryd.prog ops S op (.agg cells) a :=
  .inl ⟨hw, fun w _ => by
    unfold execOp
    have hc' : Tryd.prog.built t (parts.map fun (i, x) => (i, a.eval x)).toList = some cells := by rw [Array.toList_map]; exact hc
    simp only [ho, Sem.run_bind, run_build w t _ cells hc', Result.andThen_ok]
    rfl⟩

/-- A batch, put together of its events and the sum ahead, in this order. -/
theorem built_ev (v : Value) (hv : v.cells = #[v]) (p : List UInt8) (hp : p.length = 32) : Tryd.prog.built 27 [(1, v), (2, .agg (bys p).toArray)] = some (btc 0 v p).toArray := by
  obtain ⟨it, hit, hz⟩ := Option.map_eq_some_iff.1 zero_batch
  obtain ⟨fs, hu, hf⟩ : ∃ fs : Array Field, Tryd.prog.underlying 27 = some (.struct fs) ∧ fs.toList.mapM (fun f => (Tryd.prog.info? f.type).map fun i => (f.offset, i.size)) = some [(0, 1), (1, 1), (2, 32)] := ⟨_, Tryd.underlying27, by kernel_rfl⟩
  unfold Program.built
  simp only [hit, hu, hz, hf]
  have hbl : (bys p).toArray.size = 32 := by rw [List.size_toArray, bys_length, hp]
  have hbl2 : (bys p).length = 32 := by rw [bys_length, hp]
  have hzl : zbt.length = 34 := btc_length _ _ (by simp)
  have hzl2 : (btc 0 v (List.replicate 32 0)).length = 34 := btc_length _ _ (by simp)
  show Instr.fill ([(0, 1), (1, 1), (2, 32)].toArray[·]?) zbt.toArray [(1, v), (2, .agg (bys p).toArray)] = _
  unfold Instr.fill
  have hpl1 : ([(0, 1), (1, 1), (2, 32)] : List (Nat × Nat)).toArray[1]? = some (1, 1) := rfl
  simp only [hpl1, hv]
  rw [if_neg (by simp [hzl])]
  have e1 : (#[v] : Array Value).zipIdx.foldl (fun (c : Array Value) (p : Value × Nat) => c.setIfInBounds (1 + p.2) p.1) zbt.toArray = (btc 0 v (List.replicate 32 0)).toArray := by
    simp [zbt, btc]
  rw [e1]
  unfold Instr.fill
  have hpl : ([(0, 1), (1, 1), (2, 32)] : List (Nat × Nat)).toArray[2]? = some (2, 32) := rfl
  simp only [hpl]
  have hcs : (Value.agg (bys p).toArray).cells = (bys p).toArray := rfl
  rw [hcs, hbl, if_neg (by rw [List.size_toArray, hzl2]; decide)]
  have hf1 := fold_puts (bys p) 0 2 (btc 0 v (List.replicate 32 0)) (by rw [hbl2, hzl2]; decide)
  have hf2 : (bys p).toArray.zipIdx.foldl (fun (c : Array Value) (p : Value × Nat) => c.setIfInBounds (2 + p.2) p.1) (btc 0 v (List.replicate 32 0)).toArray = (btc 0 v p).toArray := by
    rw [← Array.foldl_toList, Array.toList_zipIdx, hf1, hbl2]
    have : (btc 0 v (List.replicate 32 0)).drop 34 = [] := by rw [List.drop_eq_nil_iff]; omega
    show ([_, _] ++ bys p ++ (btc 0 v (List.replicate 32 0)).drop 34).toArray = _
    rw [this, List.append_nil]
    rfl
  rw [hf2]
  rfl

end Go.Proofs.YthhcopeejhhpgaaDoor
