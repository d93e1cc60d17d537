/- '==' on arrays of numbers that may differ. -/
import Derived.Test.YthhcopeejhhpgaaDoorMemory
namespace Go.Proofs.YthhcopeejhhpgaaDoor
open Go.RowKit

/-- '==' on two arrays of numbers. -/
theorem run_equalIn_rows (t e : TypeId) (n : Nat) (k : IntKind) (ht : Tryd.prog.underlying t = some (.array n e)) (he : Tryd.prog.underlying e = some (.int k)) (hsz : ∀ w : World, (sizeOf e).run Tryd.prog w = .ok 1 w) (hagg : ∀ w : World, (isAgg e).run Tryd.prog w = .ok false w)
    (l m : List Nat) (hl : l.length = n) (hm : m.length = n) (d : Nat) (w : World) : (Op.equalIn (d + 2) t (.agg (nums k l).toArray) (.agg (nums k m).toArray)).run Tryd.prog w = .ok (decide (l = m)) w := by
  rw [Op.equalIn]
  simp only [Sem.run_bind, run_underlying ht, Result.andThen_ok, hsz]
  rw [Std.Legacy.Range.forIn_eq_forIn_range']
  simp only [Std.Legacy.Range.size, Nat.sub_zero, Nat.add_sub_cancel, Nat.div_one, Nat.mul_one]
  have key : ∀ (c i : Nat), i + c = n → (Sem.run Tryd.prog (forIn (List.range' i c 1) ((none : Option Bool), ()) fun i __s => do
            let __do_lift ← part e (nums k l).toArray i
            let __do_lift_1 ← part e (nums k m).toArray i
            let __do_lift ← Op.equalIn (d + 1) e __do_lift __do_lift_1
            if (!__do_lift) = true then pure (ForInStep.done (some false, ())) else pure (ForInStep.yield (none, ()))) w) = .ok (if l.drop i = m.drop i then none else some false, ()) w := by
    intro c
    induction c with
    | zero =>
      intro i hi
      rw [List.drop_eq_nil_of_le (by omega), List.drop_eq_nil_of_le (by omega)]
      simp
    | succ c ih =>
      intro i hi
      rw [List.range'_succ, List.forIn_cons]
      have hil : i < l.length := by omega
      have him : i < m.length := by omega
      have hd : (l.drop i = m.drop i) ↔ (l[i] = m[i] ∧ l.drop (i + 1) = m.drop (i + 1)) := by
        rw [List.drop_eq_getElem_cons hil, List.drop_eq_getElem_cons him, List.cons.injEq]
      simp only [Sem.run_bind, run_part_nums k e hagg l i hil, run_part_nums k e hagg m i him, Result.andThen_ok, run_equalIn_int w d e k k _ _ he]
      by_cases h : l[i] = m[i]
      · rw [show ((l[i] : Int) == (m[i] : Int)) = true by rw [beq_iff_eq]; omega]
        simp only [Bool.not_true, Bool.false_eq_true, if_false, Sem.run_pure, Result.andThen_ok]
        rw [ih (i + 1) (by omega)]
        simp [hd, h]
      · rw [show ((l[i] : Int) == (m[i] : Int)) = false by rw [beq_eq_false_iff_ne]; omega]
        simp only [Bool.not_false, if_true, Sem.run_pure, Result.andThen_ok]
        simp [hd, h]
  have := key n 0 (by omega)
  rw [this]
  simp only [List.drop_zero]
  by_cases h : l = m
  · simp [h]
  · simp [h]

set_option maxRecDepth 100000 in
theorem run_equalIn_bys (a b : List UInt8) (ha : a.length = 32) (hb : b.length = 32) (d : Nat) (w : World) : (Op.equalIn (d + 2) 23 (.agg (bys a).toArray) (.agg (bys b).toArray)).run Tryd.prog w = .ok (decide (a = b)) w := by
  have h := run_equalIn_rows 23 5 32 .u8 Tryd.underlying23 Tryd.underlying5 (fun w => by kernel_rfl) (fun w => by kernel_rfl) (a.map (·.toNat)) (b.map (·.toNat)) (by simp [ha]) (by simp [hb]) d w
  rw [← bys_nums, ← bys_nums] at h
  rw [h]
  congr 1
  rw [decide_eq_decide]
  constructor
  · intro hh
    have e : ∀ x y : List UInt8, x.map (·.toNat) = y.map (·.toNat) → x = y := fun x => by
      induction x with
      | nil => intro y hy; cases y with
        | nil => rfl
        | cons _ _ => simp at hy
      | cons c x ih => intro y hy; cases y with
        | nil => simp at hy
        | cons c' y =>
          simp only [List.map_cons, List.cons.injEq] at hy
          rw [UInt8.toNat_inj.1 hy.1, ih y hy.2]
    exact e a b hh
  · rintro rfl; rfl

set_option maxRecDepth 100000 in
theorem eql_dig (a b : List UInt8) (ha : a.length = 32) (hb : b.length = 32) (w : World) : (binOp .eql 23 (.agg (bys a).toArray) (.agg (bys b).toArray)).run Tryd.prog w = .ok (.bool (decide (a = b))) w := by
  rw [run_eql_struct, run_equalIn_bys a b ha hb]
  rfl
set_option maxRecDepth 100000 in
theorem neq_dig (a b : List UInt8) (ha : a.length = 32) (hb : b.length = 32) (w : World) : (binOp .neq 23 (.agg (bys a).toArray) (.agg (bys b).toArray)).run Tryd.prog w = .ok (.bool (!decide (a = b))) w := by
  rw [run_neq_struct, run_equalIn_bys a b ha hb]
  rfl

end Go.Proofs.YthhcopeejhhpgaaDoor
