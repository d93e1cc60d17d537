/- Two arrays of numbers that are the same are equal: '==' and '!=' on them. -/
import Derived.Test.YtalfmkgcelipdaaMem
import Derived.Laws.StructEq
namespace Go.Proofs.Ytalfmkgcelipdaa
open Go.RowKit

theorem run_part_nums (k : IntKind) (e : TypeId) (hagg : ∀ w : World, (isAgg e).run Try.prog w = .ok false w) (l : List Nat) (i : Nat) (h : i < l.length) (w : World) :
    (part e (nums k l).toArray i).run Try.prog w = .ok (.int k ((l[i] : Nat) : Int)) w := by
  have h1 : (nums k l).toArray[i]? = some (.int k ((l[i] : Nat) : Int)) := by simpa using nums_at k l h
  simp [part, Sem.run_bind, hagg, h1]

theorem run_equalIn_same (t e : TypeId) (n : Nat) (k : IntKind) (ht : Try.prog.underlying t = some (.array n e)) (he : Try.prog.underlying e = some (.int k)) (hsz : ∀ w : World, (sizeOf e).run Try.prog w = .ok 1 w) (hagg : ∀ w : World, (isAgg e).run Try.prog w = .ok false w)
    (l : List Nat) (hl : l.length = n) (d : Nat) (w : World) : (Op.equalIn (d + 2) t (.agg (nums k l).toArray) (.agg (nums k l).toArray)).run Try.prog w = .ok true w := by
  rw [Op.equalIn]
  simp only [Sem.run_bind, run_underlying ht, Result.andThen_ok, hsz]
  rw [Std.Legacy.Range.forIn_eq_forIn_range']
  simp only [Std.Legacy.Range.size, Nat.sub_zero, Nat.add_sub_cancel, Nat.div_one, Nat.mul_one]
  have key : ∀ (m i : Nat), i + m = n → (Sem.run Try.prog (forIn (List.range' i m 1) ((none : Option Bool), ()) fun i __s => do
            let __do_lift ← part e (nums k l).toArray i
            let __do_lift_1 ← part e (nums k l).toArray i
            let __do_lift ← Op.equalIn (d + 1) e __do_lift __do_lift_1
            if (!__do_lift) = true then pure (ForInStep.done (some false, ())) else pure (ForInStep.yield (none, ()))) w) = .ok (none, ()) w := by
    intro m
    induction m with
    | zero => intro i _; simp
    | succ m ih =>
      intro i hi
      rw [List.range'_succ, List.forIn_cons]
      have hil : i < l.length := by omega
      simp only [Sem.run_bind, run_part_nums k e hagg l i hil, Result.andThen_ok, run_equalIn_int w d e k k _ _ he, beq_self_eq_true, Bool.not_true, Bool.false_eq_true, if_false, Sem.run_pure]
      exact ih (i + 1) (by omega)
  have := key n 0 (by omega)
  rw [this]
  simp

theorem eql_sums (l : List Nat) (hl : l.length = 32) (w : World) : (binOp .eql 25 (.agg (nums .u8 l).toArray) (.agg (nums .u8 l).toArray)).run Try.prog w = .ok (.bool true) w := by
  rw [run_eql_struct, run_equalIn_same 25 5 32 .u8 Try.underlying25 Try.underlying5 (fun w => by kernel_rfl) (fun w => by kernel_rfl) l hl]
  rfl

theorem neq_sums (l : List Nat) (hl : l.length = 32) (w : World) : (binOp .neq 25 (.agg (nums .u8 l).toArray) (.agg (nums .u8 l).toArray)).run Try.prog w = .ok (.bool false) w := by
  rw [run_neq_struct, run_equalIn_same 25 5 32 .u8 Try.underlying25 Try.underlying5 (fun w => by kernel_rfl) (fun w => by kernel_rfl) l hl]
  rfl

theorem eql_zero (w : World) : (Op.equalIn 10000 25 (.agg (nums .u8 (List.replicate 32 0)).toArray) (.agg #[.int .u8 0, .int .u8 0, .int .u8 0, .int .u8 0, .int .u8 0, .int .u8 0, .int .u8 0, .int .u8 0, .int .u8 0, .int .u8 0, .int .u8 0, .int .u8 0, .int .u8 0, .int .u8 0, .int .u8 0, .int .u8 0, .int .u8 0, .int .u8 0, .int .u8 0, .int .u8 0, .int .u8 0, .int .u8 0, .int .u8 0, .int .u8 0, .int .u8 0, .int .u8 0, .int .u8 0, .int .u8 0, .int .u8 0, .int .u8 0, .int .u8 0, .int .u8 0])).run Try.prog w = .ok true w :=
  run_equalIn_same 25 5 32 .u8 Try.underlying25 Try.underlying5 (fun w => by kernel_rfl) (fun w => by kernel_rfl) (List.replicate 32 0) (by simp) 9998 w

end Go.Proofs.Ytalfmkgcelipdaa
