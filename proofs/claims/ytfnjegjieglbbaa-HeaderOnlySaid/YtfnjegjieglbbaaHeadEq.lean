/- Heads and supers that are compared: '==' on them. -/
import Derived.Test.YtfnjegjieglbbaaHeadA
namespace Go.Proofs.Ytfnjegjieglbbaa
open Go.RowKit Wire Crc Head

/-- '==' on two arrays of numbers. -/
theorem run_equalIn_rows (t e : TypeId) (n : Nat) (k : IntKind) (ht : Try.prog.underlying t = some (.array n e)) (he : Try.prog.underlying e = some (.int k)) (hsz : ∀ w : World, (sizeOf e).run Try.prog w = .ok 1 w) (hagg : ∀ w : World, (isAgg e).run Try.prog w = .ok false w)
    (l m : List Nat) (hl : l.length = n) (hm : m.length = n) (d : Nat) (w : World) : (Op.equalIn (d + 2) t (.agg (nums k l).toArray) (.agg (nums k m).toArray)).run Try.prog w = .ok (decide (l = m)) w := by
  rw [Op.equalIn]
  simp only [Sem.run_bind, run_underlying ht, Result.andThen_ok, hsz]
  rw [Std.Legacy.Range.forIn_eq_forIn_range']
  simp only [Std.Legacy.Range.size, Nat.sub_zero, Nat.add_sub_cancel, Nat.div_one, Nat.mul_one]
  have key : ∀ (c i : Nat), i + c = n → (Sem.run Try.prog (forIn (List.range' i c 1) ((none : Option Bool), ()) fun i __s => do
            let __do_lift ← part e (nums k l).toArray i
            let __do_lift_1 ← part e (nums k m).toArray i
            let __do_lift ← Op.equalIn (d + 1) e __do_lift __do_lift_1
            if (!__do_lift) = true then pure (ForInStep.done (some false, ())) else pure (ForInStep.yield (none, ()))) w) = .ok (if l.drop i = m.drop i then none else some false, ()) w := by
    intro c
    induction c with
    | zero =>
      intro i hi
      rw [List.drop_eq_nil_of_le (by omega), List.drop_eq_nil_of_le (by omega)]
      simp
    | succ c ih =>
      intro i hi
      rw [List.range'_succ, List.forIn_cons]
      have hil : i < l.length := by omega
      have him : i < m.length := by omega
      have hd : (l.drop i = m.drop i) ↔ (l[i] = m[i] ∧ l.drop (i + 1) = m.drop (i + 1)) := by
        rw [List.drop_eq_getElem_cons hil, List.drop_eq_getElem_cons him, List.cons.injEq]
      simp only [Sem.run_bind, run_part_nums k e hagg l i hil, run_part_nums k e hagg m i him, Result.andThen_ok, run_equalIn_int w d e k k _ _ he]
      by_cases h : l[i] = m[i]
      · rw [show ((l[i] : Int) == (m[i] : Int)) = true by rw [beq_iff_eq]; omega]
        simp only [Bool.not_true, Bool.false_eq_true, if_false, Sem.run_pure, Result.andThen_ok]
        rw [ih (i + 1) (by omega)]
        simp [hd, h]
      · rw [show ((l[i] : Int) == (m[i] : Int)) = false by rw [beq_eq_false_iff_ne]; omega]
        simp only [Bool.not_false, if_true, Sem.run_pure, Result.andThen_ok]
        simp [hd, h]
  have := key n 0 (by omega)
  rw [this]
  simp only [List.drop_zero]
  by_cases h : l = m
  · simp [h]
  · simp [h]

theorem run_equalIn_bys (a b : List UInt8) (ha : a.length = 32) (hb : b.length = 32) (d : Nat) (w : World) : (Op.equalIn (d + 2) 24 (.agg (bys a).toArray) (.agg (bys b).toArray)).run Try.prog w = .ok (decide (a = b)) w := by
  have h := run_equalIn_rows 24 5 32 .u8 Try.underlying24 Try.underlying5 (fun w => by kernel_rfl) (fun w => by kernel_rfl) (a.map (·.toNat)) (b.map (·.toNat)) (by simp [ha]) (by simp [hb]) d w
  rw [← bys_nums, ← bys_nums] at h
  rw [h]
  congr 1
  rw [decide_eq_decide]
  constructor
  · intro hh
    have e : ∀ x y : List UInt8, x.map (·.toNat) = y.map (·.toNat) → x = y := fun x => by
      induction x with
      | nil => intro y hy; cases y with
        | nil => rfl
        | cons _ _ => simp at hy
      | cons c x ih => intro y hy; cases y with
        | nil => simp at hy
        | cons c' y =>
          simp only [List.map_cons, List.cons.injEq] at hy
          rw [UInt8.toNat_inj.1 hy.1, ih y hy.2]
    exact e a b hh
  · rintro rfl; rfl

/-- One field, and the others. -/
theorem run_eqFields_cons (d : Nat) (xs ys : Array Value) (f : Field) (fs : List Field) (w : World) (hn : f.name ≠ "_") (a b : Value) (ha : (part f.type xs f.offset).run Try.prog w = .ok a w) (hb : (part f.type ys f.offset).run Try.prog w = .ok b w)
    (r : Bool) (hr : (Op.equalIn d f.type a b).run Try.prog w = .ok r w) (s : Bool) (hs : (Op.eqFields d xs ys fs).run Try.prog w = .ok s w) : (Op.eqFields d xs ys (f :: fs)).run Try.prog w = .ok (r && s) w := by
  rw [Op.eqFields, if_pos hn]
  simp only [Sem.run_bind, ha, hb, hr, Result.andThen_ok]
  cases r
  · simp
  · simp [hs]

theorem part_num (l : List Value) (i : Nat) (n : Nat) (h : l[i]? = some (.int .u64 (n : Nat))) (w : World) : (part 22 l.toArray i).run Try.prog w = .ok (.int .u64 (n : Nat)) w := by
  have hagg : (isAgg 22).run Try.prog w = .ok false w := by kernel_rfl
  have h1 : l.toArray[i]? = some (.int .u64 (n : Nat)) := by simpa using h
  simp [part, Sem.run_bind, hagg, h1]

theorem part_dig (l : List Value) (i : Nat) (p : List UInt8) (hp : p.length = 32) (h : (l.drop i).take 32 = bys p) (w : World) : (part 24 l.toArray i).run Try.prog w = .ok (.agg (bys p).toArray) w := by
  have hagg : (isAgg 24).run Try.prog w = .ok true w := by kernel_rfl
  have hl : i + 32 ≤ l.length := by
    have := congrArg List.length h
    rw [bys_length, hp, List.length_take, List.length_drop] at this
    omega
  simp [part, Sem.run_bind, hagg]
  exact h

theorem eql_u64 (d : Nat) (a b : Nat) (w : World) : (Op.equalIn (d + 1) 22 (.int .u64 (a : Nat)) (.int .u64 (b : Nat))).run Try.prog w = .ok (decide (a = b)) w := by
  rw [run_equalIn_int w d 22 .u64 .u64 _ _ Try.underlying22]
  congr 1
  by_cases h : a = b
  · simp [h]
  · rw [decide_eq_false h, beq_eq_false_iff_ne]; omega

/-- Are two heads, or two supers, the same? -/
def eqH (h k : Hd) : Bool := decide (h.id = k.id) && (decide (h.first = k.first) && (decide (h.anchor = k.anchor) && true))
def eqS (x y : Sp) : Bool := decide (x.epoch = y.epoch) && (decide (x.tail = y.tail) && (decide (x.first = y.first) && (decide (x.anchor = y.anchor) && (decide (x.id = y.id) && (decide (x.fin = y.fin) && (decide (x.next = y.next) && (decide (x.sum = y.sum) && true)))))))
theorem eqH_self (h : Hd) : eqH h h = true := by simp [eqH]
theorem eqS_self (x : Sp) : eqS x x = true := by simp [eqS]
theorem eqS_yes {x y : Sp} (h : eqS x y = true) : x = y := by
  simp only [eqS, Bool.and_eq_true, decide_eq_true_eq] at h
  obtain ⟨h1, h2, h3, h4, h5, h6, h7, h8, _⟩ := h
  cases x; cases y
  simp only at h1 h2 h3 h4 h5 h6 h7 h8
  subst h1 h2 h3 h4 h5 h6 h7 h8
  rfl

theorem hdc_anchor' {h : Hd} (hf : h.Fits) : ((hdc h).drop 2).take 32 = bys h.anchor := by
  show (bys h.anchor).take _ = _
  rw [List.take_of_length_le (by rw [bys_length, hf.anchor]; omega)]
theorem spc_anchor' {x : Sp} (hf : x.Fits) : ((spc x).drop 3).take 32 = bys x.anchor := by
  have hz : (bys x.anchor).length = 32 := by rw [bys_length, hf.anchor]
  show (bys x.anchor ++ _).take _ = _
  rw [List.take_left' hz]
theorem spc_sum' {x : Sp} (hf : x.Fits) : ((spc x).drop 38).take 32 = bys x.sum := by
  have hz : (bys x.anchor).length = 32 := by rw [bys_length, hf.anchor]
  have hs : (bys x.sum).length = 32 := by rw [bys_length, hf.sum]
  show ((bys x.anchor ++ (([.int .u64 (x.id : Nat), .int .u64 (x.fin : Nat), .int .u64 (x.next : Nat)] : List Value) ++ bys x.sum)).drop 35).take _ = _
  rw [← List.append_assoc, List.drop_left' (by simp [hz]), List.take_of_length_le (by omega)]
theorem spc_at' {x : Sp} (hf : x.Fits) : (spc x)[35]? = some (.int .u64 (x.id : Nat)) ∧ (spc x)[36]? = some (.int .u64 (x.fin : Nat)) ∧ (spc x)[37]? = some (.int .u64 (x.next : Nat)) := by
  have hz : (bys x.anchor).length = 32 := by rw [bys_length, hf.anchor]
  have s : ∀ (t : List Value) (k : Nat), (bys x.anchor ++ t)[32 + k]? = t[k]? := fun t k => by
    rw [List.getElem?_append_right (by omega), hz, Nat.add_sub_cancel_left]
  refine ⟨?_, ?_, ?_⟩
  · show (bys x.anchor ++ _)[32 + 0]? = _
    rw [s]; rfl
  · show (bys x.anchor ++ _)[32 + 1]? = _
    rw [s]; rfl
  · show (bys x.anchor ++ _)[32 + 2]? = _
    rw [s]; rfl

theorem eql_head (h k : Hd) (hf : h.Fits) (kf : k.Fits) (w : World) : (binOp .eql 26 (.agg (hdc h).toArray) (.agg (hdc k).toArray)).run Try.prog w = .ok (.bool (eqH h k)) w := by
  obtain ⟨f1, f2, f3, hfs, hu, n1, n2, n3, t1, t2, t3, o1, o2, o3⟩ : ∃ f1 f2 f3 : Field, (Try.prog.fieldsOf 26).toList = [f1, f2, f3] ∧ Try.prog.underlying 26 = some (.struct (Try.prog.fieldsOf 26)) ∧ f1.name ≠ "_" ∧ f2.name ≠ "_" ∧ f3.name ≠ "_"
      ∧ f1.type = 22 ∧ f2.type = 22 ∧ f3.type = 24 ∧ f1.offset = 0 ∧ f2.offset = 1 ∧ f3.offset = 2 :=
    ⟨_, _, _, by rfl, by kernel_rfl, by decide, by decide, by decide, rfl, rfl, rfl, rfl, rfl, rfl⟩
  have hp : Try.prog.stoodInHeld 26 = false := by kernel_rfl
  rw [run_eql_struct, run_equalIn_struct w 9999 _ _ _ hu hp, hfs]
  have e := run_eqFields_cons 9999 (hdc h).toArray (hdc k).toArray f1 [f2, f3] w n1 (.int .u64 (h.id : Nat)) (.int .u64 (k.id : Nat)) (by rw [t1, o1]; exact part_num _ 0 _ rfl w) (by rw [t1, o1]; exact part_num _ 0 _ rfl w) _ (by rw [t1]; exact eql_u64 9998 _ _ w) _
    (run_eqFields_cons 9999 (hdc h).toArray (hdc k).toArray f2 [f3] w n2 (.int .u64 (h.first : Nat)) (.int .u64 (k.first : Nat)) (by rw [t2, o2]; exact part_num _ 1 _ rfl w) (by rw [t2, o2]; exact part_num _ 1 _ rfl w) _ (by rw [t2]; exact eql_u64 9998 _ _ w) _
    (run_eqFields_cons 9999 (hdc h).toArray (hdc k).toArray f3 [] w n3 (.agg (bys h.anchor).toArray) (.agg (bys k.anchor).toArray) (by rw [t3, o3]; exact part_dig _ 2 _ hf.anchor (hdc_anchor' hf) w) (by rw [t3, o3]; exact part_dig _ 2 _ kf.anchor (hdc_anchor' kf) w) _ (by rw [t3]; exact run_equalIn_bys _ _ hf.anchor kf.anchor 9997 w) true (by simp [Op.eqFields])))
  rw [e]
  rfl

theorem eql_super (x y : Sp) (hf : x.Fits) (kf : y.Fits) (w : World) : (binOp .eql 34 (.agg (spc x).toArray) (.agg (spc y).toArray)).run Try.prog w = .ok (.bool (eqS x y)) w := by
  obtain ⟨f1, f2, f3, f4, f5, f6, f7, f8, hfs, hu, n1, n2, n3, n4, n5, n6, n7, n8, t1, t2, t3, t4, t5, t6, t7, t8, o1, o2, o3, o4, o5, o6, o7, o8⟩ : ∃ f1 f2 f3 f4 f5 f6 f7 f8 : Field, (Try.prog.fieldsOf 34).toList = [f1, f2, f3, f4, f5, f6, f7, f8] ∧ Try.prog.underlying 34 = some (.struct (Try.prog.fieldsOf 34))
      ∧ f1.name ≠ "_" ∧ f2.name ≠ "_" ∧ f3.name ≠ "_" ∧ f4.name ≠ "_" ∧ f5.name ≠ "_" ∧ f6.name ≠ "_" ∧ f7.name ≠ "_" ∧ f8.name ≠ "_"
      ∧ f1.type = 22 ∧ f2.type = 22 ∧ f3.type = 22 ∧ f4.type = 24 ∧ f5.type = 22 ∧ f6.type = 22 ∧ f7.type = 22 ∧ f8.type = 24
      ∧ f1.offset = 0 ∧ f2.offset = 1 ∧ f3.offset = 2 ∧ f4.offset = 3 ∧ f5.offset = 35 ∧ f6.offset = 36 ∧ f7.offset = 37 ∧ f8.offset = 38 :=
    ⟨_, _, _, _, _, _, _, _, by rfl, by kernel_rfl, by decide, by decide, by decide, by decide, by decide, by decide, by decide, by decide, rfl, rfl, rfl, rfl, rfl, rfl, rfl, rfl, rfl, rfl, rfl, rfl, rfl, rfl, rfl, rfl⟩
  have hp : Try.prog.stoodInHeld 34 = false := by kernel_rfl
  obtain ⟨a5, a6, a7⟩ := spc_at' hf
  obtain ⟨b5, b6, b7⟩ := spc_at' kf
  have a4 := spc_anchor' hf
  have b4 := spc_anchor' kf
  have a8 := spc_sum' hf
  have b8 := spc_sum' kf
  rw [run_eql_struct, run_equalIn_struct w 9999 _ _ _ hu hp, hfs]
  have e := run_eqFields_cons 9999 (spc x).toArray (spc y).toArray f1 [f2, f3, f4, f5, f6, f7, f8] w n1 (.int .u64 (x.epoch : Nat)) (.int .u64 (y.epoch : Nat)) (by rw [t1, o1]; exact part_num _ 0 _ rfl w) (by rw [t1, o1]; exact part_num _ 0 _ rfl w) _ (by rw [t1]; exact eql_u64 9998 _ _ w) _
    (run_eqFields_cons 9999 (spc x).toArray (spc y).toArray f2 [f3, f4, f5, f6, f7, f8] w n2 (.int .u64 (x.tail : Nat)) (.int .u64 (y.tail : Nat)) (by rw [t2, o2]; exact part_num _ 1 _ rfl w) (by rw [t2, o2]; exact part_num _ 1 _ rfl w) _ (by rw [t2]; exact eql_u64 9998 _ _ w) _
    (run_eqFields_cons 9999 (spc x).toArray (spc y).toArray f3 [f4, f5, f6, f7, f8] w n3 (.int .u64 (x.first : Nat)) (.int .u64 (y.first : Nat)) (by rw [t3, o3]; exact part_num _ 2 _ rfl w) (by rw [t3, o3]; exact part_num _ 2 _ rfl w) _ (by rw [t3]; exact eql_u64 9998 _ _ w) _
    (run_eqFields_cons 9999 (spc x).toArray (spc y).toArray f4 [f5, f6, f7, f8] w n4 (.agg (bys x.anchor).toArray) (.agg (bys y.anchor).toArray) (by rw [t4, o4]; exact part_dig _ 3 _ hf.anchor a4 w) (by rw [t4, o4]; exact part_dig _ 3 _ kf.anchor b4 w) _ (by rw [t4]; exact run_equalIn_bys _ _ hf.anchor kf.anchor 9997 w) _
    (run_eqFields_cons 9999 (spc x).toArray (spc y).toArray f5 [f6, f7, f8] w n5 (.int .u64 (x.id : Nat)) (.int .u64 (y.id : Nat)) (by rw [t5, o5]; exact part_num _ 35 _ a5 w) (by rw [t5, o5]; exact part_num _ 35 _ b5 w) _ (by rw [t5]; exact eql_u64 9998 _ _ w) _
    (run_eqFields_cons 9999 (spc x).toArray (spc y).toArray f6 [f7, f8] w n6 (.int .u64 (x.fin : Nat)) (.int .u64 (y.fin : Nat)) (by rw [t6, o6]; exact part_num _ 36 _ a6 w) (by rw [t6, o6]; exact part_num _ 36 _ b6 w) _ (by rw [t6]; exact eql_u64 9998 _ _ w) _
    (run_eqFields_cons 9999 (spc x).toArray (spc y).toArray f7 [f8] w n7 (.int .u64 (x.next : Nat)) (.int .u64 (y.next : Nat)) (by rw [t7, o7]; exact part_num _ 37 _ a7 w) (by rw [t7, o7]; exact part_num _ 37 _ b7 w) _ (by rw [t7]; exact eql_u64 9998 _ _ w) _
    (run_eqFields_cons 9999 (spc x).toArray (spc y).toArray f8 [] w n8 (.agg (bys x.sum).toArray) (.agg (bys y.sum).toArray) (by rw [t8, o8]; exact part_dig _ 38 _ hf.sum a8 w) (by rw [t8, o8]; exact part_dig _ 38 _ kf.sum b8 w) _ (by rw [t8]; exact run_equalIn_bys _ _ hf.sum kf.sum 9997 w) true (by simp [Op.eqFields]))))))))
  rw [e]
  rfl

/-! ### The operation '==' on two values of several cells, whose answer is known -/

theorem yieldsIf_eql {ops : Array Oper} {S : World → Prop} {op : Oper} {a : Act} (hw : Region.wanted op (yielded ops a.tmps) = true) (t ty : TypeId) (x y : Operand) (ho : op.op = .binOp .eql t x y ty)
    (xs ys : Array Value) (hx : a.eval x = .agg xs) (hy : a.eval y = .agg ys) (hm : Try.prog.eqGuardType Try.prog.depth t = false) (b : Bool) (he : ∀ w, (binOp .eql t (.agg xs) (.agg ys)).run Try.prog w = .ok (.bool b) w) : YieldsIf Try.prog ops S op (.bool b) a :=
  .inl ⟨hw, fun w _ => by
    unfold execOp
    simp only [ho, hx, hy, Sem.run_bind, run_eqGuard_agg w .eql t x y xs ys hm, he w, Result.andThen_ok]
    rfl⟩

theorem wp_eql {o : Oper} {a : Act} {w : World} {K : Act → World → Prop} {Q : Exit → Act → World → Prop} (t ty : TypeId) (x y : Operand) (ho : o.op = .binOp .eql t x y ty)
    (xs ys : Array Value) (hx : a.eval x = .agg xs) (hy : a.eval y = .agg ys) (hm : Try.prog.eqGuardType Try.prog.depth t = false) (b : Bool) (he : ∀ w, (binOp .eql t (.agg xs) (.agg ys)).run Try.prog w = .ok (.bool b) w)
    (h : K (a.put o.dst (.bool b)) w) : o.wp Try.prog a w K Q := by
  unfold Oper.wp execOp
  simp only [ho, hx, hy, Sem.run_bind, run_eqGuard_agg w .eql t x y xs ys hm, he w, Result.andThen_ok]
  exact h

theorem wpList_eql_wanted {ops : Array Oper} {rest : List Oper} {o : Oper} {a : Act} {w : World} {Q : Exit → Act → World → Prop} (hw : Region.wanted o (yielded ops a.tmps) = true) (t ty : TypeId) (x y : Operand) (ho : o.op = .binOp .eql t x y ty)
    (xs ys : Array Value) (hx : a.eval x = .agg xs) (hy : a.eval y = .agg ys) (hm : Try.prog.eqGuardType Try.prog.depth t = false) (b : Bool) (he : ∀ w, (binOp .eql t (.agg xs) (.agg ys)).run Try.prog w = .ok (.bool b) w)
    (h : wpList Try.prog ops Q rest (a.put o.dst (.bool b)) w) : wpList Try.prog ops Q (o :: rest) a w :=
  wpList_wanted hw fun _ hK => wp_eql t ty x y ho xs ys hx hy hm b he (hK _ _ h)

theorem noGuard_head : Try.prog.eqGuardType Try.prog.depth 26 = false := by kernel_rfl
theorem noGuard_super : Try.prog.eqGuardType Try.prog.depth 34 = false := by kernel_rfl

end Go.Proofs.Ytfnjegjieglbbaa
