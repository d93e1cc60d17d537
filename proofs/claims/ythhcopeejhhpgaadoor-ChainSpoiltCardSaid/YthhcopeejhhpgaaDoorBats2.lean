/- Whatever is wrong in a body, it is no batch's: the contracts of the closure batch.read$1, which recovers. -/
import Derived.Test.YthhcopeejhhpgaaDoorBatE
import Derived.Test.YthhcopeejhhpgaaDoorBats1
import Derived.Defers
import Derived.Recover
import Derived.Test.YthhcopeejhhpgaaDoorBase
import Derived.Test.YthhcopeejhhpgaaDoorText
import Derived.Test.YthhcopeejhhpgaaDoorPureBats
import Derived.Test.YthhcopeejhhpgaaDoorWires
import Derived.Test.YthhcopeejhhpgaaDoorEvGets
import Derived.Test.YthhcopeejhhpgaaDoorCrcs
namespace Go.Proofs.YthhcopeejhhpgaaDoor
open Go.RowKit Wire Evt Bat

def zbt : List Value := btc 0 (.slice none 0 0) (List.replicate 32 0)
theorem btc_length (first : Nat) (v : Value) {prev : List UInt8} (h : prev.length = 32) : (btc first v prev).length = 34 := by simp [btc, bys, h]
theorem info_batch : (Tryd.prog.info? 27).map (·.size) = some 34 := by kernel_rfl
theorem btc_one (first A n cap) (prev : List UInt8) : ∀ v ∈ btc first (.slice A n cap) prev, v.oneCell' = true := by
  intro v hv
  rcases List.mem_cons.1 hv with rfl | hv
  · rfl
  rcases List.mem_cons.1 hv with rfl | hv
  · rfl
  exact bys_one prev v hv

theorem Only2.store {w w1 w' : World} {g g2 b : Nat} (h : Only2 w w1 g g2) (ho : Only w1 w' b) (hb : b = g ∨ b = g2) : Only2 w w' g g2 :=
  ⟨Nat.le_trans h.size (Nat.le_of_eq ho.size.symm), fun h1 h2 k => ho.keep (by rcases hb with rfl | rfl <;> assumption) (h.keep h1 h2 k), fun h1 h2 hB k => ho.below (by rcases hb with rfl | rfl <;> assumption) (h.below h1 h2 hB k)⟩

def caught : PanicEntry := { v := .iface 28 (.int .i64 3), recovered := true }

set_option maxHeartbeats 1600000 in
set_option maxRecDepth 100000 in
theorem catch_yes (gb ge : Nat) (x : Value) (L : List Value) (hL : L.length = 34) (hne : gb ≠ ge) (w : World) (hb : Has w gb 27 L) (he : Has w ge 28 [x]) :
    CallsD Tryd.prog 84 #[.pointer (some ⟨gb, 0, none⟩), .pointer (some ⟨ge, 0, none⟩)] (.panicking [thrown]) w fun e u' w' =>
      e = .returned (.tuple #[]) ∧ u' = .panicking [caught] ∧ Has w' gb 27 zbt ∧ Has w' ge 28 [.int .i64 3] ∧ Only2 w w' gb ge := by
  refine callsD_of_wpS Tryd.func84 rfl fun c₀ cs hu => ?_
  apply wpS_seq
  apply wpS_region
  simp [wpOpsS, go_sem, recoverD, hu, thrown, Tryd.ntmps84, Exit.thenS]
  refine wpS_cond (t := true) (by simp [Act.eval, Array.replicate]) ?_
  simp only [if_true]
  refine wpS_of_wp ?_
  change Code.wp Tryd.prog _ _ { tmps := #[.pointer (some ⟨gb, 0, none⟩), .pointer (some ⟨ge, 0, none⟩), .iface 28 (.int .i64 3), .bool true, undef], defers := [] } w
  have hi := info_batch
  have hz : zbt.length = 34 := btc_length _ _ (by simp)
  have ho := btc_one 0 none 0 0 (List.replicate 32 0)
  have HB := Lib.hid hb
  have HE := Lib.hid he
  have h1 := he.at (i := 0) rfl
  clear hb he
  go_wp2_with (refine wpList_store_whole rfl 27 _ _ rfl gb 27 L zbt (by rfl) (by rfl) HB.out (by rw [hz, hL]) (by rw [hi, hz]) ho ?_; intro w2 hF hO; have e1 := hO.keep hne.symm HE.out; have e2 := e1.at (i := 0) rfl; have e3 := e1.free 0)
  cases c₀
  simp only [bodyPostS, true_and]
  refine ⟨_, rfl, .tuple #[], by simp [results, Tryd.results84], rfl, rfl, hF.other hne _, e1.set 0 _, ?_⟩
  exact ((Only2.refl w gb ge).store hO (Or.inl rfl)).set (Or.inr rfl) _

theorem catch_idle (p q : Addr) (w : World) :
    CallsD Tryd.prog 84 #[.pointer (some p), .pointer (some q)] .returning w fun e u' w' => e = .returned (.tuple #[]) ∧ u' = .returning ∧ w' = w := by
  refine callsD_of_wpS Tryd.func84 rfl fun c₀ cs hu => ?_
  apply wpS_seq
  apply wpS_region
  simp [wpOpsS, go_sem, recoverD, hu, Tryd.ntmps84, Exit.thenS]
  refine wpS_cond (t := false) (by simp [Act.eval, Array.replicate]) ?_
  simp only [Bool.false_eq_true, if_false]
  refine wpS_of_wp (wp_skip ?_)
  cases c₀
  simp_all [bodyPostS, results, Tryd.results84]

end Go.Proofs.YthhcopeejhhpgaaDoor

/- A body, read: the contract of batch.read. -/
namespace Go.Proofs.YthhcopeejhhpgaaDoor
open Go.RowKit Wire Evt Bat

theorem results_cell_cell {fn : Func} {p u : Tmp} {ty ty' : TypeId} (h : fn.results = #[.cell p ty, .cell u ty']) (tmps : Array Value) (P : Program) (w : World) :
    (results fn tmps).run P w =
      ((asAddr (tmps.getD p undef)).run P w).andThen fun a w₁ => ((loadVar ty a).run P w₁).andThen fun v w₂ => ((asAddr (tmps.getD u undef)).run P w₂).andThen fun a' w₃ => ((loadVar ty' a').run P w₃).andThen fun v' w₄ => .ok (.tuple #[v, v']) w₄ := by
  simp only [results, h]
  simp [Sem.run_bind, Result.andThen]

/-- The results of a function that gives a batch and an error, both captured. -/
theorem results_bat {fn : Func} {p u : Tmp} (h : fn.results = #[.cell p 27, .cell u 28]) (tmps : Array Value) (w : World) (gb ge : Nat) (L : List Value) (v : Value)
    (hp : tmps.getD p undef = .pointer (some ⟨gb, 0, none⟩)) (hu : tmps.getD u undef = .pointer (some ⟨ge, 0, none⟩)) (hB : Has w gb 27 L) (hL : L.length = 34) (hE : Has w ge 28 [v]) :
    (results fn tmps).run Tryd.prog w = .ok (.tuple #[.agg L.toArray, v]) w := by
  have hi : (Tryd.prog.info? 27).map (·.size) = some L.toArray.size := by rw [List.size_toArray, hL, info_batch]
  have h1 := run_loadVar_row (P := Tryd.prog) w gb 27 27 L.toArray (0, 0) _ hB Tryd.underlying27 rfl hi
  have h2 := hE.at (i := 0) rfl
  have h3 : (loadVar 28 ⟨ge, 0, none⟩).run Tryd.prog w = .ok v w := by simp [go_sem, h2]
  rw [results_cell_cell h, hp, hu]
  simp [asAddr, h1, h3]

/-- Where batch.read stands: the batch, the error, and the reader's text. -/
structure Rd (w w1 : World) (L : List Value) (l : List UInt8) : Prop where
  B : Has w1 w.heap.size 27 L
  E : Has w1 (w.heap.size + 1) 28 [.int .i64 0]
  R : Has w1 (w.heap.size + 1 + 1) 112 [.string ⟨l.toArray⟩]
  below : Below w.heap.size w w1

/-- .. where a reader has thrown. -/
structure Rp (w w1 : World) (L : List Value) : Prop where
  B : Has w1 w.heap.size 27 L
  E : Has w1 (w.heap.size + 1) 28 [.int .i64 0]
  below : Below w.heap.size w w1

theorem Rd.next {w w1 w2 : World} {L : List Value} {l l' : List UInt8} (h : Rd w w1 L l) (m : Moved w1 w2 (w.heap.size + 1 + 1) l') : Rd w w2 L l' :=
  ⟨m.only.keep (by omega) (by omega) h.B, m.only.keep (by omega) (by omega) h.E, m.has, m.only.below (by omega) (by omega) h.below.size h.below⟩
theorem Rd.lost {w w1 w2 : World} {L : List Value} {l : List UInt8} (h : Rd w w1 L l) (o : Only2 w1 w2 (w.heap.size + 1 + 1) (w.heap.size + 1 + 1)) : Rp w w2 L :=
  ⟨o.keep (by omega) (by omega) h.B, o.keep (by omega) (by omega) h.E, o.below (by omega) (by omega) h.below.size h.below⟩
theorem Rd.up {w w1 w2 : World} {L : List Value} {l : List UInt8} (h : Rd w w1 L l) (hb : Below w1.heap.size w1 w2) : Rd w w2 L l :=
  ⟨h.B.up hb, h.E.up hb, h.R.up hb, up_trans h.below hb⟩
theorem Rd.set {w w1 : World} {L : List Value} {l : List UInt8} (h : Rd w w1 L l) (i : Nat) (v : Value) : Rd w (w1.setCell ⟨w.heap.size, i, none⟩ v) (L.set i v) l :=
  ⟨h.B.set i v, h.E.other (p := ⟨w.heap.size, i, none⟩) (by simp) v, h.R.other (p := ⟨w.heap.size, i, none⟩) (by simp; omega) v, h.below.setCell (p := ⟨w.heap.size, i, none⟩) (Nat.le_refl _) v⟩
theorem Rd.only {w w1 w2 : World} {L L' : List Value} {l : List UInt8} (h : Rd w w1 L l) (hF : Has w2 w.heap.size 27 L') (o : Only w1 w2 w.heap.size) : Rd w w2 L' l :=
  ⟨hF, o.keep (by omega) h.E, o.keep (by omega) h.R, o.below (Nat.le_refl _) h.below⟩
theorem Rd.plain {w w1 : World} {L : List Value} {l : List UInt8} (h : Rd w w1 L l) : Rp w w1 L := ⟨h.B, h.E, h.below⟩

/-- THE DOOR, where something was thrown: the closure recovers. -/
theorem door_panic {w w1 : World} {L : List Value} {R : Ending → World → Prop} (tmps : Array Value) (h : Rp w w1 L) (hL : L.length = 34) (h2 : tmps.getD 2 undef = .pointer (some ⟨w.heap.size, 0, none⟩)) (h3 : tmps.getD 3 undef = .pointer (some ⟨w.heap.size + 1, 0, none⟩))
    (hR : ∀ w', Below w.heap.size w w' → R (.returned (.tuple #[.agg zbt.toArray, .int .i64 3])) w') :
    bodyPostD Tryd.prog Tryd.f72 R (.panic [thrown]) { tmps := tmps, defers := [{ target := .fn (.func 84) #[.pointer (some ⟨w.heap.size, 0, none⟩), .pointer (some ⟨w.heap.size + 1, 0, none⟩)], args := #[] }] } w1 := by
  have hz : zbt.length = 34 := btc_length _ _ (by simp)
  refine leaves_cons (f := 84) (args := #[.pointer (some ⟨w.heap.size, 0, none⟩), .pointer (some ⟨w.heap.size + 1, 0, none⟩)]) (by simp) (by simp [go_sem]) ?_
  refine (catch_yes w.heap.size (w.heap.size + 1) _ L hL (by omega) w1 h.B h.E).mono ?_
  rintro e u' w2 ⟨rfl, rfl, hB, hE, hO⟩
  simp only [settle, caught, List.dropWhile]
  exact ⟨_, results_bat Tryd.results72 tmps w2 _ _ zbt _ h2 h3 hB hz hE, hR w2 (hO.below (Nat.le_refl _) (by omega) h.below.size h.below)⟩

/-- THE DOOR, where nothing was. -/
theorem door_plain {w w1 : World} {L : List Value} {R : Ending → World → Prop} (tmps : Array Value) (h : Rp w w1 L) (hL : L.length = 34) (h2 : tmps.getD 2 undef = .pointer (some ⟨w.heap.size, 0, none⟩)) (h3 : tmps.getD 3 undef = .pointer (some ⟨w.heap.size + 1, 0, none⟩))
    (hR : R (.returned (.tuple #[.agg L.toArray, .int .i64 0])) w1) :
    bodyPostD Tryd.prog Tryd.f72 R .ret { tmps := tmps, defers := [{ target := .fn (.func 84) #[.pointer (some ⟨w.heap.size, 0, none⟩), .pointer (some ⟨w.heap.size + 1, 0, none⟩)], args := #[] }] } w1 := by
  refine leaves_cons (f := 84) (args := #[.pointer (some ⟨w.heap.size, 0, none⟩), .pointer (some ⟨w.heap.size + 1, 0, none⟩)]) (by simp) (by simp [go_sem]) ?_
  refine (catch_idle ⟨w.heap.size, 0, none⟩ ⟨w.heap.size + 1, 0, none⟩ w1).mono ?_
  rintro e u' w2 ⟨rfl, rfl, rfl⟩
  exact ⟨_, results_bat Tryd.results72 tmps w2 _ _ L _ h2 h3 h.B hL h.E, hR⟩

theorem Rd.start (w : World) (l : List UInt8) : Rd w (((w.alloc (.cells zbt.toArray 27)).alloc (.cells #[.int .i64 0] 28)).alloc (.cells #[.string ⟨l.toArray⟩] 112)) zbt l :=
  ⟨((Has.make w _ _).alloc _).alloc _, (Has.make2 w _ _ [.int .i64 0]).alloc _, Has.make3 w _ _ _ [.string ⟨l.toArray⟩], up_alloc (up_alloc (up_alloc (Below.refl _ _) _) _) _⟩

theorem btc_prev (first : Nat) (v : Value) {p q : List UInt8} (hp : p.length = 32) : (btc first v p).take 2 ++ bys q ++ (btc first v p).drop (2 + 32) = btc first v q := by
  have : (btc first v p).drop (2 + 32) = [] := List.drop_of_length_le (by rw [btc_length _ _ hp]; omega)
  rw [this, List.append_nil]
  rfl

/-- What a body's reading gives. -/
def BreadPost (l : List UInt8) (w : World) (e : Ending) (w' : World) : Prop :=
  Below w.heap.size w w' ∧ match rdB l with
    | none => e = .returned (.tuple #[.agg zbt.toArray, .int .i64 3])
    | some b => ∃ v, e = .returned (.tuple #[.agg (btc b.first v b.prev).toArray, .int .i64 0]) ∧ OwnE w.heap.size v b.evs w'
theorem bread_bad {l : List UInt8} {w w' : World} (h : rdB l = none) (hb : Below w.heap.size w w') : BreadPost l w (.returned (.tuple #[.agg zbt.toArray, .int .i64 3])) w' := by
  unfold BreadPost
  rw [h]
  exact ⟨hb, rfl⟩

theorem rdB_short {l : List UInt8} (h : l.length < 32) : rdB l = none := by rw [rdB, if_pos h]
theorem rdB_first {l : List UInt8} (h : 32 ≤ l.length) (h1 : numO (l.drop 32) = none) : rdB l = none := by rw [rdB, if_neg (by omega), h1]
theorem rdB_num {l l1 : List UInt8} {first : Nat} (h : 32 ≤ l.length) (h1 : numO (l.drop 32) = some (first, l1)) (h2 : numO l1 = none) : rdB l = none := by
  rw [rdB, if_neg (by omega), h1]; simp only [h2]
theorem rdB_many {l l1 l2 : List UInt8} {first many : Nat} (h : 32 ≤ l.length) (h1 : numO (l.drop 32) = some (first, l1)) (h2 : numO l1 = some (many, l2)) (h3 : 256 < many) : rdB l = none := by
  rw [rdB, if_neg (by omega), h1]; simp only [h2]; rw [if_pos h3]
theorem rdB_row {l l1 l2 : List UInt8} {first many : Nat} (h : 32 ≤ l.length) (h1 : numO (l.drop 32) = some (first, l1)) (h2 : numO l1 = some (many, l2)) (h3 : many ≤ 256) (h4 : evK many l2 = none) : rdB l = none := by
  rw [rdB, if_neg (by omega), h1]; simp only [h2]; rw [if_neg (by omega), h4]
theorem rdB_end {l l1 l2 l3 : List UInt8} {first many : Nat} {evs : List Ev} (h : 32 ≤ l.length) (h1 : numO (l.drop 32) = some (first, l1)) (h2 : numO l1 = some (many, l2)) (h3 : many ≤ 256) (h4 : evK many l2 = some (evs, l3)) :
    rdB l = if l3 = [] ∧ isB first evs = true then some ⟨first, evs, l.take 32⟩ else none := by
  rw [rdB, if_neg (by omega), h1]; simp only [h2]; rw [if_neg (by omega), h4]

end Go.Proofs.YthhcopeejhhpgaaDoor

/- A body, read: the walk of batch.read. -/
namespace Go.Proofs.YthhcopeejhhpgaaDoor
open Go.RowKit Wire Evt Bat

theorem OwnE.set {B b i : Nat} {v x : Value} {l : List Ev} {w : World} {t : TypeId} {L : List Value} (h : OwnE B v l w) (_hb : Has w b t L) (hB : b < B) : OwnE B v l (w.setCell ⟨b, i, none⟩ x) :=
  h.only (g := b) ((Only2.refl w b b).set (Or.inl rfl) x) hB

theorem OwnE.mono_base {B B' : Nat} {v : Value} {l : List Ev} {w : World} (h : OwnE B v l w) (hb : B' ≤ B) : OwnE B' v l w := by
  obtain ⟨h0, h1 | ⟨b, cap, cur, hv, hg, hr⟩⟩ := h.out
  · exact ⟨⟨h0, Or.inl h1⟩⟩
  · exact ⟨⟨h0, Or.inr ⟨b, cap, cur, hv, Nat.le_trans hb hg, hr⟩⟩⟩

theorem number_ok (g : Nat) (l r : List UInt8) (n : Nat) (hl : l.length ≤ 20000) (h : numO l = some (n, r)) (w : World) (hg : Has w g 112 [.string ⟨l.toArray⟩]) :
    Calls Tryd.prog 86 #[.pointer (some ⟨g, 0, none⟩)] w fun e w' => e = .returned (.int .u64 (n : Nat)) ∧ Moved w w' g r := by
  obtain ⟨_, _, h1, h2, h3⟩ := numO_back h
  have := number_yes g l hl h3 w hg
  rwa [h1, h2] at this
theorem numO_len {l r : List UInt8} {n : Nat} (h : numO l = some (n, r)) : r.length ≤ l.length := by
  have := (numO_back h).1
  rw [← this, List.length_append]; omega

set_option maxHeartbeats 8000000 in
set_option maxRecDepth 100000 in
theorem bread_any (l : List UInt8) (hl : l.length ≤ 20000) (w : World) :
    Calls Tryd.prog 72 #[.string ⟨l.toArray⟩] w fun e w' => BreadPost l w e w' := by
  have hmf : ∀ (fn : Fn) (first cap : Array Value) (w : World), (Instr.makeFunc fn first cap).run Tryd.prog w = .ok (.func fn first cap) w := fun _ _ _ _ => rfl
  have hz : zbt.length = 34 := btc_length _ _ (by simp)
  have hi := info_batch
  have hid := info_digest
  have hu := Tryd.underlying27
  have R0 := Lib.hid (Rd.start w l)
  go_enter_defers Tryd.func72, Tryd.ntmps72
  go_wp2_with fail
  generalize hw1 : ((w.alloc (Obj.cells _ _)).alloc _).alloc _ = w1
  replace R0 : Hid (Rd w w1 zbt l) := by rw [← hw1]; exact R0
  clear hw1
  by_cases h32 : l.length < 32
  · refine (sum_no _ l h32 w1 R0.out.R).mono ?_; rintro e w2 ⟨rfl, hO⟩
    exact door_panic (w := w) _ (R0.out.lost hO) hz rfl rfl (fun w' hb => bread_bad (rdB_short h32) hb)
  have h32' : 32 ≤ l.length := by omega
  refine (sum_yes _ l h32' hl w1 R0.out.R).mono ?_; rintro e w2 ⟨rfl, hM⟩
  have R1 := Lib.hid (R0.out.next hM)
  clear hM R0
  have hpl : (l.take 32).length = 32 := by rw [List.length_take]; omega
  obtain ⟨p, hp⟩ : ∃ p, p = l.take 32 := ⟨_, rfl⟩
  have HP := Lib.hid hp
  rw [← hp] at hpl ⊢
  clear hp
  go_wp2_with (refine wpList_store_part rfl 23 _ _ rfl w.heap.size 2 27 zbt (bys p) (by rfl) (by rfl) R1.out.B (by rw [bys_length, hpl, hz]; decide) (by rw [hid, bys_length, hpl]) (bys_one p) ?_; intro w3 hF hO)
  rw [show bys p = bys p from rfl, bys_length, hpl, zbt, btc_prev 0 (.slice none 0 0) (by simp)] at hF
  have hb1 := btc_length 0 (.slice none 0 0) hpl
  have R2 := Lib.hid (R1.out.only hF hO)
  clear hF hO R1
  have hdl : (l.drop 32).length ≤ 20000 := by rw [List.length_drop]; omega
  cases hn1 : numO (l.drop 32) with
  | none =>
    refine (number_no _ _ hdl (numO_no hn1) w3 R2.out.R).mono ?_; rintro e w4 ⟨rfl, hO⟩
    exact door_panic (w := w) _ (R2.out.lost hO) hb1 rfl rfl (fun w' hb => bread_bad (rdB_first h32' hn1) hb)
  | some q =>
  obtain ⟨first, l1⟩ := q
  have hl1 := Nat.le_trans (numO_len hn1) hdl
  refine (number_ok _ _ _ _ hdl hn1 w3 R2.out.R).mono ?_; rintro e w4 ⟨rfl, hM⟩
  have R3 := Lib.hid (R2.out.next hM)
  clear hM R2
  have q0 := R3.out.B.at (i := 0) rfl
  have q1 := R3.out.B.free 0
  go_wp2_with fail
  clear q0 q1
  have R4 : Hid (Rd w _ (btc first (.slice none 0 0) p) l1) := Lib.hid (R3.out.set 0 (.int .u64 (first : Nat)))
  generalize w4.setCell ⟨w.heap.size, 0, none⟩ (.int .u64 (first : Nat)) = w5 at *
  clear R3
  have hb2 := btc_length first (.slice none 0 0) hpl
  cases hn2 : numO l1 with
  | none =>
    refine (number_no _ _ hl1 (numO_no hn2) w5 R4.out.R).mono ?_; rintro e w6 ⟨rfl, hO⟩
    exact door_panic (w := w) _ (R4.out.lost hO) hb2 rfl rfl (fun w' hb => bread_bad (rdB_num h32' hn1 hn2) hb)
  | some q =>
  obtain ⟨many, l2⟩ := q
  have hl2 := Nat.le_trans (numO_len hn2) hl1
  refine (number_ok _ _ _ _ hl1 hn2 w5 R4.out.R).mono ?_; rintro e w6 ⟨rfl, hM⟩
  have R5 := Lib.hid (R4.out.next hM)
  clear hM R4
  go_wp2_with fail
  by_cases h256 : 256 < many
  · refine (row_many _ many h256 w6).mono ?_; rintro e w7 ⟨rfl, hO⟩
    exact door_panic (w := w) _ (R5.out.lost hO) hb2 rfl rfl (fun w' hb => bread_bad (rdB_many h32' hn1 hn2 h256) hb)
  have h256' : many ≤ 256 := by omega
  cases hk : evK many l2 with
  | none =>
    refine (row_no _ many _ hl2 hk h256' w6 R5.out.R).mono ?_; rintro e w7 ⟨rfl, hO⟩
    exact door_panic (w := w) _ (R5.out.lost hO) hb2 rfl rfl (fun w' hb => bread_bad (rdB_row h32' hn1 hn2 h256' hk) hb)
  | some q =>
  obtain ⟨evs, left⟩ := q
  have hend := rdB_end h32' hn1 hn2 h256' hk
  have hseq := (evK_back hk).2
  have hel := evK_length hk
  have hsz6 := R5.out.below.size
  refine (row_yes _ many _ left evs hl2 hk h256' w6 R5.out.R).mono ?_; rintro e w7 ⟨v, rfl, hO, hM⟩
  have hlt6 := R5.out.R.lt
  have R6 := Lib.hid (R5.out.next hM)
  clear hM R5 hn1 hn2 hk
  obtain ⟨A, n, cap, rfl, hn, hcap, hsl⟩ := hO.opened
  have HN := Lib.hid hn
  have HE := Lib.hid hel
  have HS := Lib.hid hsl
  clear hn hel hsl
  have O6 := Lib.hid hO
  have q0 := R6.out.B.at (i := 1) rfl
  have q1 := R6.out.B.free 1
  have q2 := R6.out.R.at (i := 0) rfl
  clear hO
  have R7 : Hid (Rd w _ (btc first (.slice A n cap) p) left) := Lib.hid (R6.out.set 1 (.slice A n cap))
  have O7 := Lib.hid (O6.out.set (i := 1) (x := .slice A n cap) R6.out.B (by omega))
  have HD := Lib.hid hend
  have hb3 := btc_length first (.slice A n cap) hpl
  clear hend
  by_cases hleft : left = []
  · subst hleft
    have z := text_yes (s := ⟨([] : List UInt8).toArray⟩) rfl
    go_wp2_with (refine wpList_load_wanted (by rfl) 27 _ rfl w.heap.size (by rfl) _ _ _ _ R7.out.B hu rfl (by rw [hi, List.size_toArray, hb3]) ?_)
    clear q0 q1 q2 z
    generalize hw8 : w7.setCell ⟨w.heap.size, 1, none⟩ (.slice A n cap) = w8 at *
    have hsl8 : EvSl w8 A evs := by
      obtain ⟨A', n', cap', he, _, _, hs⟩ := O7.out.opened
      injection he with hA
      subst hA
      exact hs
    refine (bis_any first evs p hseq A n cap HN.out hcap (by rw [HE.out]; omega) w8 hsl8).mono ?_; rintro e w9 ⟨rfl, b9⟩
    have R8 := Lib.hid (R7.out.up b9)
    have O8 := Lib.hid (show OwnE w6.heap.size (.slice A n cap) evs w9 from ⟨own_below O7.out.out b9⟩)
    clear b9 R6 O6 R7 O7 hw8 hsl8
    cases hB : isB first evs with
    | false =>
      go_wp2_with fail
      refine (must_no _).mono ?_; rintro e wa ⟨rfl, rfl⟩
      exact door_panic (w := w) _ R8.out.plain hb3 rfl rfl (fun w' hb => bread_bad (by rw [HD.out, if_neg (by simp [hB])]) hb)
    | true =>
      go_wp2_with fail
      refine (must_yes _).mono ?_; rintro e wa ⟨rfl, rfl⟩
      have e1 := R8.out.E.at (i := 0) rfl
      go_wp2_with (first
        | (refine wpList_load_row rfl 27 _ rfl w.heap.size (by rfl) _ _ _ _ R8.out.B hu rfl (by rw [hi, List.size_toArray, hb3]) ?_)
        | (refine wpList_store_whole rfl 27 _ _ rfl w.heap.size 27 _ (btc first (.slice A n cap) p) (by rfl) (by rfl) R8.out.B rfl (by rw [hi, hb3]) (btc_one _ _ _ _ _) ?_; intro wb hF hO; have f1 := (hO.keep (by omega) R8.out.E).at (i := 0) rfl; have f2 := (hO.keep (by omega) R8.out.E).free 0))
      have RP : Rp w _ (btc first (.slice A n cap) p) := ⟨hF.other (p := ⟨w.heap.size + 1, 0, none⟩) (by simp) _, (hO.keep (by omega) R8.out.E).set 0 (.int .i64 0), (hO.below (Nat.le_refl _) R8.out.below).setCell (p := ⟨w.heap.size + 1, 0, none⟩) (by simp) (.int .i64 0)⟩
      refine door_plain (w := w) _ RP hb3 rfl rfl ⟨RP.below, ?_⟩
      rw [HD.out, if_pos (by simp [hB])]
      refine ⟨_, by rw [HP.out], ?_⟩
      have h9 := O8.out.only (g := w.heap.size) ⟨Nat.le_of_eq hO.size.symm, fun h1 _ k => hO.keep h1 k, fun h1 _ _ k => hO.below h1 k⟩ (by omega)
      exact (h9.set (i := 0) (x := .int .i64 0) (hO.keep (by omega) R8.out.E) (by omega)).mono_base hsz6
  · have z := text_no (s := ⟨left.toArray⟩) (by rw [text_list]; exact List.length_pos_iff.2 hleft)
    have hr : rdB l = none := by rw [HD.out, if_neg (by simp [hleft])]
    go_wp2_with fail
    refine (must_no _).mono ?_; rintro e w9 ⟨rfl, rfl⟩
    exact door_panic (w := w) _ R7.out.plain hb3 rfl rfl (fun w' hb => bread_bad hr hb)

end Go.Proofs.YthhcopeejhhpgaaDoor

/- A body in its frame: the contract of batch.framed. -/
namespace Go.Proofs.YthhcopeejhhpgaaDoor
open Go.RowKit Wire Evt Bat Crc

theorem take4_few (s : ByteArray) (h : s.size < 4) (w : World) :
    Calls Tryd.prog 83 #[.string s, .int .i64 4] w fun e w' => e = .returned (.tuple #[.int .u64 0, .string ⟨#[]⟩, .int .i64 4]) ∧ Below w.heap.size w w' := by
  have c := takeFixed_any s (by unfold maxLen; omega) 4 w
  have e : tkf s.data.toList 4 = (0, [], 4) := tkf_short (d := 4) (by omega) (by omega) (by rw [list_size]; exact h)
  rw [e] at c
  exact c
theorem take4_more (s : ByteArray) (h : 4 ≤ s.size) (hm : s.size ≤ 100000) (w : World) :
    Calls Tryd.prog 83 #[.string s, .int .i64 4] w fun e w' => e = .returned (.tuple #[.int .u64 (be (s.data.toList.take 4) : Nat), .string ⟨(s.data.toList.drop 4).toArray⟩, .int .i64 0]) ∧ Below w.heap.size w w' := by
  have c := takeFixed_any s (by unfold maxLen; omega) 4 w
  have e : tkf s.data.toList 4 = (be (s.data.toList.take 4), s.data.toList.drop 4, 0) := tkf_long (d := 4) (by omega) (by omega) (by rw [list_size]; exact h)
  rw [e] at c
  exact c
/-- What batch.framed gives. -/
def FrPost (s : List UInt8) (w : World) (e : Ending) (w' : World) : Prop :=
  e = .returned (.tuple #[.string ⟨(frO s).1.toArray⟩, .int .i64 ((frO s).2 : Nat)]) ∧ Below w.heap.size w w'
theorem fr_post {s l : List UInt8} {k : Nat} (h : frO s = (l, k)) {w w' : World} (hb : Below w.heap.size w w') : FrPost s w (.returned (.tuple #[.string ⟨l.toArray⟩, .int .i64 (k : Nat)])) w' := by
  unfold FrPost
  rw [h]
  exact ⟨rfl, hb⟩

set_option maxHeartbeats 1000000 in
set_option maxRecDepth 100000 in
theorem framed_any (s : ByteArray) (hs : s.size ≤ 100000) (w : World) :
    Calls Tryd.prog 71 #[.string s] w fun e w' => FrPost s.data.toList w e w' := by
  by_cases h0 : s.size = 0
  · have z := text_yes h0
    have HR := Lib.hid (show frO s.data.toList = ([], 4) by rw [← ByteArray.toList_eq, z]; rfl)
    go_enter Tryd.func71, Tryd.ntmps71
    go_wp2_with fail
    go_ret2
    exact fr_post HR.out (Below.refl _ _)
  have hp : 0 < s.size := by omega
  have hz := text_no hp
  have k0 : (0 : Int) < (s.size : Int) := by omega
  have hl1 := list_cons s hp
  by_cases hc : (s[0]'hp).toNat = 66
  · have d1 : (((s[0]'hp).toNat : Int) != 66) = false := by rw [hc]; rfl
    have k1 : (1 : Int) ≤ (s.size : Int) := by omega
    have F := front_of s 1
    have hxs : (s.extract 1 s.size).size = s.size - 1 := by rw [F, text_list, List.length_drop, list_size]
    have hxl : (s.extract 1 s.size).data.toList = s.data.toList.drop 1 := by rw [F]
    have hrl : (s.data.toList.drop 1).length = s.size - 1 := by rw [List.length_drop, list_size]
    by_cases h4 : s.size < 5
    · have HR := Lib.hid (show frO s.data.toList = ([], 4) by rw [hl1, fr_few hc (by omega)])
      have HC := Lib.hid (fun w => take4_few (s.extract 1 s.size) (by omega) w)
      clear hl1 hc F hxs hxl hrl
      go_enter Tryd.func71, Tryd.ntmps71
      go_wp2_with fail
      refine (HC.out _).mono ?_; rintro e w1 ⟨rfl, b1⟩
      go_wp2_with fail
      go_ret2
      exact fr_post HR.out b1
    have hC := fun w => take4_more (s.extract 1 s.size) (by omega) (by omega) w
    rw [hxl] at hC
    obtain ⟨r, hr⟩ : ∃ r, r = s.data.toList.drop 1 := ⟨_, rfl⟩
    rw [← hr] at hC hl1 hrl
    have hbe := be_lt (r.take 4)
    rw [show (r.take 4).length = 4 by rw [List.length_take]; omega] at hbe
    obtain ⟨n, hn⟩ : ∃ n, n = be (r.take 4) := ⟨_, rfl⟩
    rw [← hn] at hC hbe
    obtain ⟨R, hR⟩ : ∃ R : ByteArray, R = ⟨(r.drop 4).toArray⟩ := ⟨_, rfl⟩
    rw [← hR] at hC
    have hRs : R.size = s.size - 5 := by rw [hR, text_list, List.length_drop, hrl]; omega
    have HC := Lib.hid hC
    clear hC hxs hxl F
    by_cases hbig : 16384 < n
    · have HR := Lib.hid (show frO s.data.toList = ([], 2) by rw [hl1, fr_big hc (by omega) (by omega)])
      have d2 : (16384 : Int) < (n : Int) := by omega
      clear hl1 hc hn hR hr hrl hRs
      go_enter Tryd.func71, Tryd.ntmps71
      go_wp2_with fail
      refine (HC.out _).mono ?_; rintro e w1 ⟨rfl, b1⟩
      go_wp2_with fail
      go_ret2
      exact fr_post HR.out b1
    have d2 : ¬ (16384 : Int) < (n : Int) := by omega
    by_cases hmore : R.size < n + 4
    · have HR := Lib.hid (show frO s.data.toList = ([], 4) by rw [hl1, fr_more hc (by omega) (by omega) (by omega)])
      have d3 : (R.size : Int) < (n : Int) + 4 := by omega
      have d4 : (R.size : Int) ≤ 100000 := by omega
      clear hl1 hc hn hR hr hrl hRs
      go_enter Tryd.func71, Tryd.ntmps71
      go_wp2_with fail
      refine (HC.out _).mono ?_; rintro e w1 ⟨rfl, b1⟩
      go_wp2_with fail
      go_ret2
      exact fr_post HR.out b1
    have d3 : ¬ (R.size : Int) < (n : Int) + 4 := by omega
    have d4 : (R.size : Int) ≤ 100000 := by omega
    have e3 : (n : Int) + 4 ≤ (R.size : Int) := by omega
    have e5 : 5 + (n : Int) ≤ (s.size : Int) := by omega
    have e6 : (n : Int) ≤ (R.size : Int) := by omega
    have e0 : (0 : Int) ≤ (n : Int) := by omega
    have s0 : (s.size : Int) ≤ 100000 := by omega
    have hRl : R.data.toList = r.drop 4 := by rw [hR]
    have hbs : (R.extract 0 n).size = n := by rw [head_of, text_list, List.length_take, hRl, List.length_drop]; omega
    have hBod := head_of R n
    rw [hRl] at hBod
    have hX : R.extract n (n + 4) = ⟨((r.drop (4 + n)).take 4).toArray⟩ := by rw [extract_mid, hRl, List.drop_drop, Nat.add_sub_cancel_left]
    obtain ⟨A, hA⟩ : ∃ A, A = s.extract 0 (5 + n) := ⟨_, rfl⟩
    have hAl : A.data.toList = s.data.toList.take (5 + n) := by rw [hA, head_of]
    have hAs : A.size ≤ maxLen := by
      have : A.data.toList.length = A.size := list_size A
      rw [hAl, List.length_take, list_size] at this
      unfold maxLen; omega
    have hO : ∀ w, Calls Tryd.prog 39 #[.string A] w fun e w' => e = .returned (.int .u32 (sumOf A.data.toList : Nat)) ∧ Below w.heap.size w w' := fun w => by
      refine (of_any A hAs w).mono ?_; rintro e w' ⟨rfl, rfl⟩
      exact ⟨rfl, up_alloc (Below.refl _ _) _⟩
    have hq := sumOf_lt A.data.toList
    rw [hAl] at hO hq
    obtain ⟨q, hqe⟩ : ∃ q, q = sumOf (s.data.toList.take (5 + n)) := ⟨_, rfl⟩
    rw [← hqe] at hO hq
    have hY := fun w => fixed4 q w
    have hfr : (r.drop (4 + n)).take 4 = fx q 4 → frO s.data.toList = ((r.drop 4).take n, 0) := fun h => by
      rw [hl1, fr_fine hc (by omega) (by omega) (by rw [← hn, ← hl1, ← hqe]; exact h), ← hn]
    have hfo : (r.drop (4 + n)).take 4 ≠ fx q 4 → frO s.data.toList = ([], 10) := fun h => by
      rw [hl1, fr_sum hc (by omega) (by omega) (by rw [← hn, ← hl1, ← hqe]; exact h)]
    rw [hA] at hO
    have HO := Lib.hid hO
    have Q1 := Lib.hid (show IntKind.u64.wrap (q : Int) = (q : Int) by rw [IntKind.wrap_u64]; omega)
    have HB := Lib.hid hBod
    have W4 := Lib.hid (show IntKind.u64.wrap ((n : Int) + 4) = (n : Int) + 4 by rw [IntKind.wrap_u64]; omega)
    have W5 := Lib.hid (show IntKind.i64.wrap (5 + (n : Int)) = 5 + (n : Int) from IntWalk.i64_in _ (by omega))
    have hs1 : ∀ W, (Instr.slice 9 (.string R) (some (.int .u64 (n : Int))) (some (.int .u64 ((n : Int) + 4))) none).run Tryd.prog W = .ok (.string (R.extract n (n + 4))) W := fun W => by
      rw [run_slice_string W _ _ _ _ _ _ Tryd.underlying9 (by omega) (by omega) (by omega)]
      rfl
    have HS1 := Lib.hid hs1
    have W6 := Lib.hid (show (0 : Int) ≤ 5 + (n : Int) by omega)
    have W7 := Lib.hid (show (5 + (n : Int)).toNat = 5 + n by omega)
    clear hs1
    by_cases heq : (r.drop (4 + n)).take 4 = fx q 4
    · have HR := Lib.hid (hfr heq)
      have d5 : (R.extract n (n + 4)).toList == (⟨(fx q 4).toArray⟩ : ByteArray).toList := by rw [hX, heq]; exact beq_self_eq_true _
      generalize (⟨(fx q 4).toArray⟩ : ByteArray) = Y at *
      have HY := Lib.hid hY
      clear hl1 hc hn hr hrl hRs hRl hX hAl hAs hO hq hqe hY hfr hfo heq hBod hbig hmore h4 hA hbe hR
      go_enter Tryd.func71, Tryd.ntmps71
      go_wp2_with fail
      refine (HC.out _).mono ?_; rintro e w1 ⟨rfl, b1⟩
      go_wp2_with fail
      have q1 := Q1.out
      have w4 := W4.out
      have w5 := W5.out
      have w6 := W6.out
      have w7 := W7.out
      have s1 := HS1.out
      refine wp_region_held_drew (S := fun _ => True) (by kernel_rfl) (trivial) (fun hHeld => ?_)
      refine wpAnyH_take (i := 0) (v := ?_) rfl (by kernel_rfl) (by kernel_rfl) (by kernel_rfl) (fun _ _ _ h => h) (Or.inl ⟨by rfl, ?_⟩) (by assumption) ?_
      rotate_left
      · intro w hSw; (try dsimp only at hSw); go_simp; try with_reducible rfl
      try simp only [Act.put, List.getElem_toArray, List.getElem_cons_zero, List.setIfInBounds_toArray, List.set_cons_zero, List.set_cons_succ]
      refine wpAnyH_take (i := 1) (v := ?_) rfl (by kernel_rfl) (by kernel_rfl) (by kernel_rfl) (fun _ _ _ h => h) (Or.inl ⟨by rfl, ?_⟩) (by assumption) ?_
      rotate_left
      · intro w hSw; (try dsimp only at hSw); go_simp; try with_reducible rfl
      try simp only [Act.put, List.getElem_toArray, List.getElem_cons_zero, List.getElem_cons_succ, List.setIfInBounds_toArray, List.set_cons_zero, List.set_cons_succ]
      refine wpAnyH_take (i := 2) (v := ?_) rfl (by kernel_rfl) (by kernel_rfl) (by kernel_rfl) (fun _ _ _ h => h) (Or.inl ⟨by rfl, ?_⟩) (by assumption) ?_
      rotate_left
      · intro w hSw; (try dsimp only at hSw); go_simp; try with_reducible rfl
      try simp only [Act.put, List.getElem_toArray, List.getElem_cons_zero, List.getElem_cons_succ, List.setIfInBounds_toArray, List.set_cons_zero, List.set_cons_succ]
      refine wpAnyH_take (i := 3) (v := ?_) rfl (by kernel_rfl) (by kernel_rfl) (by kernel_rfl) (fun _ _ _ h => h) (Or.inl ⟨by rfl, ?_⟩) (by assumption) ?_
      rotate_left
      · intro w hSw; (try dsimp only at hSw); go_simp; try with_reducible rfl
      try simp only [Act.put, List.getElem_toArray, List.getElem_cons_zero, List.getElem_cons_succ, List.setIfInBounds_toArray, List.set_cons_zero, List.set_cons_succ]
      refine wpAnyH_take (i := 4) (v := ?_) rfl (by kernel_rfl) (by kernel_rfl) (by kernel_rfl) (fun _ _ _ h => h) (Or.inl ⟨by rfl, ?_⟩) (by assumption) ?_
      rotate_left
      · intro w hSw; (try dsimp only at hSw); go_simp; try with_reducible rfl
      try simp only [Act.put, List.getElem_toArray, List.getElem_cons_zero, List.getElem_cons_succ, List.setIfInBounds_toArray, List.set_cons_zero, List.set_cons_succ]
      refine wpAnyH_take (i := 5) (v := ?_) rfl (by kernel_rfl) (by kernel_rfl) (by kernel_rfl) (fun _ _ _ h => h) (Or.inl ⟨by rfl, ?_⟩) (by assumption) ?_
      rotate_left
      · intro w hSw; (try dsimp only at hSw); go_simp; try with_reducible rfl
      try simp only [Act.put, List.getElem_toArray, List.getElem_cons_zero, List.getElem_cons_succ, List.setIfInBounds_toArray, List.set_cons_zero, List.set_cons_succ]
      refine wpAnyH_take (i := 6) (v := ?_) rfl (by kernel_rfl) (by kernel_rfl) (by kernel_rfl) (fun _ _ _ h => h) (Or.inl ⟨by rfl, ?_⟩) (by assumption) ?_
      rotate_left
      · intro w hSw; (try dsimp only at hSw); go_simp; try with_reducible rfl
      try simp only [Act.put, List.getElem_toArray, List.getElem_cons_zero, List.getElem_cons_succ, List.setIfInBounds_toArray, List.set_cons_zero, List.set_cons_succ]
      refine wpAnyH_take (i := 7) (v := ?_) rfl (by kernel_rfl) (by kernel_rfl) (by kernel_rfl) (fun _ _ _ h => h) (Or.inl ⟨by rfl, ?_⟩) (by assumption) ?_
      rotate_left
      · intro w hSw; (try dsimp only at hSw); go_simp; try with_reducible rfl
      try simp only [Act.put, List.getElem_toArray, List.getElem_cons_zero, List.getElem_cons_succ, List.setIfInBounds_toArray, List.set_cons_zero, List.set_cons_succ]
      refine wpAnyH_take (i := 8) (v := ?_) rfl (by kernel_rfl) (by kernel_rfl) (by kernel_rfl) (fun _ _ _ h => h) (Or.inl ⟨by rfl, ?_⟩) (by assumption) ?_
      rotate_left
      · intro w hSw; (try dsimp only at hSw); go_simp; try with_reducible rfl
      try simp only [Act.put, List.getElem_toArray, List.getElem_cons_zero, List.getElem_cons_succ, List.setIfInBounds_toArray, List.set_cons_zero, List.set_cons_succ]
      refine wpAnyH_take (i := 9) (v := ?_) rfl (by kernel_rfl) (by kernel_rfl) (by kernel_rfl) (fun _ _ _ h => h) (Or.inl ⟨by rfl, ?_⟩) (by assumption) ?_
      rotate_left
      · intro w hSw; (try dsimp only at hSw); go_simp; try with_reducible rfl
      try simp only [Act.put, List.getElem_toArray, List.getElem_cons_zero, List.getElem_cons_succ, List.setIfInBounds_toArray, List.set_cons_zero, List.set_cons_succ]
      refine wpAnyH_ready (rs := [10]) (by kernel_rfl) (by simp) (AllReadyH.cons rfl (fun K hK => ?_) AllReadyH.nil)
      go_simp
      refine (HO.out _).mono ?_; rintro e wn ⟨rfl, hbn'⟩
      have hbn : Below w1.heap.size w1 wn := up_trans (Below.refl _ _).drew hbn'
      clear hbn'
      go_wp2_with fail
      refine hK.out _ _ (trivial) (fun hHeld => ?_)
      clear hK K
      try simp only [Act.put, List.getElem_toArray, List.getElem_cons_zero, List.getElem_cons_succ, List.setIfInBounds_toArray, List.set_cons_zero, List.set_cons_succ]
      refine wpAnyH_take (i := 11) (v := ?_) rfl (by kernel_rfl) (by kernel_rfl) (by kernel_rfl) (fun _ _ _ h => h) (Or.inl ⟨by rfl, ?_⟩) (by assumption) ?_
      rotate_left
      · intro w hSw; (try dsimp only at hSw); go_simp; try with_reducible rfl
      try simp only [Act.put, List.getElem_toArray, List.getElem_cons_zero, List.getElem_cons_succ, List.setIfInBounds_toArray, List.set_cons_zero, List.set_cons_succ]
      refine wpAnyH_ready (rs := [12]) (by kernel_rfl) (by simp) (AllReadyH.cons rfl (fun K hK => ?_) AllReadyH.nil)
      go_simp
      refine (HY.out _).mono ?_; rintro e wn ⟨rfl, hbn'⟩
      replace hbn : Below w1.heap.size w1 wn := up_trans hbn hbn'
      clear hbn'
      go_wp2_with fail
      refine hK.out _ _ (trivial) (fun hHeld => ?_)
      clear hK K
      try simp only [Act.put, List.getElem_toArray, List.getElem_cons_zero, List.getElem_cons_succ, List.setIfInBounds_toArray, List.set_cons_zero, List.set_cons_succ]
      refine wpAnyH_take (i := 13) (v := ?_) rfl (by kernel_rfl) (by kernel_rfl) (by kernel_rfl) (fun _ _ _ h => h) (Or.inl ⟨by rfl, ?_⟩) (by assumption) ?_
      rotate_left
      · intro w hSw; (try dsimp only at hSw); go_simp; try with_reducible rfl
      try simp only [Act.put, List.getElem_toArray, List.getElem_cons_zero, List.getElem_cons_succ, List.setIfInBounds_toArray, List.set_cons_zero, List.set_cons_succ]
      refine wpAnyH_done (by kernel_rfl) ?_ _
      go_wp2_with fail
      go_ret2
      rw [HB.out]
      exact fr_post HR.out (up_trans b1 hbn)
    · have HR := Lib.hid (hfo heq)
      have d5 : ((R.extract n (n + 4)).toList == (⟨(fx q 4).toArray⟩ : ByteArray).toList) = false := by
        rw [hX, ByteArray.toList_eq, ByteArray.toList_eq, beq_eq_false_iff_ne]; exact heq
      generalize (⟨(fx q 4).toArray⟩ : ByteArray) = Y at *
      have HY := Lib.hid hY
      clear hl1 hc hn hr hrl hRs hRl hX hAl hAs hO hq hqe hY hfr hfo heq hBod hbig hmore h4 hA hbe hR
      go_enter Tryd.func71, Tryd.ntmps71
      go_wp2_with fail
      refine (HC.out _).mono ?_; rintro e w1 ⟨rfl, b1⟩
      go_wp2_with fail
      have q1 := Q1.out
      have w4 := W4.out
      have w5 := W5.out
      have w6 := W6.out
      have w7 := W7.out
      have s1 := HS1.out
      refine wp_region_held_drew (S := fun _ => True) (by kernel_rfl) (trivial) (fun hHeld => ?_)
      refine wpAnyH_take (i := 0) (v := ?_) rfl (by kernel_rfl) (by kernel_rfl) (by kernel_rfl) (fun _ _ _ h => h) (Or.inl ⟨by rfl, ?_⟩) (by assumption) ?_
      rotate_left
      · intro w hSw; (try dsimp only at hSw); go_simp; try with_reducible rfl
      try simp only [Act.put, List.getElem_toArray, List.getElem_cons_zero, List.setIfInBounds_toArray, List.set_cons_zero, List.set_cons_succ]
      refine wpAnyH_take (i := 1) (v := ?_) rfl (by kernel_rfl) (by kernel_rfl) (by kernel_rfl) (fun _ _ _ h => h) (Or.inl ⟨by rfl, ?_⟩) (by assumption) ?_
      rotate_left
      · intro w hSw; (try dsimp only at hSw); go_simp; try with_reducible rfl
      try simp only [Act.put, List.getElem_toArray, List.getElem_cons_zero, List.getElem_cons_succ, List.setIfInBounds_toArray, List.set_cons_zero, List.set_cons_succ]
      refine wpAnyH_take (i := 2) (v := ?_) rfl (by kernel_rfl) (by kernel_rfl) (by kernel_rfl) (fun _ _ _ h => h) (Or.inl ⟨by rfl, ?_⟩) (by assumption) ?_
      rotate_left
      · intro w hSw; (try dsimp only at hSw); go_simp; try with_reducible rfl
      try simp only [Act.put, List.getElem_toArray, List.getElem_cons_zero, List.getElem_cons_succ, List.setIfInBounds_toArray, List.set_cons_zero, List.set_cons_succ]
      refine wpAnyH_take (i := 3) (v := ?_) rfl (by kernel_rfl) (by kernel_rfl) (by kernel_rfl) (fun _ _ _ h => h) (Or.inl ⟨by rfl, ?_⟩) (by assumption) ?_
      rotate_left
      · intro w hSw; (try dsimp only at hSw); go_simp; try with_reducible rfl
      try simp only [Act.put, List.getElem_toArray, List.getElem_cons_zero, List.getElem_cons_succ, List.setIfInBounds_toArray, List.set_cons_zero, List.set_cons_succ]
      refine wpAnyH_take (i := 4) (v := ?_) rfl (by kernel_rfl) (by kernel_rfl) (by kernel_rfl) (fun _ _ _ h => h) (Or.inl ⟨by rfl, ?_⟩) (by assumption) ?_
      rotate_left
      · intro w hSw; (try dsimp only at hSw); go_simp; try with_reducible rfl
      try simp only [Act.put, List.getElem_toArray, List.getElem_cons_zero, List.getElem_cons_succ, List.setIfInBounds_toArray, List.set_cons_zero, List.set_cons_succ]
      refine wpAnyH_take (i := 5) (v := ?_) rfl (by kernel_rfl) (by kernel_rfl) (by kernel_rfl) (fun _ _ _ h => h) (Or.inl ⟨by rfl, ?_⟩) (by assumption) ?_
      rotate_left
      · intro w hSw; (try dsimp only at hSw); go_simp; try with_reducible rfl
      try simp only [Act.put, List.getElem_toArray, List.getElem_cons_zero, List.getElem_cons_succ, List.setIfInBounds_toArray, List.set_cons_zero, List.set_cons_succ]
      refine wpAnyH_take (i := 6) (v := ?_) rfl (by kernel_rfl) (by kernel_rfl) (by kernel_rfl) (fun _ _ _ h => h) (Or.inl ⟨by rfl, ?_⟩) (by assumption) ?_
      rotate_left
      · intro w hSw; (try dsimp only at hSw); go_simp; try with_reducible rfl
      try simp only [Act.put, List.getElem_toArray, List.getElem_cons_zero, List.getElem_cons_succ, List.setIfInBounds_toArray, List.set_cons_zero, List.set_cons_succ]
      refine wpAnyH_take (i := 7) (v := ?_) rfl (by kernel_rfl) (by kernel_rfl) (by kernel_rfl) (fun _ _ _ h => h) (Or.inl ⟨by rfl, ?_⟩) (by assumption) ?_
      rotate_left
      · intro w hSw; (try dsimp only at hSw); go_simp; try with_reducible rfl
      try simp only [Act.put, List.getElem_toArray, List.getElem_cons_zero, List.getElem_cons_succ, List.setIfInBounds_toArray, List.set_cons_zero, List.set_cons_succ]
      refine wpAnyH_take (i := 8) (v := ?_) rfl (by kernel_rfl) (by kernel_rfl) (by kernel_rfl) (fun _ _ _ h => h) (Or.inl ⟨by rfl, ?_⟩) (by assumption) ?_
      rotate_left
      · intro w hSw; (try dsimp only at hSw); go_simp; try with_reducible rfl
      try simp only [Act.put, List.getElem_toArray, List.getElem_cons_zero, List.getElem_cons_succ, List.setIfInBounds_toArray, List.set_cons_zero, List.set_cons_succ]
      refine wpAnyH_take (i := 9) (v := ?_) rfl (by kernel_rfl) (by kernel_rfl) (by kernel_rfl) (fun _ _ _ h => h) (Or.inl ⟨by rfl, ?_⟩) (by assumption) ?_
      rotate_left
      · intro w hSw; (try dsimp only at hSw); go_simp; try with_reducible rfl
      try simp only [Act.put, List.getElem_toArray, List.getElem_cons_zero, List.getElem_cons_succ, List.setIfInBounds_toArray, List.set_cons_zero, List.set_cons_succ]
      refine wpAnyH_ready (rs := [10]) (by kernel_rfl) (by simp) (AllReadyH.cons rfl (fun K hK => ?_) AllReadyH.nil)
      go_simp
      refine (HO.out _).mono ?_; rintro e wn ⟨rfl, hbn'⟩
      have hbn : Below w1.heap.size w1 wn := up_trans (Below.refl _ _).drew hbn'
      clear hbn'
      go_wp2_with fail
      refine hK.out _ _ (trivial) (fun hHeld => ?_)
      clear hK K
      try simp only [Act.put, List.getElem_toArray, List.getElem_cons_zero, List.getElem_cons_succ, List.setIfInBounds_toArray, List.set_cons_zero, List.set_cons_succ]
      refine wpAnyH_take (i := 11) (v := ?_) rfl (by kernel_rfl) (by kernel_rfl) (by kernel_rfl) (fun _ _ _ h => h) (Or.inl ⟨by rfl, ?_⟩) (by assumption) ?_
      rotate_left
      · intro w hSw; (try dsimp only at hSw); go_simp; try with_reducible rfl
      try simp only [Act.put, List.getElem_toArray, List.getElem_cons_zero, List.getElem_cons_succ, List.setIfInBounds_toArray, List.set_cons_zero, List.set_cons_succ]
      refine wpAnyH_ready (rs := [12]) (by kernel_rfl) (by simp) (AllReadyH.cons rfl (fun K hK => ?_) AllReadyH.nil)
      go_simp
      refine (HY.out _).mono ?_; rintro e wn ⟨rfl, hbn'⟩
      replace hbn : Below w1.heap.size w1 wn := up_trans hbn hbn'
      clear hbn'
      go_wp2_with fail
      refine hK.out _ _ (trivial) (fun hHeld => ?_)
      clear hK K
      try simp only [Act.put, List.getElem_toArray, List.getElem_cons_zero, List.getElem_cons_succ, List.setIfInBounds_toArray, List.set_cons_zero, List.set_cons_succ]
      refine wpAnyH_take (i := 13) (v := ?_) rfl (by kernel_rfl) (by kernel_rfl) (by kernel_rfl) (fun _ _ _ h => h) (Or.inl ⟨by rfl, ?_⟩) (by assumption) ?_
      rotate_left
      · intro w hSw; (try dsimp only at hSw); go_simp; try with_reducible rfl
      try simp only [Act.put, List.getElem_toArray, List.getElem_cons_zero, List.getElem_cons_succ, List.setIfInBounds_toArray, List.set_cons_zero, List.set_cons_succ]
      refine wpAnyH_done (by kernel_rfl) ?_ _
      go_wp2_with fail
      go_ret2
      exact fr_post HR.out (up_trans b1 hbn)
  · have d1 : (((s[0]'hp).toNat : Int) != 66) = true := by rw [bne_iff_ne]; omega
    have HR := Lib.hid (show frO s.data.toList = ([], 3) by rw [hl1, fr_mark hc])
    clear hl1 hc
    go_enter Tryd.func71, Tryd.ntmps71
    go_wp2_with fail
    go_ret2
    exact fr_post HR.out (Below.refl _ _)

end Go.Proofs.YthhcopeejhhpgaaDoor

/- Bytes, read as a batch: the contract of batch.Get. -/
namespace Go.Proofs.YthhcopeejhhpgaaDoor
open Go.RowKit Wire Evt Bat

/-- The results of a function that gives a batch and two numbers. -/
theorem results_got {fn : Func} {p u v : Tmp} (h : fn.results = #[.cell p 27, .tmp u, .tmp v]) (tmps : Array Value) (w : World) (g : Nat) (L : List Value) (x y : Value)
    (hp : tmps.getD p undef = .pointer (some ⟨g, 0, none⟩)) (hB : Has w g 27 L) (hL : L.length = 34) (hu : tmps.getD u undef = x) (hv : tmps.getD v undef = y) :
    (results fn tmps).run Tryd.prog w = .ok (.tuple #[.agg L.toArray, x, y]) w := by
  have hi : (Tryd.prog.info? 27).map (·.size) = some L.toArray.size := by rw [List.size_toArray, hL, info_batch]
  have h1 := run_loadVar_row (P := Tryd.prog) w g 27 27 L.toArray (0, 0) _ hB Tryd.underlying27 rfl hi
  rw [results_cell_two h, hp, hu, hv]
  simp [asAddr, h1]

/-- What batch.Get gives. -/
def BgetPost (s : List UInt8) (w : World) (e : Ending) (w' : World) : Prop :=
  ∃ v, e = .returned (.tuple #[.agg (btc (gotB s).bt.first v (gotB s).bt.prev).toArray, .int .i64 ((gotB s).used : Nat), .int .i64 ((gotB s).err : Nat)]) ∧ OwnE w.heap.size v (gotB s).bt.evs w' ∧ Below w.heap.size w w'
theorem bget_bad {s : List UInt8} {k : Nat} (h : gotB s = noB k) {w w' : World} (hb : Below w.heap.size w w') : BgetPost s w (.returned (.tuple #[.agg zbt.toArray, .int .i64 0, .int .i64 (k : Nat)])) w' := by
  unfold BgetPost
  rw [h]
  exact ⟨_, rfl, OwnE.nil _ _, hb⟩
theorem bget_good {s : List UInt8} {b : Bt} {n : Nat} (h : gotB s = ⟨b, n, 0⟩) {v : Value} {w w' : World} (ho : OwnE w.heap.size v b.evs w') (hb : Below w.heap.size w w') : BgetPost s w (.returned (.tuple #[.agg (btc b.first v b.prev).toArray, .int .i64 (n : Nat), .int .i64 0])) w' := by
  unfold BgetPost
  rw [h]
  exact ⟨v, rfl, ho, hb⟩

theorem OwnE.over {B g : Nat} {v : Value} {l : List Ev} {w w' : World} {t : TypeId} {L : List Value} (h : OwnE B v l w) (hg : Has w g t L) (ht : t ≠ 47) (ho : Only w w' g) : OwnE B v l w' := by
  obtain ⟨h0, h1 | ⟨b, cap, cur, hv, hb, hh, hr⟩⟩ := h.out
  · exact ⟨⟨h0, Or.inl h1⟩⟩
  · refine ⟨⟨h0, Or.inr ⟨b, cap, cur, hv, hb, ?_, hr⟩⟩⟩
    have hne : b ≠ g := by
      rintro rfl
      have h2 : w.heap[b]? = some (.cells L.toArray t (0, 0)) := hg
      rw [hh] at h2
      injection h2 with h3
      injection h3 with _ h4
      exact ht h4.symm
    have := ho.keep (g' := b) (t := 47) (l := cur.toList) hne (by show _ = _; rw [hh])
    have h2 : w'.heap[b]? = some (.cells cur.toList.toArray 47 (0, 0)) := this
    rwa [Array.toArray_toList] at h2
theorem OwnE.alloc {B : Nat} {v : Value} {l : List Ev} {w : World} (h : OwnE B v l w) (o : Obj) : OwnE B v l (w.alloc o) := ⟨h.out.alloc o⟩
theorem OwnE.up {B : Nat} {v : Value} {l : List Ev} {w w' : World} (h : OwnE B v l w) (hb : Below w.heap.size w w') : OwnE B v l w' := ⟨own_below h.out hb⟩

set_option maxHeartbeats 2000000 in
set_option maxRecDepth 100000 in
theorem bget_any (s : ByteArray) (hs : s.size ≤ 100000) (w : World) :
    Calls Tryd.prog 47 #[.string s] w fun e w' => BgetPost s.data.toList w e w' := by
  have hz : zbt.length = 34 := btc_length _ _ (by simp)
  have hzo : ∀ v ∈ zbt, v.oneCell' = true := btc_one 0 none 0 0 _
  have hi := info_batch
  have hu := Tryd.underlying27
  have HX := Lib.hid (Has.make w 27 zbt)
  have B1 := Lib.hid (up_alloc (Below.refl w.heap.size w) (.cells zbt.toArray 27))
  have HF := Lib.hid (fun w => framed_any s hs w)
  obtain ⟨l, k, hfr⟩ : ∃ l k, frO s.data.toList = (l, k) := ⟨_, _, rfl⟩
  by_cases hk : k = 0
  · subst hk
    obtain ⟨_, _, hll⟩ := fr_back hfr
    have hf : ∀ w e w', FrPost s.data.toList w e w' → e = .returned (.tuple #[.string ⟨l.toArray⟩, .int .i64 0]) ∧ Below w.heap.size w w' := by
      intro w e w' h
      unfold FrPost at h
      rw [hfr] at h
      exact h
    have HG := Lib.hid hf
    have HR := Lib.hid (fun w => bread_any l (by omega) w)
    have hls := text_list l
    clear hf
    go_enter Tryd.func47, Tryd.ntmps47
    go_wp2_with fail
    generalize hw1 : w.alloc (Obj.cells _ _) = w1
    replace HX : Hid (Has w1 w.heap.size 27 zbt) := by rw [← hw1]; exact HX
    replace B1 : Hid (Below w.heap.size w w1) := by rw [← hw1]; exact B1
    clear hw1
    refine (HF.out _).mono ?_; intro e w2 h2
    obtain ⟨rfl, b2⟩ := HG.out _ _ _ h2
    replace HX := Lib.hid (HX.out.up b2)
    replace B1 := Lib.hid (up_trans B1.out b2)
    clear h2 b2
    go_wp2_with fail
    refine (HR.out _).mono ?_; intro e w3 h3
    obtain ⟨b3, h3⟩ := h3
    have hs2 := B1.out.size
    replace HX := Lib.hid (HX.out.up b3)
    replace B1 := Lib.hid (up_trans B1.out b3)
    clear b3
    have hlx : w.heap.size < w3.heap.size := HX.out.lt
    cases hr : rdB l with
    | none =>
      rw [hr] at h3
      subst h3
      go_wp2_with (first
        | (refine wpList_store_whole rfl 27 _ _ rfl w3.heap.size 27 zbt zbt (by rfl) (by rfl) (Has.make w3 _ zbt) rfl (by rw [hi, hz]) hzo ?_; intro w4 hF4 hO4)
        | (refine wpList_store_whole rfl 27 _ _ rfl w.heap.size 27 zbt zbt (by rfl) (by rfl) (hO4.keep (by omega) (HX.out.alloc _)) rfl (by rw [hi, hz]) hzo ?_; intro w5 hF hO))
      refine bodyPost_ret_by (results_got Tryd.results47 _ _ w.heap.size _ _ _ (by rfl) hF hz (by rfl) (by rfl)) rfl ?_
      exact bget_bad (gotB_none hfr hr) (hO.below (Nat.le_refl _) (hO4.below (by omega) (B1.out.alloc B1.out.size _)))
    | some b =>
      rw [hr] at h3
      obtain ⟨v, rfl, hO3⟩ := h3
      obtain ⟨A, n, cap, rfl, hn1, hn2, hn3⟩ := hO3.opened
      clear hn1 hn2 hn3
      have hbf := (rdB_back hr).2.2
      have hb3 := btc_length b.first (.slice A n cap) hbf.prev
      have HO := Lib.hid ((hO3.alloc (.cells zbt.toArray 27)).mono_base hs2)
      clear hO3
      have hln : ((l.length : Nat) : Int) ≤ 16384 := by omega
      go_wp2_with (first
        | (refine wpList_store_whole rfl 27 _ _ rfl w3.heap.size 27 zbt (btc b.first (.slice A n cap) b.prev) (by rfl) (by rfl) (Has.make w3 _ zbt) (by rw [hb3, hz]) (by rw [hi, hb3]) (btc_one _ _ _ _ _) ?_; intro w4 hF4 hO4)
        | (refine wpList_load_row rfl 27 _ rfl w3.heap.size (by rfl) _ _ _ _ hF4 hu rfl (by rw [hi, List.size_toArray, hb3]) ?_)
        | (refine wpList_store_whole rfl 27 _ _ rfl w.heap.size 27 zbt (btc b.first (.slice A n cap) b.prev) (by rfl) (by rfl) (hO4.keep (by omega) (HX.out.alloc _)) (by rw [hb3, hz]) (by rw [hi, hb3]) (btc_one _ _ _ _ _) ?_; intro w5 hF hO))
      have O4 := HO.out.over (Has.make w3 27 zbt) (by decide) hO4
      have O5 := O4.over (hO4.keep (by omega) (HX.out.alloc _)) (by decide) hO
      refine bodyPost_ret_by (results_got Tryd.results47 _ _ w.heap.size _ (.int .i64 ((l.length + 9 : Nat) : Int)) (.int .i64 0) (by rfl) hF hb3 (by
        show Value.int .i64 _ = _
        congr 1
        omega) (by rfl)) rfl ?_
      exact bget_good (gotB_some hfr hr) O5 (hO.below (Nat.le_refl _) (hO4.below (by omega) (B1.out.alloc B1.out.size _)))
  · have hf : ∀ w e w', FrPost s.data.toList w e w' → e = .returned (.tuple #[.string ⟨l.toArray⟩, .int .i64 (k : Nat)]) ∧ Below w.heap.size w w' := by
      intro w e w' h
      unfold FrPost at h
      rw [hfr] at h
      exact h
    have HG := Lib.hid hf
    have d : ((k : Int) != 0) = true := by rw [bne_iff_ne]; omega
    have HR := Lib.hid (gotB_err hfr hk)
    clear hf hk
    go_enter Tryd.func47, Tryd.ntmps47
    go_wp2_with fail
    generalize hw1 : w.alloc (Obj.cells _ _) = w1
    replace HX : Hid (Has w1 w.heap.size 27 zbt) := by rw [← hw1]; exact HX
    replace B1 : Hid (Below w.heap.size w w1) := by rw [← hw1]; exact B1
    clear hw1
    refine (HF.out _).mono ?_; intro e w2 h2
    obtain ⟨rfl, b2⟩ := HG.out _ _ _ h2
    replace HX := Lib.hid (HX.out.up b2)
    replace B1 := Lib.hid (up_trans B1.out b2)
    clear h2 b2
    go_wp2_with (refine wpList_store_whole rfl 27 _ _ rfl w.heap.size 27 zbt zbt (by rfl) (by rfl) HX.out rfl (by rw [hi, hz]) hzo ?_; intro w3 hF hO)
    refine bodyPost_ret_by (results_got Tryd.results47 _ _ w.heap.size _ _ _ (by rfl) hF hz (by rfl) (by rfl)) rfl ?_
    exact bget_bad HR.out (hO.below (Nat.le_refl _) B1.out)

end Go.Proofs.YthhcopeejhhpgaaDoor
