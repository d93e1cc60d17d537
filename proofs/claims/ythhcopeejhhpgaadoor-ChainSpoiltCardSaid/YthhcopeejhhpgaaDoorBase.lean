/- Small laws that every walk of this seat may use: worlds that only grow, numbers that fit their kinds. -/
import Derived.Test.YthhcopeejhhpgaaDoorRows
import Derived.WalkKit
import Derived.ProofKit
import Derived.OpenShut
import Derived.Lib.Hide
import Derived.Laws.BitsAllLaws
import Derived.Below
import Derived.Laws.OwnMore
import Derived.Deep.Draws
import Derived.Laws.Rows
import Derived.Deep.MidRow
import Derived.Deep.QuietTactic
import Derived.Deep.RegionHeld3
import Derived.BigQuiet
import Derived.WalkMore
import Derived.Deep.AppendLies
import Derived.Laws.BytesArg
import Derived.Laws.MakeOwn
import Derived.Laws.StructEq
namespace Go.Proofs.YthhcopeejhhpgaaDoor
open Go.RowKit

theorem up_trans {a b c : World} (h : Below a.heap.size a b) (k : Below b.heap.size b c) : Below a.heap.size a c := h.trans (k.mono h.size)

theorem up_alloc {a w : World} (h : Below a.heap.size a w) (o : Obj) : Below a.heap.size a (w.alloc o) := h.alloc h.size o

theorem wf_u32 {n : Int} (h : (Lit.int .u32 n).wf = true) : ∃ k : Nat, n = k ∧ k < 4294967296 := by
  have := bounds_u32 h
  exact ⟨n.toNat, by omega, by omega⟩

end Go.Proofs.YthhcopeejhhpgaaDoor

/- Words of 32 bits: what the model's operations on them come to, as plain functions of natural numbers, with no condition (each is cut to 32 bits). -/
namespace Go.Proofs.YthhcopeejhhpgaaDoor.Word

def p32 (a b : Nat) : Nat := (a + b) % 4294967296
def x32 (a b : Nat) : Nat := (a ^^^ b) % 4294967296
def a32 (a b : Nat) : Nat := (a &&& b) % 4294967296
def o32 (a b : Nat) : Nat := (a ||| b) % 4294967296
def n32 (a : Nat) : Nat := 4294967295 - a % 4294967296
def l32 (a k : Nat) : Nat := a * 2 ^ min k 32 % 4294967296
def r32 (a k : Nat) : Nat := a / 2 ^ min k 32

theorem p32_lt (a b : Nat) : p32 a b < 4294967296 := Nat.mod_lt _ (by omega)
theorem x32_lt (a b : Nat) : x32 a b < 4294967296 := Nat.mod_lt _ (by omega)
theorem o32_lt (a b : Nat) : o32 a b < 4294967296 := Nat.mod_lt _ (by omega)
theorem o32_comm (a b : Nat) : o32 a b = o32 b a := by unfold o32; rw [Nat.or_comm]

theorem ofInt_mod (a : Nat) : (BitVec.ofInt 32 (a : Int)).toNat = a % 4294967296 := by
  rw [BitVec.ofInt_natCast, BitVec.toNat_ofNat]

theorem wrap_add (a b : Nat) : IntKind.u32.wrap ((a : Int) + (b : Int)) = ((p32 a b : Nat) : Int) := by
  rw [IntKind.wrap_u32']; unfold p32; omega

theorem mod_lt32 (x : Nat) (h : x < 2 ^ 32) : IntKind.u32.wrap ((x : Nat) : Int) = (x : Int) := by
  rw [IntKind.wrap_u32']; omega

theorem bits_xor (a b : Nat) : bits .xor .u32 (a : Int) (b : Int) = ((x32 a b : Nat) : Int) := by
  show IntKind.u32.wrap ((BitVec.ofInt 32 (a : Int) ^^^ BitVec.ofInt 32 (b : Int)).toNat : Int) = _
  have hx : x32 a b = a % 2 ^ 32 ^^^ b % 2 ^ 32 := Nat.xor_mod_two_pow (n := 32)
  rw [BitVec.toNat_xor, ofInt_mod, ofInt_mod, hx]
  exact mod_lt32 _ (Nat.xor_lt_two_pow (Nat.mod_lt _ (by omega)) (Nat.mod_lt _ (by omega)))

theorem bits_and (a b : Nat) : bits .and .u32 (a : Int) (b : Int) = ((a32 a b : Nat) : Int) := by
  show IntKind.u32.wrap ((BitVec.ofInt 32 (a : Int) &&& BitVec.ofInt 32 (b : Int)).toNat : Int) = _
  have hx : a32 a b = a % 2 ^ 32 &&& b % 2 ^ 32 := Nat.and_mod_two_pow (n := 32)
  rw [BitVec.toNat_and, ofInt_mod, ofInt_mod, hx]
  exact mod_lt32 _ (Nat.and_lt_two_pow _ (Nat.mod_lt _ (by omega)))

theorem bits_or (a b : Nat) : bits .or .u32 (a : Int) (b : Int) = ((o32 a b : Nat) : Int) := by
  show IntKind.u32.wrap ((BitVec.ofInt 32 (a : Int) ||| BitVec.ofInt 32 (b : Int)).toNat : Int) = _
  have hx : o32 a b = a % 2 ^ 32 ||| b % 2 ^ 32 := Nat.or_mod_two_pow (n := 32)
  rw [BitVec.toNat_or, ofInt_mod, ofInt_mod, hx]
  exact mod_lt32 _ (Nat.or_lt_two_pow (Nat.mod_lt _ (by omega)) (Nat.mod_lt _ (by omega)))

theorem wrap_less (a : Nat) : IntKind.u32.wrap (4294967295 - (a : Int)) = ((n32 a : Nat) : Int) := by
  rw [IntKind.wrap_u32']; unfold n32; omega

theorem bits_not (a : Nat) : bits .xor .u32 IntKind.u32.max (a : Int) = ((n32 a : Nat) : Int) := by
  have h := bits_xor 4294967295 a
  have hm : IntKind.u32.max = ((4294967295 : Nat) : Int) := rfl
  rw [hm, h]
  congr 1
  have h1 : x32 4294967295 a = 4294967295 % 2 ^ 32 ^^^ a % 2 ^ 32 := Nat.xor_mod_two_pow (n := 32)
  have h2 : (2 ^ 32 - 1 - a % 2 ^ 32) = (2 ^ 32 - 1) ^^^ a % 2 ^ 32 := by
    have := BitVec.toNat_not (x := BitVec.ofNat 32 a)
    have h3 : (~~~ BitVec.ofNat 32 a) = BitVec.ofNat 32 4294967295 ^^^ BitVec.ofNat 32 a := by
      have := BitVec.allOnes_xor (x := BitVec.ofNat 32 a)
      rw [← this]; rfl
    rw [h3, BitVec.toNat_xor, BitVec.toNat_ofNat, BitVec.toNat_ofNat] at this
    exact this.symm
  unfold n32
  rw [h1]
  exact h2.symm

theorem shl_nat (a k : Nat) (yk : IntKind) : Op.shift .shl .u32 (a : Int) yk (k : Int) = pure (.int .u32 ((l32 a k : Nat) : Int)) := by
  have h : ¬ ((k : Int) < 0) := by omega
  have e : IntKind.u32.wrap ((a : Int) * 2 ^ min k 32) = ((l32 a k : Nat) : Int) := by
    rw [IntKind.wrap_u32']; unfold l32
    simp
  simp [Op.shift, h, IntKind.bits, e]

theorem shr_nat (a k : Nat) (yk : IntKind) : Op.shift .shr .u32 (a : Int) yk (k : Int) = pure (.int .u32 ((r32 a k : Nat) : Int)) := by
  have h : ¬ ((k : Int) < 0) := by omega
  have hp : (0 : Int) ≤ 2 ^ min k 32 := Int.le_of_lt (Int.pow_pos (by decide))
  have e : (a : Int).fdiv (2 ^ min k 32) = ((r32 a k : Nat) : Int) := by
    rw [Int.fdiv_eq_ediv_of_nonneg _ hp]; unfold r32
    simp
  simp [Op.shift, h, IntKind.bits, e]

theorem wrap_byte (c : UInt8) : IntKind.u32.wrap (c.toNat : Int) = (c.toNat : Int) := by
  have := c.toNat_lt
  rw [IntKind.wrap_u32']; omega

/-- A byte of a text; 0, where there is none. -/
def bt (l : List UInt8) (i : Nat) : Nat := (l.getD i 0).toNat

theorem bt_lt (l : List UInt8) (i : Nat) : bt l i < 256 := (l.getD i 0).toNat_lt

theorem bt_of (s : ByteArray) (i : Nat) (h : i < s.size) : (s[i]).toNat = bt s.data.toList i := by
  have : i < s.data.toList.length := by simpa using h
  unfold bt
  rw [List.getD_eq_getElem?_getD, List.getElem?_eq_getElem this]; rfl

theorem wrap_bt (l : List UInt8) (i : Nat) : IntKind.u32.wrap (bt l i : Int) = (bt l i : Int) := wrap_byte _

theorem shl_lit (a k : Nat) (yk : IntKind) : Op.shift .shl .u32 (a : Int) yk (no_index (OfNat.ofNat k)) = pure (.int .u32 ((l32 a k : Nat) : Int)) := shl_nat a k yk
theorem shr_lit (a k : Nat) (yk : IntKind) : Op.shift .shr .u32 (a : Int) yk (no_index (OfNat.ofNat k)) = pure (.int .u32 ((r32 a k : Nat) : Int)) := shr_nat a k yk

end Go.Proofs.YthhcopeejhhpgaaDoor.Word

/- A block of memory that is known whole: what becomes of it behind draws, new blocks, stores, and calls that write nothing old. -/
namespace Go.Proofs.YthhcopeejhhpgaaDoor
open Go.RowKit

/-- Block g is just these cells, and each may be written. -/
def Has (w : World) (g : Nat) (t : TypeId) (l : List Value) : Prop := w.heap[g]? = some (.cells l.toArray t (0, 0))

theorem Has.lt {w : World} {g : Nat} {t : TypeId} {l : List Value} (h : Has w g t l) : g < w.heap.size := by
  refine Nat.lt_of_not_le fun hge => ?_
  have h' : w.heap[g]? = some _ := h
  rw [Array.getElem?_eq_none hge] at h'
  cases h'
theorem Has.cell {w : World} {g : Nat} {t : TypeId} {l : List Value} (h : Has w g t l) (i : Nat) : w.cell? ⟨g, i, none⟩ = l[i]? := by
  rw [cell_of_row w g i _ t (0, 0) h]; simp
theorem Has.at {w : World} {g : Nat} {t : TypeId} {l : List Value} (h : Has w g t l) {i : Nat} {v : Value} (hi : l[i]? = some v) : w.cell? ⟨g, i, none⟩ = some v := (h.cell i).trans hi
theorem Has.free {w : World} {g : Nat} {t : TypeId} {l : List Value} (h : Has w g t l) (i : Nat) : w.frozen? ⟨g, i, none⟩ = false := frozen_of_row w g i _ t h
theorem Has.make (w : World) (t : TypeId) (l : List Value) : Has (w.alloc (.cells l.toArray t)) w.heap.size t l := heap_alloc_new w _
theorem Has.make2 (w : World) (o : Obj) (t : TypeId) (l : List Value) : Has ((w.alloc o).alloc (.cells l.toArray t)) (w.heap.size + 1) t l := heap_alloc2_new w o _
theorem Has.make3 (w : World) (o p : Obj) (t : TypeId) (l : List Value) : Has (((w.alloc o).alloc p).alloc (.cells l.toArray t)) (w.heap.size + 1 + 1) t l := by
  have := heap_alloc2_new (w.alloc o) p (.cells l.toArray t)
  rwa [show (w.alloc o).heap.size = w.heap.size + 1 by simp] at this
theorem Has.drew {w : World} {g : Nat} {t : TypeId} {l : List Value} (h : Has w g t l) : Has w.drew g t l := h
theorem Has.drewN {w : World} {g : Nat} {t : TypeId} {l : List Value} (h : Has w g t l) (n : Nat) : Has (w.drewN n) g t l := h
theorem Has.alloc {w : World} {g : Nat} {t : TypeId} {l : List Value} (h : Has w g t l) (o : Obj) : Has (w.alloc o) g t l := (Below.heap_alloc w o g h.lt).trans h
theorem Has.other {w : World} {g : Nat} {t : TypeId} {l : List Value} (h : Has w g t l) {p : Addr} (hp : g ≠ p.block) (v : Value) : Has (w.setCell p v) g t l := (Below.heap_setCell w p v g hp).trans h
theorem Has.set {w : World} {g : Nat} {t : TypeId} {l : List Value} (h : Has w g t l) (i : Nat) (v : Value) : Has (w.setCell ⟨g, i, none⟩ v) g t (l.set i v) := by
  have := heap_setCell_same w g i l.toArray t v h
  unfold Has
  rw [this]
  simp
theorem Has.below {w w' : World} {g B : Nat} {t : TypeId} {l : List Value} (h : Has w g t l) (hb : Below B w w') (hg : g < B) : Has w' g t l := (hb.block g hg).trans h
theorem Has.up {w w' : World} {g : Nat} {t : TypeId} {l : List Value} (h : Has w g t l) (hb : Below w.heap.size w w') : Has w' g t l := h.below hb h.lt
theorem Has.range {w : World} {g : Nat} {t : TypeId} {l : List Value} (h : Has w g t l) (o n : Nat) : w.rangeAt g o ((l.drop o).take n) := fun j v hv => by
  rw [h.cell]
  rw [List.getElem?_take] at hv
  split at hv
  · rwa [List.getElem?_drop] at hv
  · cases hv
theorem Has.whole {w : World} {g : Nat} {t : TypeId} {l : List Value} (h : Has w g t l) : w.rangeAt g 0 l := fun j v hv => by
  rw [h.cell, Nat.zero_add]; exact hv
theorem Has.there {w : World} {g : Nat} {t : TypeId} {l : List Value} (h : Has w g t l) (o n : Nat) (hn : o + n ≤ l.length) : w.there g o n := fun j hj => by
  rw [h.cell, List.getElem?_eq_getElem (by omega)]
  exact ⟨rfl, h.free _⟩

theorem Has.setCells {g : Nat} {t : TypeId} : ∀ (vs : List Value) (o : Nat) {w : World} {l : List Value}, Has w g t l → o + vs.length ≤ l.length → Has (w.setCells g o vs) g t (l.take o ++ vs ++ l.drop (o + vs.length))
  | [], o, w, l, h, _ => by simpa [World.setCells] using h
  | v :: vs, o, w, l, h, hl => by
    have hl' : o + (vs.length + 1) ≤ l.length := hl
    have ih := Has.setCells vs (o + 1) (h.set o v) (by simp; omega)
    rw [World.setCells]
    have e1 : (l.set o v).take (o + 1) = l.take o ++ [v] := by
      rw [List.take_succ_eq_append_getElem (by simp; omega), List.take_set]
      rw [List.set_eq_of_length_le (by simp; omega)]
      simp
    have e2 : (l.set o v).drop (o + 1 + vs.length) = l.drop (o + (v :: vs).length) := by
      rw [List.drop_set_of_lt (by omega)]
      congr 1
      simp; omega
    rw [e1, e2] at ih
    simpa using ih

theorem Has.setWhole {g : Nat} {t : TypeId} {w : World} {l vs : List Value} (h : Has w g t l) (hl : vs.length = l.length) : Has (w.setCells g 0 vs) g t vs := by
  have := Has.setCells vs 0 h (by omega)
  simpa [hl] using this

theorem Has.setOther {g b : Nat} {t : TypeId} (hb : g ≠ b) : ∀ (vs : List Value) (o : Nat) {w : World} {l : List Value}, Has w g t l → Has (w.setCells b o vs) g t l
  | [], _, _, _, h => h
  | v :: vs, o, w, l, h => by
    rw [World.setCells]
    exact Has.setOther hb vs (o + 1) (h.other (p := ⟨b, o, none⟩) hb v)

theorem below_setCells {B b : Nat} (hb : B ≤ b) : ∀ (vs : List Value) (o : Nat) {a w : World}, Below B a w → Below B a (w.setCells b o vs)
  | [], _, _, _, h => h
  | v :: vs, o, a, w, h => by
    rw [World.setCells]
    exact below_setCells hb vs (o + 1) (h.setCell (p := ⟨b, o, none⟩) hb v)

theorem size_setCells (b : Nat) : ∀ (vs : List Value) (o : Nat) (w : World), (w.setCells b o vs).heap.size = w.heap.size
  | [], _, _ => rfl
  | v :: vs, o, w => by
    rw [World.setCells, size_setCells b vs (o + 1)]
    simp [World.setCell]

theorem below_drewN {B : Nat} {a w : World} (h : Below B a w) (n : Nat) : Below B a (w.drewN n) := ⟨h.os, h.tape, h.output, h.size, h.block⟩

/-- What a store into the whole of one block leaves: that block's new cells, and all else as it was. -/
structure Only (w w' : World) (g : Nat) : Prop where
  size : w'.heap.size = w.heap.size
  keep : ∀ {g' : Nat} {t : TypeId} {l : List Value}, g' ≠ g → Has w g' t l → Has w' g' t l
  below : ∀ {B : Nat} {a : World}, B ≤ g → Below B a w → Below B a w'

/-- THE STORE of a value of as many cells as a block has into the whole of it: the world behind it is a letter. -/
theorem wpList_store_whole {P : Program} {ops : Array Oper} {rest : List Oper} {op : Oper} {a : Act} {w : World} {Q : Exit → Act → World → Prop} (hgd : op.guard = none) (ty : TypeId) (x y : Operand) (ho : op.op = .store ty x y)
    (g : Nat) (t : TypeId) (l vs : List Value) (hx : a.eval x = .pointer (some ⟨g, 0, none⟩)) (hy : a.eval y = .agg vs.toArray) (hg : Has w g t l) (hl : vs.length = l.length)
    (hi : (P.info? ty).map (·.size) = some vs.length) (h1 : ∀ v ∈ vs, v.oneCell' = true)
    (h : ∀ w', Has w' g t vs → Only w w' g → wpList P ops Q rest (a.put op.dst undef) w') : wpList P ops Q (op :: rest) a w :=
  wpList_store_mid hgd ty x y ho g 0 vs.toArray hx hy (hg.there 0 _ (by simp; omega)) (by simpa using hi) (all_oneCell_toArray h1)
    (h _ (hg.setWhole hl) ⟨size_setCells _ _ _ _, fun hne hk => hk.setOther hne vs 0, fun hB hb => below_setCells hB _ _ hb⟩)

/-- THE STORE into a part of a block. -/
theorem wpList_store_part {P : Program} {ops : Array Oper} {rest : List Oper} {op : Oper} {a : Act} {w : World} {Q : Exit → Act → World → Prop} (hgd : op.guard = none) (ty : TypeId) (x y : Operand) (ho : op.op = .store ty x y)
    (g o : Nat) (t : TypeId) (l vs : List Value) (hx : a.eval x = .pointer (some ⟨g, o, none⟩)) (hy : a.eval y = .agg vs.toArray) (hg : Has w g t l) (hl : o + vs.length ≤ l.length)
    (hi : (P.info? ty).map (·.size) = some vs.length) (h1 : ∀ v ∈ vs, v.oneCell' = true)
    (h : ∀ w', Has w' g t (l.take o ++ vs ++ l.drop (o + vs.length)) → Only w w' g → wpList P ops Q rest (a.put op.dst undef) w') : wpList P ops Q (op :: rest) a w :=
  wpList_store_mid hgd ty x y ho g o vs.toArray hx hy (hg.there o _ (by simpa using hl)) (by simpa using hi) (all_oneCell_toArray h1)
    (h _ (Has.setCells vs o hg hl) ⟨size_setCells _ _ _ _, fun hne hk => hk.setOther hne vs o, fun hB hb => below_setCells hB _ _ hb⟩)

/-- Numbers of one kind, as cells. -/
def nums (k : IntKind) (l : List Nat) : List Value := l.map fun n => .int k (n : Nat)
theorem nums_length (k : IntKind) (l : List Nat) : (nums k l).length = l.length := by simp [nums]
theorem nums_one (k : IntKind) (l : List Nat) : ∀ v ∈ nums k l, v.oneCell' = true := by
  intro v hv
  obtain ⟨n, _, rfl⟩ := List.mem_map.1 hv
  rfl
theorem nums_at (k : IntKind) (l : List Nat) {i : Nat} (h : i < l.length) : (nums k l)[i]? = some (.int k (l[i] : Nat)) := by simp [nums, h]

end Go.Proofs.YthhcopeejhhpgaaDoor

/- A long array, read whole by an operation that waits for a test. -/
namespace Go.Proofs.YthhcopeejhhpgaaDoor
open Go.RowKit

theorem wpList_wanted {P : Program} {ops : Array Oper} {Q : Exit → Act → World → Prop} {a : Act} {w : World} {rest : List Oper} {o : Oper} (hw : Region.wanted o (yielded ops a.tmps) = true)
    (h : ∀ K : Act → World → Prop, (∀ a w, wpList P ops Q rest a w → K a w) → o.wp P a w K Q) : wpList P ops Q (o :: rest) a w :=
  wpList_step fun K hK => by rw [if_pos hw]; exact h K hK

theorem wpList_load_wanted {P : Program} {ops : Array Oper} {rest : List Oper} {o : Oper} {a : Act} {w : World} {Q : Exit → Act → World → Prop} (hw : Region.wanted o (yielded ops a.tmps) = true) (ty : TypeId) (x : Operand) (ho : o.op = .load ty x)
    (g : Nat) (hx : a.eval x = .pointer (some ⟨g, 0, none⟩)) (t : TypeId) (cs : Array Value) (fr : Nat × Nat) (d : TypeDesc) (hg : w.heap[g]? = some (.cells cs t fr))
    (hu : P.underlying ty = some d) (hd : (match d with | .struct _ | .array _ _ => true | _ => false) = true) (hi : (P.info? ty).map (·.size) = some cs.size)
    (h : wpList P ops Q rest (a.put o.dst (.agg cs)) w) : wpList P ops Q (o :: rest) a w :=
  wpList_wanted hw fun _ hK => wp_load_row ty x ho g hx t cs fr d hg hu hd hi (hK _ _ h)

end Go.Proofs.YthhcopeejhhpgaaDoor

/- Regions that draw their order: small laws for a walk by hand. -/
namespace Go.Proofs.YthhcopeejhhpgaaDoor
open Go.RowKit

/-- The condition on the world may be made stronger on the way. -/
theorem wpAnyH_strong {P : Program} {ops : Array Oper} {Q : Exit → Act → World → Prop} {md : Region.Mode} {S S' : World → Prop} (h : ∀ w, S' w → S w) :
    ∀ (fuel : Nat) (listed : Array Bool) (a : Act) (w : World), wpAnyH P md ops Q S' fuel listed a w → wpAnyH P md ops Q S fuel listed a w
  | 0, _, _, _, hh => hh
  | fuel + 1, _, _, _, hh => ⟨hh.1, fun i hi => wpOp_mono (fun a' w' h' => ⟨h w' h'.1, wpAnyH_strong h fuel _ a' w' h'.2⟩) (hh.2 i hi)⟩

/-- .. with the new condition at hand. -/
theorem wpAnyH_turn {P : Program} {ops : Array Oper} {Q : Exit → Act → World → Prop} {md : Region.Mode} {S : World → Prop} (S' : World → Prop) (h : ∀ w, S' w → S w) {fuel : Nat} {listed : Array Bool} {a : Act} {w : World}
    (hS : S' w) (hh : S' w → wpAnyH P md ops Q S' fuel listed a w) : wpAnyH P md ops Q S fuel listed a w := wpAnyH_strong h _ _ _ _ (hh hS)

end Go.Proofs.YthhcopeejhhpgaaDoor

/- Slices of bytes that a call itself makes, under names that no tactic opens; their text. -/
namespace Go.Proofs.YthhcopeejhhpgaaDoor
open Go.RowKit

theorem info_u8 : (Tryd.prog.info? 5).map (fun i => (i.zero, i.size, i.bytes)) = some (some (.int .u8 0), 1, 1) := by kernel_rfl

theorem own_text (v : Value) (k : Nat) (l : List UInt8) (hl : l.length = k) (B : Nat) (W : World) (h : W.ownsRow B 5 1 v k (l.map fun c => Value.int .u8 c.toNat)) :
    (convert 51 9 v).run Tryd.prog W = .ok (.string ⟨l.toArray⟩) W := by
  obtain ⟨h0, ⟨rfl, rfl⟩ | ⟨g, cap, cur, rfl, hg, hh, hn, hc, hs, ht⟩⟩ := h
  · obtain rfl : l = [] := List.length_eq_zero_iff.1 hl
    exact run_convert_bytes_nil W 51 5 Tryd.underlying51 Tryd.underlying5 0 0 9 Tryd.underlying9
  · subst hl
    refine run_convert_bytes_back (P := Tryd.prog) W 51 9 5 ⟨g, 0, none⟩ cap l Tryd.underlying51 Tryd.underlying5 Tryd.underlying9 ?_
    intro j hj
    have hadd : (⟨g, 0, none⟩ : Addr).add j = ⟨g, j, none⟩ := by unfold Addr.add; split <;> simp_all
    rw [hadd]
    have hcur : cur[j]? = some (Value.int .u8 l[j].toNat) := by
      have := congrArg (fun m => m[j]?) ht
      simp [hj] at this
      exact this
    simp [World.cell?, hh, hcur]

theorem own_below {B e s n : Nat} {v : Value} {xs : List Value} {W w1 : World} (h : W.ownsRow B e s v n xs) (hb : Below W.heap.size W w1) : w1.ownsRow B e s v n xs := by
  obtain ⟨h0, h1 | ⟨g, cap, cur, hv, hg, hh, hr⟩⟩ := h
  · exact ⟨h0, Or.inl h1⟩
  · exact ⟨h0, Or.inr ⟨g, cap, cur, hv, hg, (hb.block g (lt_of_block hh)).trans hh, hr⟩⟩

/-- Bytes, as cells. -/
def bys (l : List UInt8) : List Value := l.map fun c => Value.int .u8 c.toNat

/-- A slice of bytes that the call itself made, under one name that no tactic opens. -/
structure OwnB (B : Nat) (v : Value) (l : List UInt8) (W : World) : Prop where
  out : W.ownsRow B 5 1 v l.length (bys l)

theorem OwnB.text {B : Nat} {v : Value} {l : List UInt8} {W : World} (h : OwnB B v l W) : (convert 51 9 v).run Tryd.prog W = .ok (.string ⟨l.toArray⟩) W := own_text v _ l rfl B W h.out
theorem OwnB.below {B : Nat} {v : Value} {l : List UInt8} {W w1 : World} (h : OwnB B v l W) (hb : Below W.heap.size W w1) : OwnB B v l w1 := ⟨own_below h.out hb⟩
theorem OwnB.alloc {B : Nat} {v : Value} {l : List UInt8} {W : World} (h : OwnB B v l W) (o : Obj) : OwnB B v l (W.alloc o) := ⟨h.out.alloc o⟩
theorem OwnB.drew {B : Nat} {v : Value} {l : List UInt8} {W : World} (h : OwnB B v l W) : OwnB B v l W.drew := ⟨h.out.drew⟩

/-- What an append onto a row from block B on leaves: all that lies below B as it was. -/
theorem wpList_push {ops : Array Oper} {rest : List Oper} {o : Oper} {a : Act} {w : World} {Q : Exit → Act → World → Prop} (hgd : o.guard = none) (s x : Operand)
    (ho : o.op = .call { callee := .builtin .append, args := #[s, x], argTypes := #[51, 51] })
    (B : Nat) (v : Value) (l : List UInt8) (hs : a.eval s = v) (hown : OwnB B v l w) (g m : Nat) (news : List UInt8) (hx : a.eval x = .slice (some ⟨g, 0, none⟩) m m) (hg : Has w g 5 (bys news))
    (hl : news.length = m) (hm : 0 < m) (h63 : l.length + m ≤ 16777216) (hB : B ≤ w.heap.size)
    (h : ∀ v' w', OwnB B v' (l ++ news) w' → Below B w w' → wpList Tryd.prog ops Q rest (a.put o.dst v') w') : wpList Tryd.prog ops Q (o :: rest) a w := by
  obtain ⟨i0, hi, hz0, hz1, hz2⟩ := info_parts info_u8
  refine wpList_append_lies w hgd s x 51 ho B 5 i0 _ 1 1 Tryd.underlying51 hi hz0 hz1 hz2 rfl (by omega) v l.length (bys l) hs hown.out ⟨g, 0, none⟩ m m (bys news) hx (by simp [bys, hl])
    (World.news_of_block (cs := (bys news).toArray) hg) (by intro u hu; obtain ⟨c, _, rfl⟩ := List.mem_map.1 hu; rfl) hm (by unfold maxLen; omega) (by omega) hB _ rfl ?_
  intro g' cap w1 hown1 hgrow hat hlt
  refine h _ w1 ⟨?_⟩ ((Below.refl B w).grown hgrow hB (fun j hj => (hown.out.lt j hj).1))
  have : bys (l ++ news) = bys l ++ bys news := by simp [bys]
  rw [this, List.length_append, hl]
  exact hown1

theorem step_push {ops : Array Oper} {o : Oper} {a : Act} {w : World} {K : Act → World → Prop} {Q : Exit → Act → World → Prop} {E : Prop} (hgd : o.guard = none) (s x : Operand)
    (ho : o.op = .call { callee := .builtin .append, args := #[s, x], argTypes := #[51, 51] })
    (B : Nat) (v : Value) (l : List UInt8) (hs : a.eval s = v) (hown : OwnB B v l w) (g m : Nat) (news : List UInt8) (hx : a.eval x = .slice (some ⟨g, 0, none⟩) m m) (hg : Has w g 5 (bys news))
    (hl : news.length = m) (hm : 0 < m) (h63 : l.length + m ≤ 16777216) (hB : B ≤ w.heap.size)
    (h : ∀ v' w', OwnB B v' (l ++ news) w' → Below B w w' → K (a.put o.dst v') w') :
    if Region.wanted o (yielded ops a.tmps) = true then Oper.wp Tryd.prog o a w K Q else E := by
  obtain ⟨i0, hi, hz0, hz1, hz2⟩ := info_parts info_u8
  refine step_append_lies w hgd s x 51 ho B 5 i0 _ 1 1 Tryd.underlying51 hi hz0 hz1 hz2 rfl (by omega) v l.length (bys l) hs hown.out ⟨g, 0, none⟩ m m (bys news) hx (by simp [bys, hl])
    (World.news_of_block (cs := (bys news).toArray) hg) (by intro u hu; obtain ⟨c, _, rfl⟩ := List.mem_map.1 hu; rfl) hm (by unfold maxLen; omega) (by omega) hB _ rfl ?_
  intro g' cap w1 hown1 hgrow hat hlt
  refine h _ w1 ⟨?_⟩ ((Below.refl B w).grown hgrow hB (fun j hj => (hown.out.lt j hj).1))
  have : bys (l ++ news) = bys l ++ bys news := by simp [bys]
  rw [this, List.length_append, hl]
  exact hown1

/-- A row of bytes that was made with n bytes, of which k count. -/
theorem OwnB.of_block {B g n : Nat} {W : World} {l r : List UInt8} (hB : B ≤ g) (h : Has W g 5 (bys (l ++ r))) (hn : (l ++ r).length = n) (hm : n ≤ 16777216) : OwnB B (.slice (some ⟨g, 0, none⟩) l.length n) l W := by
  refine ⟨⟨by simp [bys], Or.inr ⟨g, n, _, rfl, hB, h, ?_, ?_, ?_, ?_⟩⟩⟩
  · have : (l ++ r).length = l.length + r.length := List.length_append
    omega
  · unfold maxLen; omega
  · simp [bys] at hn ⊢; omega
  · simp [bys]

theorem made_bys (n : Nat) : madeCells #[Value.int .u8 0] n = (bys (List.replicate n 0)).toArray := by
  unfold madeCells bys
  apply Array.ext
  · simp
  · intro i h1 h2
    simp [Nat.mod_one]

theorem run_make_bys (n c : Nat) (hnc : n ≤ c) (hc : c ≤ 16777216) (w : World) :
    (Instr.makeSlice 51 (.int .i64 (n : Int)) (.int .i64 (c : Int))).run Tryd.prog w = .ok (.slice (some ⟨w.heap.size, 0, none⟩) n c) (w.alloc (.cells (bys (List.replicate c 0)).toArray 5)) := by
  obtain ⟨i0, hi, hz0, hz1, hz2⟩ := info_parts info_u8
  have hr := run_make (P := Tryd.prog) w 51 5 i0 _ Tryd.underlying51 hi hz0 .i64 .i64 n c (by omega) (by omega) (by rw [hz2]; omega) (by omega)
  rw [hz1] at hr
  simp only [Int.toNat_natCast, Nat.mul_one] at hr
  rw [hr, ← made_bys]
  rfl

end Go.Proofs.YthhcopeejhhpgaaDoor

/- Two arrays of numbers that are the same are equal: '==' and '!=' on them. -/
namespace Go.Proofs.YthhcopeejhhpgaaDoor
open Go.RowKit

theorem run_part_nums (k : IntKind) (e : TypeId) (hagg : ∀ w : World, (isAgg e).run Tryd.prog w = .ok false w) (l : List Nat) (i : Nat) (h : i < l.length) (w : World) :
    (part e (nums k l).toArray i).run Tryd.prog w = .ok (.int k ((l[i] : Nat) : Int)) w := by
  have h1 : (nums k l).toArray[i]? = some (.int k ((l[i] : Nat) : Int)) := by simpa using nums_at k l h
  simp [part, Sem.run_bind, hagg, h1]

theorem run_equalIn_same (t e : TypeId) (n : Nat) (k : IntKind) (ht : Tryd.prog.underlying t = some (.array n e)) (he : Tryd.prog.underlying e = some (.int k)) (hsz : ∀ w : World, (sizeOf e).run Tryd.prog w = .ok 1 w) (hagg : ∀ w : World, (isAgg e).run Tryd.prog w = .ok false w)
    (l : List Nat) (hl : l.length = n) (d : Nat) (w : World) : (Op.equalIn (d + 2) t (.agg (nums k l).toArray) (.agg (nums k l).toArray)).run Tryd.prog w = .ok true w := by
  rw [Op.equalIn]
  simp only [Sem.run_bind, run_underlying ht, Result.andThen_ok, hsz]
  rw [Std.Legacy.Range.forIn_eq_forIn_range']
  simp only [Std.Legacy.Range.size, Nat.sub_zero, Nat.add_sub_cancel, Nat.div_one, Nat.mul_one]
  have key : ∀ (m i : Nat), i + m = n → (Sem.run Tryd.prog (forIn (List.range' i m 1) ((none : Option Bool), ()) fun i __s => do
            let __do_lift ← part e (nums k l).toArray i
            let __do_lift_1 ← part e (nums k l).toArray i
            let __do_lift ← Op.equalIn (d + 1) e __do_lift __do_lift_1
            if (!__do_lift) = true then pure (ForInStep.done (some false, ())) else pure (ForInStep.yield (none, ()))) w) = .ok (none, ()) w := by
    intro m
    induction m with
    | zero => intro i _; simp
    | succ m ih =>
      intro i hi
      rw [List.range'_succ, List.forIn_cons]
      have hil : i < l.length := by omega
      simp only [Sem.run_bind, run_part_nums k e hagg l i hil, Result.andThen_ok, run_equalIn_int w d e k k _ _ he, beq_self_eq_true, Bool.not_true, Bool.false_eq_true, if_false, Sem.run_pure]
      exact ih (i + 1) (by omega)
  have := key n 0 (by omega)
  rw [this]
  simp

theorem eql_sums (l : List Nat) (hl : l.length = 32) (w : World) : (binOp .eql 23 (.agg (nums .u8 l).toArray) (.agg (nums .u8 l).toArray)).run Tryd.prog w = .ok (.bool true) w := by
  rw [run_eql_struct, run_equalIn_same 23 5 32 .u8 Tryd.underlying23 Tryd.underlying5 (fun w => by kernel_rfl) (fun w => by kernel_rfl) l hl]
  rfl

theorem neq_sums (l : List Nat) (hl : l.length = 32) (w : World) : (binOp .neq 23 (.agg (nums .u8 l).toArray) (.agg (nums .u8 l).toArray)).run Tryd.prog w = .ok (.bool false) w := by
  rw [run_neq_struct, run_equalIn_same 23 5 32 .u8 Tryd.underlying23 Tryd.underlying5 (fun w => by kernel_rfl) (fun w => by kernel_rfl) l hl]
  rfl

theorem eql_zero (w : World) : (Op.equalIn 10000 23 (.agg (nums .u8 (List.replicate 32 0)).toArray) (.agg #[.int .u8 0, .int .u8 0, .int .u8 0, .int .u8 0, .int .u8 0, .int .u8 0, .int .u8 0, .int .u8 0, .int .u8 0, .int .u8 0, .int .u8 0, .int .u8 0, .int .u8 0, .int .u8 0, .int .u8 0, .int .u8 0, .int .u8 0, .int .u8 0, .int .u8 0, .int .u8 0, .int .u8 0, .int .u8 0, .int .u8 0, .int .u8 0, .int .u8 0, .int .u8 0, .int .u8 0, .int .u8 0, .int .u8 0, .int .u8 0, .int .u8 0, .int .u8 0])).run Tryd.prog w = .ok true w :=
  run_equalIn_same 23 5 32 .u8 Tryd.underlying23 Tryd.underlying5 (fun w => by kernel_rfl) (fun w => by kernel_rfl) (List.replicate 32 0) (by simp) 9998 w

end Go.Proofs.YthhcopeejhhpgaaDoor

/- Slices of 64-bit numbers that a call itself makes, under a name that no tactic opens. -/
namespace Go.Proofs.YthhcopeejhhpgaaDoor
open Go.RowKit

theorem info_u64 : (Tryd.prog.info? 25).map (fun i => (i.zero, i.size, i.bytes)) = some (some (.int .u64 0), 1, 8) := by kernel_rfl

/-- A slice of 64-bit numbers that the call itself made. -/
structure Own8 (B : Nat) (v : Value) (l : List Nat) (W : World) : Prop where
  out : W.ownsRow B 25 1 v l.length (nums .u64 l)

theorem Own8.below {B : Nat} {v : Value} {l : List Nat} {W w1 : World} (h : Own8 B v l W) (hb : Below W.heap.size W w1) : Own8 B v l w1 := ⟨own_below h.out hb⟩
theorem Own8.alloc {B : Nat} {v : Value} {l : List Nat} {W : World} (h : Own8 B v l W) (o : Obj) : Own8 B v l (W.alloc o) := ⟨h.out.alloc o⟩
theorem Own8.drew {B : Nat} {v : Value} {l : List Nat} {W : World} (h : Own8 B v l W) : Own8 B v l W.drew := ⟨h.out.drew⟩
theorem Own8.nil (B : Nat) (W : World) : Own8 B (.slice none 0 0) [] W := ⟨⟨rfl, Or.inl ⟨rfl, rfl⟩⟩⟩

/-- Such a slice that is not empty, opened. -/
theorem Own8.opened {B : Nat} {v : Value} {l : List Nat} {W : World} (h : Own8 B v l W) (hl : 0 < l.length) : ∃ g cap, v = .slice (some ⟨g, 0, none⟩) l.length cap ∧ B ≤ g ∧ g < W.heap.size ∧ l.length ≤ cap ∧ ∀ j x, l[j]? = some x → W.cell? ⟨g, j, none⟩ = some (.int .u64 (x : Nat)) := by
  obtain ⟨h0, ⟨_, hn⟩ | ⟨g, cap, cur, hv, hg, hh, hn, hc, hs, ht⟩⟩ := h.out
  · omega
  · refine ⟨g, cap, hv, hg, lt_of_block hh, by omega, fun j x hx => ?_⟩
    have hj : j < l.length := by
      rcases Nat.lt_or_ge j l.length with h | h
      · exact h
      · rw [List.getElem?_eq_none h] at hx; cases hx
    have hcur : cur[j]? = some (Value.int .u64 (x : Nat)) := by
      have := congrArg (fun m => m[j]?) ht
      simp [nums, hj] at this
      rw [List.getElem?_eq_getElem hj] at hx
      obtain rfl := Option.some.inj hx
      exact this
    simp [World.cell?, hh, hcur]

/-- AN APPEND onto such a slice. -/
theorem wpList_push8 {ops : Array Oper} {rest : List Oper} {o : Oper} {a : Act} {w : World} {Q : Exit → Act → World → Prop} (hgd : o.guard = none) (s x : Operand)
    (ho : o.op = .call { callee := .builtin .append, args := #[s, x], argTypes := #[118, 118] })
    (B : Nat) (v : Value) (l : List Nat) (hs : a.eval s = v) (hown : Own8 B v l w) (g m : Nat) (news : List Nat) (hx : a.eval x = .slice (some ⟨g, 0, none⟩) m m) (hg : Has w g 25 (nums .u64 news))
    (hl : news.length = m) (hm : 0 < m) (h63 : l.length + m ≤ 1000000) (hB : B ≤ w.heap.size)
    (h : ∀ v' w', Own8 B v' (l ++ news) w' → Below B w w' → wpList Tryd.prog ops Q rest (a.put o.dst v') w') : wpList Tryd.prog ops Q (o :: rest) a w := by
  obtain ⟨i0, hi, hz0, hz1, hz2⟩ := info_parts info_u64
  refine wpList_append_lies w hgd s x 118 ho B 25 i0 _ 1 8 Tryd.underlying118 hi hz0 hz1 hz2 rfl (by omega) v l.length (nums .u64 l) hs hown.out ⟨g, 0, none⟩ m m (nums .u64 news) hx (by simp [nums, hl])
    (World.news_of_block (cs := (nums .u64 news).toArray) hg) (by intro u hu; obtain ⟨c, _, rfl⟩ := List.mem_map.1 hu; rfl) hm (by unfold maxLen; omega) (by omega) hB _ rfl ?_
  intro g' cap w1 hown1 hgrow hat hlt
  refine h _ w1 ⟨?_⟩ ((Below.refl B w).grown hgrow hB (fun j hj => (hown.out.lt j hj).1))
  have : nums .u64 (l ++ news) = nums .u64 l ++ nums .u64 news := by simp [nums]
  rw [this, List.length_append, hl]
  exact hown1

end Go.Proofs.YthhcopeejhhpgaaDoor
