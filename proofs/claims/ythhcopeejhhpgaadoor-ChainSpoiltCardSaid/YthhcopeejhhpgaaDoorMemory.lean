/- Texts, their bytes in memory, and what a call may leave of two blocks: small laws of no package. -/
import Derived.Test.YthhcopeejhhpgaaDoorBase
import Derived.Lib.Hide
import Derived.Laws.IdiomCopy
import Derived.Lib.Strings
namespace Go.Proofs.YthhcopeejhhpgaaDoor
open Go.RowKit

/-- What stores into two blocks leave: all else as it was. -/
structure Only2 (w w' : World) (g g2 : Nat) : Prop where
  size : w.heap.size ≤ w'.heap.size
  keep : ∀ {g' : Nat} {t : TypeId} {l : List Value}, g' ≠ g → g' ≠ g2 → Has w g' t l → Has w' g' t l
  below : ∀ {B : Nat} {a : World}, B ≤ g → B ≤ g2 → B ≤ w.heap.size → Below B a w → Below B a w'

theorem Only2.refl (w : World) (g g2 : Nat) : Only2 w w g g2 := ⟨Nat.le_refl _, fun _ _ h => h, fun _ _ _ h => h⟩

theorem Only2.up {w w' : World} {g g2 : Nat} (h : Below w.heap.size w w') : Only2 w w' g g2 := ⟨h.size, fun _ _ k => k.up h, fun _ _ hB k => k.trans (h.mono hB)⟩

theorem Only2.set {w w' : World} {g g2 : Nat} (h : Only2 w w' g g2) {b i : Nat} (hb : b = g ∨ b = g2) (v : Value) : Only2 w (w'.setCell ⟨b, i, none⟩ v) g g2 :=
  ⟨by simpa [World.setCell] using h.size, fun h1 h2 k => (h.keep h1 h2 k).other (by rcases hb with rfl | rfl <;> simpa using by assumption) v,
   fun h1 h2 hB k => (h.below h1 h2 hB k).setCell (by rcases hb with rfl | rfl <;> assumption) v⟩

theorem Only2.up2 {w w1 w' : World} {g g2 : Nat} (h : Only2 w w1 g g2) (hb : Below w1.heap.size w1 w') : Only2 w w' g g2 :=
  ⟨Nat.le_trans h.size hb.size, fun h1 h2 k => (h.keep h1 h2 k).up hb, fun h1 h2 hB k => (h.below h1 h2 hB k).trans (hb.mono (Nat.le_trans hB h.size))⟩

theorem Only2.trans {w w1 w' : World} {g g2 : Nat} (h : Only2 w w1 g g2) (h' : Only2 w1 w' g g2) : Only2 w w' g g2 :=
  ⟨Nat.le_trans h.size h'.size, fun h1 h2 k => h'.keep h1 h2 (h.keep h1 h2 k), fun h1 h2 hB k => h'.below h1 h2 (Nat.le_trans hB h.size) (h.below h1 h2 hB k)⟩

/-- A store into a block that is newer. -/
theorem Only2.only {w w1 w' : World} {g b : Nat} (h : Only2 w w1 g g) (ho : Only w1 w' b) (hb : w.heap.size ≤ b) (_hg : g < w.heap.size) : Only2 w w' g g :=
  ⟨Nat.le_trans h.size (Nat.le_of_eq ho.size.symm), fun h1 h2 k => ho.keep (by have := k.lt; omega) (h.keep h1 h2 k), fun h1 h2 hB k => ho.below (by omega) (h.below h1 h2 hB k)⟩

theorem Only2.over {w w1 w' : World} {g : Nat} (h : Only2 w w1 g g) (hb : Below w.heap.size w1 w') : Only2 w w' g g :=
  ⟨Nat.le_trans h.size hb.size, fun h1 h2 k => (h.keep h1 h2 k).below hb k.lt, fun h1 h2 hB k => (h.below h1 h2 hB k).trans (hb.mono hB)⟩

theorem text_no {s : ByteArray} (h : 0 < s.size) : s.toList.isEmpty = false := by
  rw [ByteArray.toList_eq]
  cases h' : s.data.toList with
  | nil => have h1 : s.data.toList.length = s.size := by simp
           rw [h', List.length_nil] at h1; omega
  | cons a l => rfl

theorem text_yes {s : ByteArray} (h : s.size = 0) : s.toList = [] := by
  rw [ByteArray.toList_eq]
  apply List.length_eq_zero_iff.1
  simpa using h

theorem text_list (l : List UInt8) : (⟨l.toArray⟩ : ByteArray).size = l.length := by
  show l.toArray.size = _
  simp

theorem list_size (s : ByteArray) : s.data.toList.length = s.size := by simp

theorem extract_mid (s : ByteArray) (a b : Nat) : s.extract a b = ⟨((s.data.toList.drop a).take (b - a)).toArray⟩ := by
  apply ByteArray.ext
  apply Array.toList_inj.1
  rw [Lib.extract_data]

theorem list_cons (s : ByteArray) (h : 0 < s.size) : s.data.toList = s[0] :: s.data.toList.drop 1 := by
  have hl : 0 < s.data.toList.length := by rw [list_size]; exact h
  have := List.drop_eq_getElem_cons hl
  simp only [List.drop_zero] at this
  exact this

theorem bys_one (l : List UInt8) : ∀ v ∈ bys l, v.oneCell' = true := by
  intro v hv
  obtain ⟨n, _, rfl⟩ := List.mem_map.1 hv
  rfl

theorem bys_length (l : List UInt8) : (bys l).length = l.length := by simp [bys]

/-- A COPY of a text's bytes into a part of a block: as many as there is room for. -/
theorem wp_copy_text {o : Oper} {a : Act} {w : World} {K : Act → World → Prop} {Q : Exit → Act → World → Prop} (d s : Operand)
    (ho : o.op = .call { callee := .builtin .copy, args := #[d, s], argTypes := #[51, 9] })
    (g off dLen dCap : Nat) (t : TypeId) (l : List Value) (x : ByteArray) (hd : a.eval d = .slice (some ⟨g, off, none⟩) dLen dCap) (hs : a.eval s = .string x) (hg : Has w g t l)
    (hx : dLen ≤ x.size) (hfit : off + dLen ≤ l.length)
    (h : ∀ w', Has w' g t (l.take off ++ bys (x.data.toList.take dLen) ++ l.drop (off + dLen)) → Only w w' g → K (a.put o.dst (goInt dLen)) w') : o.wp Tryd.prog a w K Q := by
  obtain ⟨i0, hi, hz0, hz1, hz2⟩ := info_parts info_u8
  have hl : (bys (x.data.toList.take dLen)).length = dLen := by
    have : x.data.toList.length = x.size := by simp
    rw [bys_length, List.length_take]; omega
  have ht := hg.there off dLen hfit
  have hst := run_storeCells_cells (P := Tryd.prog) g off (bys (x.data.toList.take dLen)) 0 w (by intro j hj; rw [hl] at hj; exact (ht j hj).1) (by intro j hj; rw [hl] at hj; exact (ht j hj).2) (bys_one _)
  have hmin : Nat.min x.size dLen = dLen := Nat.min_eq_right hx
  have htk : List.take dLen (List.map (fun b : UInt8 => Value.int IntKind.u8 (b.toNat : Int)) x.data.toList) = bys (x.data.toList.take dLen) := by
    rw [bys, List.map_take]
  have hrun : (Builtin.copy_ #[51, 9] o.type #[.slice (some ⟨g, off, none⟩) dLen dCap, .string x]).run Tryd.prog w = .ok (goInt dLen) (w.setCells g off (bys (x.data.toList.take dLen))) := by
    simp only [Nat.add_zero] at hst
    first
      | (simp [Builtin.copy_, run_underlying Tryd.underlying51, Builtin.lenOf, Builtin.firstCells, sizeOf, typeInfo, hi, hmin]; rw [htk, hst]; simp [Result.andThen]; done)
      | (simp [Builtin.copy_, run_underlying Tryd.underlying51, Builtin.lenOf, Builtin.firstCells, sizeOf, typeInfo, hi, hz1, hmin]; rw [htk, hst]; simp [Result.andThen]; done)
  unfold Oper.wp
  simp [execOp, ho, resolve, invoke, builtin, hd, hs, hrun, Result.andThen]
  refine h _ ?_ ⟨size_setCells _ _ _ _, fun hne hk => hk.setOther hne _ off, fun hB hb => below_setCells hB _ _ hb⟩
  have := Has.setCells (bys (x.data.toList.take dLen)) off hg (by rw [hl]; exact hfit)
  rwa [hl] at this

/-- The text of bytes that lie in a block from a place on. -/
theorem bytes_text (W : World) (g o cap : Nat) (l : List UInt8) (h : W.rangeAt g o (bys l)) :
    (convert 51 9 (.slice (some ⟨g, o, none⟩) l.length cap)).run Tryd.prog W = .ok (.string ⟨l.toArray⟩) W := by
  refine run_convert_bytes_back (P := Tryd.prog) W 51 9 5 ⟨g, o, none⟩ cap l Tryd.underlying51 Tryd.underlying5 Tryd.underlying9 ?_
  intro j hj
  have hadd : (⟨g, o, none⟩ : Addr).add j = ⟨g, o + j, none⟩ := by unfold Addr.add; split <;> simp_all
  rw [hadd]
  exact h j _ (by simp [bys, hj])

theorem bys_nums (l : List UInt8) : bys l = nums .u8 (l.map (·.toNat)) := by simp [bys, nums]

/-- An array in the midst of a block, read by an operation that waits for a test. -/
theorem wpList_load_mid_wanted {P : Program} {ops : Array Oper} {rest : List Oper} {op : Oper} {a : Act} {w : World} {Q : Exit → Act → World → Prop} (hw : Region.wanted op (yielded ops a.tmps) = true) (ty : TypeId) (x : Operand) (ho : op.op = .load ty x)
    (b o : Nat) (hx : a.eval x = .pointer (some ⟨b, o, none⟩)) (cs : List Value) (d : TypeDesc) (hc : w.rangeAt b o cs)
    (hu : P.underlying ty = some d) (hd : d.isRow = true) (hi : (P.info? ty).map (·.size) = some cs.length)
    (h : wpList P ops Q rest (a.put op.dst (.agg cs.toArray)) w) : wpList P ops Q (op :: rest) a w :=
  wpList_wanted hw fun _ hK => wp_load_mid ty x ho b o hx cs d hc hu hd hi (hK _ _ h)

theorem results_cell_two {fn : Func} {p u v : Tmp} {ty : TypeId} (h : fn.results = #[.cell p ty, .tmp u, .tmp v]) (tmps : Array Value) (P : Program) (w : World) :
    (results fn tmps).run P w =
      ((asAddr (tmps.getD p undef)).run P w).andThen fun a w₁ => ((loadVar ty a).run P w₁).andThen fun x w₂ => .ok (.tuple #[x, tmps.getD u undef, tmps.getD v undef]) w₂ := by
  simp only [results, h]
  simp [Sem.run_bind, Result.andThen]


end Go.Proofs.YthhcopeejhhpgaaDoor
