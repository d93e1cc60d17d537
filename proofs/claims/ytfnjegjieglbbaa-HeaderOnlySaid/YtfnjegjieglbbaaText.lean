/- Texts, their bytes in memory, and what a call may leave of two blocks: small laws that every stage's walks use. -/
import Derived.Test.YtfnjegjieglbbaaBase
import Derived.Test.YtfnjegjieglbbaaWires
import Derived.Test.YtfnjegjieglbbaaCrcA
import Derived.Test.YtfnjegjieglbbaaCrcRef
import Derived.Lib.Hide
import Derived.Laws.IdiomCopy
namespace Go.Proofs.Ytfnjegjieglbbaa
open Go.RowKit Wire Crc

/-- What stores into two blocks leave: all else as it was. -/
structure Only2 (w w' : World) (g g2 : Nat) : Prop where
  size : w.heap.size ≤ w'.heap.size
  keep : ∀ {g' : Nat} {t : TypeId} {l : List Value}, g' ≠ g → g' ≠ g2 → Has w g' t l → Has w' g' t l
  below : ∀ {B : Nat} {a : World}, B ≤ g → B ≤ g2 → B ≤ w.heap.size → Below B a w → Below B a w'

theorem Only2.refl (w : World) (g g2 : Nat) : Only2 w w g g2 := ⟨Nat.le_refl _, fun _ _ h => h, fun _ _ _ h => h⟩

theorem Only2.up {w w' : World} {g g2 : Nat} (h : Below w.heap.size w w') : Only2 w w' g g2 := ⟨h.size, fun _ _ k => k.up h, fun _ _ hB k => k.trans (h.mono hB)⟩

theorem Only2.set {w w' : World} {g g2 : Nat} (h : Only2 w w' g g2) {b i : Nat} (hb : b = g ∨ b = g2) (v : Value) : Only2 w (w'.setCell ⟨b, i, none⟩ v) g g2 :=
  ⟨by simpa [World.setCell] using h.size, fun h1 h2 k => (h.keep h1 h2 k).other (by rcases hb with rfl | rfl <;> simpa using by assumption) v,
   fun h1 h2 hB k => (h.below h1 h2 hB k).setCell (by rcases hb with rfl | rfl <;> assumption) v⟩

theorem Only2.up2 {w w1 w' : World} {g g2 : Nat} (h : Only2 w w1 g g2) (hb : Below w1.heap.size w1 w') : Only2 w w' g g2 :=
  ⟨Nat.le_trans h.size hb.size, fun h1 h2 k => (h.keep h1 h2 k).up hb, fun h1 h2 hB k => (h.below h1 h2 hB k).trans (hb.mono (Nat.le_trans hB h.size))⟩

theorem Only2.trans {w w1 w' : World} {g g2 : Nat} (h : Only2 w w1 g g2) (h' : Only2 w1 w' g g2) : Only2 w w' g g2 :=
  ⟨Nat.le_trans h.size h'.size, fun h1 h2 k => h'.keep h1 h2 (h.keep h1 h2 k), fun h1 h2 hB k => h'.below h1 h2 (Nat.le_trans hB h.size) (h.below h1 h2 hB k)⟩

/-- A store into a block that is newer. -/
theorem Only2.only {w w1 w' : World} {g b : Nat} (h : Only2 w w1 g g) (ho : Only w1 w' b) (hb : w.heap.size ≤ b) (_hg : g < w.heap.size) : Only2 w w' g g :=
  ⟨Nat.le_trans h.size (Nat.le_of_eq ho.size.symm), fun h1 h2 k => ho.keep (by have := k.lt; omega) (h.keep h1 h2 k), fun h1 h2 hB k => ho.below (by omega) (h.below h1 h2 hB k)⟩

theorem Only2.over {w w1 w' : World} {g : Nat} (h : Only2 w w1 g g) (hb : Below w.heap.size w1 w') : Only2 w w' g g :=
  ⟨Nat.le_trans h.size hb.size, fun h1 h2 k => (h.keep h1 h2 k).below hb k.lt, fun h1 h2 hB k => (h.below h1 h2 hB k).trans (hb.mono hB)⟩

theorem text_no {s : ByteArray} (h : 0 < s.size) : s.toList.isEmpty = false := by
  rw [ByteArray.toList_eq]
  cases h' : s.data.toList with
  | nil => have h1 : s.data.toList.length = s.size := by simp
           rw [h', List.length_nil] at h1; omega
  | cons a l => rfl

theorem text_yes {s : ByteArray} (h : s.size = 0) : s.toList = [] := by
  rw [ByteArray.toList_eq]
  apply List.length_eq_zero_iff.1
  simpa using h

theorem text_list (l : List UInt8) : (⟨l.toArray⟩ : ByteArray).size = l.length := by
  show l.toArray.size = _
  simp

theorem list_size (s : ByteArray) : s.data.toList.length = s.size := by simp

theorem fixed4 (n : Nat) (w : World) :
    Calls Try.prog 34 #[.int .u64 (n : Nat), .int .i64 4] w fun e w' => e = .returned (.string ⟨(fx n 4).toArray⟩) ∧ Below w.heap.size w w' := by
  have c := fixed_any n 4 w
  rw [show fxw n 4 = fx n 4 from fxw_yes (w := 4) (by omega) (by omega)] at c
  exact c

theorem extract_mid (s : ByteArray) (a b : Nat) : s.extract a b = ⟨((s.data.toList.drop a).take (b - a)).toArray⟩ := by
  apply ByteArray.ext
  apply Array.toList_inj.1
  rw [Lib.extract_data]

theorem list_cons (s : ByteArray) (h : 0 < s.size) : s.data.toList = s[0] :: s.data.toList.drop 1 := by
  have hl : 0 < s.data.toList.length := by rw [list_size]; exact h
  have := List.drop_eq_getElem_cons hl
  simp only [List.drop_zero] at this
  exact this

theorem bys_one (l : List UInt8) : ∀ v ∈ bys l, v.oneCell' = true := by
  intro v hv
  obtain ⟨n, _, rfl⟩ := List.mem_map.1 hv
  rfl

theorem bys_length (l : List UInt8) : (bys l).length = l.length := by simp [bys]

/-- A COPY of a text's bytes into a part of a block: as many as there is room for. -/
theorem wp_copy_text {o : Oper} {a : Act} {w : World} {K : Act → World → Prop} {Q : Exit → Act → World → Prop} (d s : Operand)
    (ho : o.op = .call { callee := .builtin .copy, args := #[d, s], argTypes := #[43, 9] })
    (g off dLen dCap : Nat) (t : TypeId) (l : List Value) (x : ByteArray) (hd : a.eval d = .slice (some ⟨g, off, none⟩) dLen dCap) (hs : a.eval s = .string x) (hg : Has w g t l)
    (hx : dLen ≤ x.size) (hfit : off + dLen ≤ l.length)
    (h : ∀ w', Has w' g t (l.take off ++ bys (x.data.toList.take dLen) ++ l.drop (off + dLen)) → Only w w' g → K (a.put o.dst (goInt dLen)) w') : o.wp Try.prog a w K Q := by
  obtain ⟨i0, hi, hz0, hz1, hz2⟩ := info_parts info_u8
  have hl : (bys (x.data.toList.take dLen)).length = dLen := by
    have : x.data.toList.length = x.size := by simp
    rw [bys_length, List.length_take]; omega
  have ht := hg.there off dLen hfit
  have hst := run_storeCells_cells (P := Try.prog) g off (bys (x.data.toList.take dLen)) 0 w (by intro j hj; rw [hl] at hj; exact (ht j hj).1) (by intro j hj; rw [hl] at hj; exact (ht j hj).2) (bys_one _)
  have hmin : Nat.min x.size dLen = dLen := Nat.min_eq_right hx
  have htk : List.take dLen (List.map (fun b : UInt8 => Value.int IntKind.u8 (b.toNat : Int)) x.data.toList) = bys (x.data.toList.take dLen) := by
    rw [bys, List.map_take]
  have hrun : (Builtin.copy_ #[43, 9] o.type #[.slice (some ⟨g, off, none⟩) dLen dCap, .string x]).run Try.prog w = .ok (goInt dLen) (w.setCells g off (bys (x.data.toList.take dLen))) := by
    simp only [Nat.add_zero] at hst
    first
      | (simp [Builtin.copy_, run_underlying Try.underlying43, Builtin.lenOf, Builtin.firstCells, sizeOf, typeInfo, hi, hmin]; rw [htk, hst]; simp [Result.andThen]; done)
      | (simp [Builtin.copy_, run_underlying Try.underlying43, Builtin.lenOf, Builtin.firstCells, sizeOf, typeInfo, hi, hz1, hmin]; rw [htk, hst]; simp [Result.andThen]; done)
  unfold Oper.wp
  simp [execOp, ho, resolve, invoke, builtin, hd, hs, hrun, Result.andThen]
  refine h _ ?_ ⟨size_setCells _ _ _ _, fun hne hk => hk.setOther hne _ off, fun hB hb => below_setCells hB _ _ hb⟩
  have := Has.setCells (bys (x.data.toList.take dLen)) off hg (by rw [hl]; exact hfit)
  rwa [hl] at this

def zdig : List Value := bys (List.replicate 32 0)

theorem info_digest : (Try.prog.info? 24).map (·.size) = some 32 := by kernel_rfl

/-- The text of bytes that lie in a block from a place on. -/
theorem bytes_text (W : World) (g o cap : Nat) (l : List UInt8) (h : W.rangeAt g o (bys l)) :
    (convert 43 9 (.slice (some ⟨g, o, none⟩) l.length cap)).run Try.prog W = .ok (.string ⟨l.toArray⟩) W := by
  refine run_convert_bytes_back (P := Try.prog) W 43 9 5 ⟨g, o, none⟩ cap l Try.underlying43 Try.underlying5 Try.underlying9 ?_
  intro j hj
  have hadd : (⟨g, o, none⟩ : Addr).add j = ⟨g, o + j, none⟩ := by unfold Addr.add; split <;> simp_all
  rw [hadd]
  exact h j _ (by simp [bys, hj])

theorem crc_of (s : ByteArray) (hs : s.size ≤ maxLen) (w : World) : Calls Try.prog 35 #[.string s] w fun e w' => e = .returned (.int .u32 (sumOf s.data.toList : Nat)) ∧ Below w.heap.size w w' := by
  refine (of_any s hs w).mono ?_; rintro e w' ⟨rfl, rfl⟩
  exact ⟨rfl, up_alloc (Below.refl _ _) _⟩

theorem bys_nums (l : List UInt8) : bys l = nums .u8 (l.map (·.toNat)) := by simp [bys, nums]

/-- An array in the midst of a block, read by an operation that waits for a test. -/
theorem wpList_load_mid_wanted {P : Program} {ops : Array Oper} {rest : List Oper} {op : Oper} {a : Act} {w : World} {Q : Exit → Act → World → Prop} (hw : Region.wanted op (yielded ops a.tmps) = true) (ty : TypeId) (x : Operand) (ho : op.op = .load ty x)
    (b o : Nat) (hx : a.eval x = .pointer (some ⟨b, o, none⟩)) (cs : List Value) (d : TypeDesc) (hc : w.rangeAt b o cs)
    (hu : P.underlying ty = some d) (hd : d.isRow = true) (hi : (P.info? ty).map (·.size) = some cs.length)
    (h : wpList P ops Q rest (a.put op.dst (.agg cs.toArray)) w) : wpList P ops Q (op :: rest) a w :=
  wpList_wanted hw fun _ hK => wp_load_mid ty x ho b o hx cs d hc hu hd hi (hK _ _ h)

theorem rcrc_sum (s : ByteArray) (hs : s.size ≤ maxLen) (w : World) : Calls Try.prog 38 #[.string s] w fun e w' => e = .returned (.int .u32 (sumOf s.data.toList : Nat)) ∧ Below w.heap.size w w' := by
  refine (refOf_any s hs w).mono ?_; rintro e w' ⟨rfl, rfl⟩
  exact ⟨rfl, Below.refl _ _⟩

theorem rfixed4 (n : Nat) (w : World) :
    Calls Try.prog 31 #[.int .u64 (n : Nat), .int .i64 4] w fun e w' => e = .returned (.string ⟨(fx n 4).toArray⟩) ∧ Below w.heap.size w w' := by
  have c := rfixed_any n 4 w
  rw [show fxw n 4 = fx n 4 from fxw_yes (w := 4) (by omega) (by omega)] at c
  exact c

set_option maxRecDepth 100000 in
theorem rbytes_any (p : List UInt8) (hp : p.length = 32) (w : World) :
    Calls Try.prog 32 #[.agg (bys p).toArray] w fun e w' => e = .returned (.string ⟨p.toArray⟩) ∧ Below w.heap.size w w' := by
  obtain ⟨L, hL⟩ : ∃ L, L = bys p := ⟨_, rfl⟩
  rw [← hL]
  have HX := Lib.hid (Has.make w 24 L)
  have HP := Lib.hid hp
  have HL := Lib.hid hL
  clear hp hL
  go_enter Try.func32, Try.ntmps32
  go_wp2_with fail
  go_loopw [3, 4] (fun v x wr => ∃ k : Nat, x = .int .i64 (k : Nat) ∧ k ≤ 32 ∧ OwnB (w.heap.size + 1) v (p.take k) wr ∧ Has wr w.heap.size 24 L ∧ w.heap.size + 1 ≤ wr.heap.size ∧ Below w.heap.size w wr) (fun _ x _ => 32 - (intOf x).toNat)
  case atStart => exact ⟨0, rfl, by omega, ⟨World.ownsRow_nil _ _ _ _⟩, HX.out, by simp, up_alloc (Below.refl _ _) _⟩
  case round =>
    clear HX
    obtain ⟨k, rfl, hk, hO, hX, hs, hb⟩ := hrel
    have HO := Lib.hid hO
    have HB := Lib.hid hb
    have HX := Lib.hid hX
    have HK := Lib.hid hk
    clear hO hb hX
    by_cases h : k < 32
    · have h0 : (0 : Int) ≤ (k : Int) := by omega
      have h1 : (k : Int) < 32 := by omega
      have hlt : k < p.length := by have := HP.out; omega
      obtain ⟨c, hc⟩ : ∃ c, p[k]? = some c := ⟨p[k], List.getElem?_eq_getElem hlt⟩
      have hcell : wr.cell? ⟨w.heap.size, k, none⟩ = some (.int .u8 (c.toNat : Nat)) := HX.out.at (by rw [HL.out]; simp [bys, hc])
      have HT := Lib.hid (show p.take (k + 1) = p.take k ++ [c] by rw [List.take_add_one, hc]; rfl)
      clear hc hlt hk
      go_wp2_with (refine wpList_push rfl (.tmp 9) (.tmp 13) rfl (w.heap.size + 1) _ (p.take k) (by rfl) (HO.out.alloc _) wr.heap.size 1 [c] (by rfl) (Has.make wr 5 (bys [c])) rfl (by omega) (by have := List.length_take_le k p; have := HK.out; omega) (by simp; omega) ?_; intro v' w' hO' hB')
      have hsz := hB'.size
      simp at hsz
      go_roundw
      case rel => exact ⟨k + 1, by go_num, by omega, by rw [HT.out]; exact hO', (HX.out.alloc _).below hB' (by omega), by omega, (up_alloc HB.out _).trans (hB'.mono (by simp <;> omega))⟩
      case measure => simp [intOf]; omega
    · have h1 : ¬ (k : Int) < 32 := by omega
      have HT := Lib.hid (show p.take k = p by rw [List.take_of_length_le]; have := HP.out; omega)
      have ht := HO.out.text
      rw [HT.out] at ht
      clear hk
      go_wp2_with fail
      go_ret
      exact ⟨rfl, HB.out⟩

theorem results_cell_two {fn : Func} {p u v : Tmp} {ty : TypeId} (h : fn.results = #[.cell p ty, .tmp u, .tmp v]) (tmps : Array Value) (P : Program) (w : World) :
    (results fn tmps).run P w =
      ((asAddr (tmps.getD p undef)).run P w).andThen fun a w₁ => ((loadVar ty a).run P w₁).andThen fun x w₂ => .ok (.tuple #[x, tmps.getD u undef, tmps.getD v undef]) w₂ := by
  simp only [results, h]
  simp [Sem.run_bind, Result.andThen]

end Go.Proofs.Ytfnjegjieglbbaa
