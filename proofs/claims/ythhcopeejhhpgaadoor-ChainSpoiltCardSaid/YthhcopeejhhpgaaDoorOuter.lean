/- A law's last step: it returns true, and whatever was there is as it was; arguments that are arrays of numbers, opened. -/
import Derived.Test.YthhcopeejhhpgaaDoorBase
import Derived.Carry
import Derived.ProofKit
import Derived.OpenShut
import Derived.Deep.DeepHandedRow
import Derived.SizedLaws
namespace Go.Proofs.YthhcopeejhhpgaaDoor
open Go.ChangeShapes Go.WideShapes Go.ChangeAt Go.RowKit

section
variable {H : Type} {enc : TypeId × Value → H} {P : Program}

theorem trodAll_below (hl : laidOutB P = true) {W W' : World} (hb : Below W.heap.size W W') : ∀ (ts : List TypeId) (vs : List Value) (ds : List (DataW H)) (ps : List MemPlace),
    (∀ t ∈ ts, P.readableRec t = true ∧ t < P.types.size) → DataW.TrodAll enc P W 0 (fun _ => true) true ts vs ds ps → (∀ x ∈ ps, x.block < W.heap.size) →
    DataW.TrodAll enc P W' 0 (fun b => decide (b < W.heap.size)) true ts vs ds ps
  | [], vs, ds, ps, _, h, _ => by
    obtain ⟨rfl, rfl, rfl⟩ := trodAll_nil h
    exact trodAll_mk0
  | t :: ts, vs, ds, ps, ht, h, hp => by
    obtain ⟨v, vs', d, ds', p, q, rfl, rfl, rfl, h0, hr⟩ := trodAll_cons h
    obtain ⟨h1, h2⟩ := ht t (by simp)
    exact trodAll_cons_mk (Below.trod hl h1 h2 h0 hb (fun x hx => hp x (by simp [hx]))) (trodAll_below hl hb ts vs' ds' q (fun u hu => ht u (by simp [hu])) hr (fun x hx => hp x (by simp [hx])))

/-- THE LAST STEP of a law: true, its arguments as they were. -/
theorem law_post {f : Func} {s : ChangeSpec} {W W' : World} {args : Array Value} {ds gs : List (DataW H)} {before : List MemPlace} {tb : TypeId} (hl : laidOutB P = true) (hts : ∀ t ∈ f.params.toList, P.readableRec t = true ∧ t < P.types.size)
    (hrt : f.resultTypes = #[tb]) (htb : P.underlying tb = some .bool) (hv : s.vars = []) (hW : DataW.Whole enc P f.params.toList s.vars false W args.toList ds gs before)
    (hfn : s.fn H (ds ++ gs) = { results := [.lit (.bool true)], args := ds }) (hb : Below W.heap.size W W') : s.post enc P f false true false false W args (.bool true) W' := by
  have hlt := hW.lt
  have hW0 := hW
  obtain ⟨p, q, hA, hV, rfl, hfz, hnd⟩ := hW
  rw [hv] at hV
  obtain ⟨rfl, rfl⟩ := trodVars_none hV
  refine ⟨ds, [], _, [], p, [], hW0, ?_, ?_, ?_, hb.frame _, fun h => by cases h⟩
  · rw [hfn, hrt]
    exact trodAll_mk1 (shut_bool htb _)
  · rw [hfn]
    exact trodAll_below hl hb _ _ _ _ hts hA (fun x hx => hlt x (by simp [hx]))
  · rw [hfn, hv]
    rfl

theorem okWide_array {w : World} {r : Reach} {base n : Nat} {t e : TypeId} {v : Value} (ht : P.underlying t = some (.array n e)) (h : Value.okWide P w r base t v) : ∃ cs, v = .agg cs ∧ cs.size = P.cellsOf t := by
  simp only [Value.okWide, ht] at h
  obtain ⟨cs, h1, h2, _⟩ := h
  exact ⟨cs, h1, h2⟩

/-- The cells of an array of numbers of an unsigned kind. -/
theorem nums_of_trod {w : World} {base n fuel : Nat} {sp : Nat → Bool} {held : Bool} {t e : TypeId} {k : IntKind} {cs : List Value} {x : DataW H × List MemPlace} (ht : P.underlying t = some (.array n e)) (he : P.underlying e = some (.int k)) (hce : P.cellsOf e = 1) (hct : P.cellsOf t = n)
    (hk : ∀ z : Int, (Lit.int k z).wf = true → 0 ≤ z) (h : DataW.trod enc P w base sp held fuel t cs = some x) : ∃ l : List Nat, cs = nums k l ∧ l.length = n ∧ ∀ m ∈ l, (Lit.int k (m : Int)).wf = true := by
  obtain ⟨xs, m, _, _, hlen, hxs, hel⟩ := DataW.trod_array ht h
  rw [hct] at hlen
  have key : ∀ i, i < n → ∃ z : Nat, cs[i]? = some (.int k (z : Int)) ∧ (Lit.int k (z : Int)).wf = true := by
    intro i hi
    have h1 := hel i hi
    rw [hce] at h1
    have h2 : xs[i]? = some xs[i] := List.getElem?_eq_getElem (by omega)
    rw [h2] at h1
    obtain ⟨z, hz, _, hw⟩ := DataW.trod_int he h1
    have h0 := hk z hw
    refine ⟨z.toNat, ?_, by rw [Int.toNat_of_nonneg h0]; exact hw⟩
    rw [Int.toNat_of_nonneg h0]
    have := congrArg (·[0]?) hz
    simpa [List.getElem?_take, List.getElem?_drop] using this
  refine ⟨(List.range n).map fun i => match cs[i]? with | some (Value.int _ z) => z.toNat | _ => 0, ?_, by simp, ?_⟩
  · apply List.ext_getElem?
    intro i
    by_cases hi : i < n
    · obtain ⟨z, hz, _⟩ := key i hi
      rw [hz, nums_at _ _ (by simpa using hi)]
      simp [hz]
    · rw [List.getElem?_eq_none (by omega), List.getElem?_eq_none (by rw [nums_length]; simp; omega)]
  · intro m hm
    obtain ⟨i, hi, rfl⟩ := List.mem_map.1 hm
    obtain ⟨z, hz, hw⟩ := key i (by simpa using hi)
    rw [hz]
    simpa using hw
end

theorem wf_small8 {m : Nat} (h : (Lit.int .u8 (m : Int)).wf = true) : m < 256 := by
  have := bounds_u8 h
  omega

theorem cells_u64 : Tryd.prog.cellsOf 25 = 1 := by kernel_rfl
theorem cells_int : Tryd.prog.cellsOf 3 = 1 := by kernel_rfl
theorem cells_str : Tryd.prog.cellsOf 9 = 1 := by kernel_rfl
theorem cells_dig : Tryd.prog.cellsOf 23 = 32 := by kernel_rfl
theorem cells_u8 : Tryd.prog.cellsOf 5 = 1 := by kernel_rfl

theorem one_of {l : List Value} {j : Nat} {v : Value} (h : (l.drop j).take 1 = [v]) : l[j]? = some v := by
  have := congrArg (·[0]?) h
  simpa [List.getElem?_take, List.getElem?_drop] using this

theorem nums_bys : ∀ l : List Nat, (∀ m ∈ l, m < 256) → nums .u8 l = bys (l.map UInt8.ofNat)
  | [], _ => rfl
  | m :: l, h => by
    have hm : m < 256 := h m (by simp)
    have ih := nums_bys l fun x hx => h x (by simp [hx])
    simp only [nums, bys, List.map_cons, List.map_map] at ih ⊢
    rw [ih]
    have : (UInt8.ofNat m).toNat = m := by simp; omega
    rw [this]

section
variable {H : Type} {enc : TypeId × Value → H} {w : World} {base : Nat} {sp : Nat → Bool} {held : Bool}

theorem num_at {n : Nat} {cs : List Value} {y : Option (DataW H × List MemPlace)} {t : TypeId} {k : IntKind} {j : Nat} (ht : Tryd.prog.underlying t = some (.int k)) (hy : ∃ z, y = some z) (h : DataW.trod enc Tryd.prog w base sp held n t ((cs.drop j).take 1) = y) :
    ∃ m : Int, cs[j]? = some (.int k m) ∧ (Lit.int k m).wf = true := by
  obtain ⟨z, rfl⟩ := hy
  obtain ⟨m, hc, _, hw⟩ := DataW.trod_int ht h
  exact ⟨m, one_of hc, hw⟩

/-- A sum's cells, in the midst of others. -/
theorem dig_at {n : Nat} {cs : List Value} {y : Option (DataW H × List MemPlace)} (hy : ∃ z, y = some z) (h : DataW.trod enc Tryd.prog w base sp held n 23 cs = y) :
    ∃ d : List UInt8, cs = bys d ∧ d.length = 32 := by
  obtain ⟨z, rfl⟩ := hy
  obtain ⟨d, hd, hdl, hdw⟩ := nums_of_trod Tryd.underlying23 Tryd.underlying5 cells_u8 cells_dig (fun z hz => (bounds_u8 hz).1) h
  exact ⟨d.map UInt8.ofNat, by rw [hd, nums_bys d fun m hm => wf_small8 (hdw m hm)], by simp [hdl]⟩
end

end Go.Proofs.YthhcopeejhhpgaaDoor
