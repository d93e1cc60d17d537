/- The law DigestReads: for every sum and text it returns true, and both read as they did. The table of the rounds' constants, which the program lays in a variable, is tied to the program's text. No other condition but the reading's own. -/
import Derived.Test.YtanjebmpjenmiaaDoorCards
import Derived.Test.YtanjebmpjenmiaaDoorTie
import Derived.Test.YtanjebmpjenmiaaDoorDigestReadsWalk
import Derived.Test.YtanjebmpjenmiaaDoorOuter
import Derived.Lib.LaidTab
import Derived.ChangeMaps5
namespace Go.Proofs.YtanjebmpjenmiaaDoor.digestReads
open Go.ChangeShapes Go.WideShapes Go.ChangeAt Go.RowKit Go.ChangeMaps

theorem own : ownKnob Tryd.prog.godebug = none := by kernel_rfl
theorem gTab : Tryd.prog.globalNamed "blackbox/digest.constants" = some 0 := by kernel_rfl
theorem gTabType : (Tryd.prog.globals[0]?).map (·.type) = some 49 := by kernel_rfl
theorem cellsTab : Tryd.prog.cellsOf 49 = 64 := by kernel_rfl
theorem cellsWord : Tryd.prog.cellsOf 22 = 1 := by kernel_rfl

/-- What the row's list gives: the table's cells hold the constants. -/
theorem table {W : World} (h : laidMetH Tryd.prog Rows.digestReadsRow.laid W) : Tab W := by
  have h' : Lib.TabIs Tryd.prog W "blackbox/digest.constants" .u32 ((List.range 64).map fun t => ((kc t : Nat) : Int)) :=
    Lib.tabIs_of_head (rest := []) gTab gTabType Tryd.underlying49 Tryd.underlying22 cellsWord cellsTab h
  intro t ht
  have := h'.cell gTab t (by simpa using ht)
  rw [this]
  simp [ht]

noncomputable def laidWorld (os : Os) : World :=
  { World.holding Tryd.prog os ⟨#[], #[], []⟩ with heap := (World.holding Tryd.prog os ⟨#[], #[], []⟩).heap.modify 0 fun
      | .cells _ t frozen => .cells ((List.range 64).map fun t => Value.int .u32 ((kc t : Nat) : Int)).toArray t frozen
      | o => o }
noncomputable def wargs : Array Value := #[.agg (nums .u8 (List.replicate 32 0)).toArray, .string ByteArray.empty]
theorem laid_met (os : Os) : laidMet Tryd.prog Rows.digestReadsRow.laid ((laidWorld os).forCall (fun _ _ => 0) ⟨#[], wargs, []⟩).memory :=
  laidMet_of_run' 8 (by kernel_rfl) (by kernel_rfl)
theorem reads (os : Os) {H : Type} (enc : TypeId × Value → H) : ∃ ds places, DataW.whole enc Tryd.prog ((laidWorld os).forCall (fun _ _ => 0) ⟨#[], wargs, []⟩).memory Tryd.f4.params.toList Rows.digestReadsSpec.vars false wargs.toList 8 = some (ds, [], places) :=
  ⟨[.agg (List.replicate 32 (.lit (.int .u8 0))), .lit (.string [])], [], by kernel_rfl⟩

theorem laidOut : laidOutB Tryd.prog = true := by kernel_rfl
theorem params_read : ∀ t ∈ Tryd.f4.params.toList, Tryd.prog.readableRec t = true ∧ t < Tryd.prog.types.size := by
  have h : (Tryd.f4.params.toList.all fun t => Tryd.prog.readableRec t && decide (t < Tryd.prog.types.size)) = true := by kernel_rfl
  intro t ht
  have := List.all_eq_true.1 h t ht
  simpa using this

/-- WHAT THE WALK GIVES, FOR EVERY SUM, EVERY TEXT AND EVERY WORLD THAT HOLDS THE TABLE. -/
theorem contract (H : Type) (enc : TypeId × Value → H) (W : World) (base : Nat) (args : Array Value) (ds gs : List (DataW H)) (before : List MemPlace)
    (hval : ∀ (j : Nat) t v, Tryd.f4.params[j]? = some t → args[j]? = some v → Value.okWide Tryd.prog W .any base t v)
    (hW : DataW.Whole enc Tryd.prog Tryd.f4.params.toList Rows.digestReadsSpec.vars false W args.toList ds gs before) (hL : laidMetH Tryd.prog Rows.digestReadsRow.laid W) :
    Calls Tryd.prog 4 args W fun e W' => ∃ v, e = .returned v ∧ Rows.digestReadsSpec.post enc Tryd.prog Tryd.f4 false true false false W args v W' := by
  have hW' := hW
  obtain ⟨p, q, hA0, hV, rfl, hfz, hnd⟩ := hW
  have hA : DataW.TrodAll enc Tryd.prog W 0 (fun _ => true) true Tryd.f4.params.toList args.toList ds p := hA0
  rw [Tryd.params4] at hA hval
  obtain ⟨v0, vs0, d0, ds0, p0, q0, hargs, rfl, rfl, h0, r0⟩ := trodAll_cons hA
  obtain ⟨v1, vs1, d1, ds1, p1, q1, rfl, rfl, rfl, h1, r1⟩ := trodAll_cons r0
  obtain ⟨rfl, rfl, rfl⟩ := trodAll_nil r1
  obtain rfl : args = #[v0, v1] := by cases args; simp_all
  obtain ⟨rfl, rfl⟩ := trodVars_none hV
  clear hA0
  obtain ⟨s, rfl, rfl, rfl, hs⟩ := open_string Tryd.underlying9 (hval 1 9 v1 rfl rfl) h1
  obtain ⟨cs, rfl, _⟩ := okWide_array Tryd.underlying29 (hval 0 29 v0 rfl rfl)
  obtain ⟨fuel, hf⟩ := h0
  obtain ⟨l, hcs, hl, hwf⟩ := nums_of_trod (k := .u8) Tryd.underlying29 Tryd.underlying5 (by kernel_rfl) (by kernel_rfl) (fun z hz => (bounds_u8 hz).1) hf
  obtain rfl : cs = (nums .u8 l).toArray := by
    have : cs.toList = nums .u8 l := by simpa [Value.cells] using hcs
    rw [← this]
  refine (DigestReads_core l hl (fun n hn => wf_small8 (hwf n hn)) s hs W (table hL)).mono fun e W' ⟨he, hb⟩ => ?_
  subst he
  exact ⟨_, rfl, law_post laidOut params_read (by kernel_rfl) Tryd.underlying4 rfl hW' rfl hb⟩

set_option maxRecDepth 100000 in
theorem lifted (os : Os) (started : os.Started) (H : Type) (enc : TypeId × Value → H) (F : Stop.Interp) :
    ReturnsInHanded {} Tryd.checked os 4 .any ((OpenSpec.ofChange Rows.digestReadsSpec).preRow enc Tryd.prog Tryd.f4 Rows.digestReadsRow.domain false Rows.digestReadsRow.laid) (((OpenSpec.ofChange Rows.digestReadsSpec).at F).post enc Tryd.prog Tryd.f4 false true false false) := by
  obtain ⟨ds, places, hx⟩ := reads os enc
  refine returnsInHanded_of_row (C := Tryd.checked) (s := OpenSpec.ofChange Rows.digestReadsSpec) own started (by kernel_rfl) Tryd.func4
    (witness_row_at (enc := enc) (C := Tryd.checked) false (laidWorld os) wargs rfl (by kernel_rfl) (by kernel_rfl) (by kernel_rfl)
      (OpenSpec.preRow_of_cond 8 hx (by kernel_rfl) (fun k hk => by cases hk) (by kernel_rfl) (laid_met os))) ?_
  intro W base args ds gs before hval hW _ _ _ hL _ _
  exact contract H enc W base args ds gs before hval hW hL

theorem said : Rows.DigestReadsSaid :=
  OpenClaim.holds_of_cond 4 Tryd.f4 rfl rfl rfl rfl rfl rfl rfl ⟨rfl, rfl, rfl, rfl, rfl⟩ rfl rfl rfl rfl rfl (by kernel_rfl) Tryd.func4 (by kernel_rfl)
    (of_decide_eq_true (by kernel_rfl)) (by unfold Func.isWrapper; first | (rw [if_pos (by decide +kernel)]; kernel_rfl) | (rw [if_neg (by decide +kernel)]; exact ⟨rfl, rfl⟩))
    (fun os started H enc _ F => by rw [OpenClaim.pre_eq_preRow]; exact lifted os started H enc F)

theorem plain (f : FuncId) (fn : Func) (hf : Tryd.pinned.checked.prog.funcNamed "blackbox/blackboxlaw02.DigestReads" = some f) (hfn : Tryd.pinned.checked.prog.funcs[f]? = some fn) :
    false = Tryd.pinned.checked.prog.looks [] ∧ ∀ (j : Nat) t, fn.params[j]? = some t → Tryd.pinned.checked.prog.wantsStandIn t = false := by
  obtain rfl : f = 4 := Option.some.inj ((show Tryd.prog.funcNamed "blackbox/blackboxlaw02.DigestReads" = some 4 by kernel_rfl).symm.trans hf) |>.symm
  obtain rfl : fn = Tryd.f4 := (Option.some.inj (Tryd.func4.symm.trans hfn)).symm
  refine ⟨by kernel_rfl, fun j t ht => ?_⟩
  have h : (Tryd.f4.params.toList.all fun t => !Tryd.prog.wantsStandIn t) = true := by kernel_rfl
  have := List.all_eq_true.1 h t (by simpa using Array.mem_of_getElem? ht)
  exact (Bool.not_eq_true' _).mp this

/-- THE CARD. -/
theorem card : Rows.DigestReadsCardSaid :=
  Claim7.holds_tied_plain_at .later [] _ _ _ _ said (fun _ h => by cases h) (by kernel_rfl) (fun _ h => by cases h) digestReads_row_tie rfl ⟨rfl, rfl⟩ (by kernel_rfl) rfl plain (by kernel_rfl)
end Go.Proofs.YtanjebmpjenmiaaDoor.digestReads
