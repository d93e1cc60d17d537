/- The law DigestSums: for every state and two texts it returns true, and all three read as they did. The table of the rounds' constants, which the program lays in a variable, is tied to the program's text. No other condition but the reading's own. -/
import Derived.Test.YtanjebmpjenmiaaDoorCards
import Derived.Test.YtanjebmpjenmiaaDoorTie
import Derived.Test.YtanjebmpjenmiaaDoorDigestSumsWalk
import Derived.Test.YtanjebmpjenmiaaDoorOuter
import Derived.Lib.LaidTab
import Derived.ChangeMaps5
namespace Go.Proofs.YtanjebmpjenmiaaDoor.digestSums
open Go.ChangeShapes Go.WideShapes Go.ChangeAt Go.RowKit Go.ChangeMaps

theorem own : ownKnob Tryd.prog.godebug = none := by kernel_rfl
theorem gTab : Tryd.prog.globalNamed "blackbox/digest.constants" = some 0 := by kernel_rfl
theorem gTabType : (Tryd.prog.globals[0]?).map (·.type) = some 49 := by kernel_rfl
theorem cellsTab : Tryd.prog.cellsOf 49 = 64 := by kernel_rfl
theorem cellsWord : Tryd.prog.cellsOf 22 = 1 := by kernel_rfl

/-- A value of a struct's type is a row of cells. -/
theorem okWide_struct {w : World} {r : Reach} {base : Nat} {t : TypeId} {fs : Array Field} {v : Value} (ht : Tryd.prog.underlying t = some (.struct fs)) (h : Value.okWide Tryd.prog w r base t v) : ∃ cs, v = .agg cs ∧ cs.size = Tryd.prog.cellsOf t := by
  simp only [Value.okWide, ht] at h
  obtain ⟨cs, h1, h2, _⟩ := h
  exact ⟨cs, h1, h2⟩

/-- A state that is read is eight words, a number and a text. -/
theorem state_of_trod {H : Type} {enc : TypeId × Value → H} {w : World} {base fuel : Nat} {sp : Nat → Bool} {held : Bool} {cs : List Value} {x : DataW H × List MemPlace} (h : DataW.trod enc Tryd.prog w base sp held fuel 26 cs = some x) : ∃ s : St, cs = s.cells := by
  obtain ⟨xs, m, _, _, hlen, hxs, hel⟩ := DataW.trod_struct Tryd.underlying26 h
  have hc10 : Tryd.prog.cellsOf 26 = 10 := by kernel_rfl
  have hc8 : Tryd.prog.cellsOf 23 = 8 := by kernel_rfl
  have hc1 : Tryd.prog.cellsOf 24 = 1 := by kernel_rfl
  have hcs : Tryd.prog.cellsOf 9 = 1 := by kernel_rfl
  rw [hc10] at hlen
  have h3 : xs.length = 3 := hxs
  have g : ∀ i (hi : i < 3), xs[i]? = some (xs[i]'(by omega)) := fun i hi => List.getElem?_eq_getElem (by omega)
  have e0 := hel 0 _ rfl
  have e1 := hel 1 _ rfl
  have e2 := hel 2 _ rfl
  rw [g 0 (by omega)] at e0
  rw [g 1 (by omega)] at e1
  rw [g 2 (by omega)] at e2
  obtain ⟨l, hl, hl8, _⟩ := nums_of_trod (k := .u32) Tryd.underlying23 Tryd.underlying22 cellsWord hc8 (fun z hz => (bounds_u32 hz).1) e0
  obtain ⟨z, hz, _, hw⟩ := DataW.trod_int Tryd.underlying24 e1
  obtain ⟨r, hr, _, _⟩ := DataW.trod_string Tryd.underlying9 e2
  have z0 : 0 ≤ z := (bounds_u64 hw).1
  obtain ⟨n, rfl⟩ : ∃ n : Nat, z = (n : Int) := ⟨z.toNat, by omega⟩
  have hl' : cs.take 8 = nums .u32 l := by rw [← hl]; show cs.take 8 = (cs.drop 0).take (Tryd.prog.cellsOf 23); rw [hc8, List.drop_zero]
  have hz' : (cs.drop 8).take 1 = [.int .u64 (n : Int)] := by rw [← hz]; show (cs.drop 8).take 1 = (cs.drop 8).take (Tryd.prog.cellsOf 24); rw [hc1]
  have hr' : (cs.drop 9).take 1 = [.string r] := by rw [← hr]; show (cs.drop 9).take 1 = (cs.drop 9).take (Tryd.prog.cellsOf 9); rw [hcs]
  have hsum : cs = cs.take 8 ++ ((cs.drop 8).take 1 ++ (cs.drop 9).take 1) := by
    have a1 : (cs.drop 9).take 1 = cs.drop 9 := List.take_of_length_le (by rw [List.length_drop]; omega)
    have a2 : (cs.drop 8).take 1 ++ cs.drop 9 = cs.drop 8 := by
      have := List.take_append_drop 1 (cs.drop 8)
      rwa [List.drop_drop] at this
    rw [a1, a2, List.take_append_drop]
  match l, hl8 with
  | [a, b, c, d, e, f, g, h], _ =>
    refine ⟨⟨⟨a, b, c, d, e, f, g, h⟩, n, r⟩, ?_⟩
    rw [hsum, hl', hz', hr']
    rfl

/-- What the row's list gives: the table's cells hold the constants. -/
theorem table {W : World} (h : laidMetH Tryd.prog Rows.digestSumsRow.laid W) : Tab W := by
  have h' : Lib.TabIs Tryd.prog W "blackbox/digest.constants" .u32 ((List.range 64).map fun t => ((kc t : Nat) : Int)) :=
    Lib.tabIs_of_head (rest := []) gTab gTabType Tryd.underlying49 Tryd.underlying22 cellsWord cellsTab h
  intro t ht
  have := h'.cell gTab t (by simpa using ht)
  rw [this]
  simp [ht]

noncomputable def laidWorld (os : Os) : World :=
  { World.holding Tryd.prog os ⟨#[], #[], []⟩ with heap := (World.holding Tryd.prog os ⟨#[], #[], []⟩).heap.modify 0 fun
      | .cells _ t frozen => .cells ((List.range 64).map fun t => Value.int .u32 ((kc t : Nat) : Int)).toArray t frozen
      | o => o }
noncomputable def wargs : Array Value := #[.agg (St.mk ⟨0, 0, 0, 0, 0, 0, 0, 0⟩ 0 ⟨#[]⟩).cells.toArray, .string ByteArray.empty, .string ByteArray.empty]
theorem laid_met (os : Os) : laidMet Tryd.prog Rows.digestSumsRow.laid ((laidWorld os).forCall (fun _ _ => 0) ⟨#[], wargs, []⟩).memory :=
  laidMet_of_run' 8 (by kernel_rfl) (by kernel_rfl)
theorem reads (os : Os) {H : Type} (enc : TypeId × Value → H) : ∃ ds places, DataW.whole enc Tryd.prog ((laidWorld os).forCall (fun _ _ => 0) ⟨#[], wargs, []⟩).memory Tryd.f3.params.toList Rows.digestSumsSpec.vars false wargs.toList 8 = some (ds, [], places) :=
  ⟨[.agg [.agg (List.replicate 8 (.lit (.int .u32 0))), .lit (.int .u64 0), .lit (.string [])], .lit (.string []), .lit (.string [])], [], by kernel_rfl⟩

theorem laidOut : laidOutB Tryd.prog = true := by kernel_rfl
theorem params_read : ∀ t ∈ Tryd.f3.params.toList, Tryd.prog.readableRec t = true ∧ t < Tryd.prog.types.size := by
  have h : (Tryd.f3.params.toList.all fun t => Tryd.prog.readableRec t && decide (t < Tryd.prog.types.size)) = true := by kernel_rfl
  intro t ht
  have := List.all_eq_true.1 h t ht
  simpa using this

/-- WHAT THE WALK GIVES, FOR EVERY SUM, EVERY TEXT AND EVERY WORLD THAT HOLDS THE TABLE. -/
theorem contract (H : Type) (enc : TypeId × Value → H) (W : World) (base : Nat) (args : Array Value) (ds gs : List (DataW H)) (before : List MemPlace)
    (hval : ∀ (j : Nat) t v, Tryd.f3.params[j]? = some t → args[j]? = some v → Value.okWide Tryd.prog W .any base t v)
    (hW : DataW.Whole enc Tryd.prog Tryd.f3.params.toList Rows.digestSumsSpec.vars false W args.toList ds gs before) (hL : laidMetH Tryd.prog Rows.digestSumsRow.laid W) :
    Calls Tryd.prog 3 args W fun e W' => ∃ v, e = .returned v ∧ Rows.digestSumsSpec.post enc Tryd.prog Tryd.f3 false true false false W args v W' := by
  have hW' := hW
  obtain ⟨p, q, hA0, hV, rfl, hfz, hnd⟩ := hW
  have hA : DataW.TrodAll enc Tryd.prog W 0 (fun _ => true) true Tryd.f3.params.toList args.toList ds p := hA0
  rw [Tryd.params3] at hA hval
  obtain ⟨v0, vs0, d0, ds0, p0, q0, hargs, rfl, rfl, h0, r0⟩ := trodAll_cons hA
  obtain ⟨v1, vs1, d1, ds1, p1, q1, rfl, rfl, rfl, h1, r1⟩ := trodAll_cons r0
  obtain ⟨v2, vs2, d2, ds2, p2, q2, rfl, rfl, rfl, h2, r2⟩ := trodAll_cons r1
  obtain ⟨rfl, rfl, rfl⟩ := trodAll_nil r2
  obtain rfl : args = #[v0, v1, v2] := by cases args; simp_all
  obtain ⟨rfl, rfl⟩ := trodVars_none hV
  clear hA0
  obtain ⟨a, rfl, rfl, rfl, ha⟩ := open_string Tryd.underlying9 (hval 1 9 v1 rfl rfl) h1
  obtain ⟨b, rfl, rfl, rfl, hb⟩ := open_string Tryd.underlying9 (hval 2 9 v2 rfl rfl) h2
  obtain ⟨cs, rfl, _⟩ := okWide_struct Tryd.underlying26 (hval 0 26 v0 rfl rfl)
  obtain ⟨fuel, hf⟩ := h0
  obtain ⟨s, hcs⟩ := state_of_trod hf
  obtain rfl : cs = s.cells.toArray := by
    have : cs.toList = s.cells := by simpa [Value.cells] using hcs
    rw [← this]
  refine (DigestSums_core s a b W (table hL)).mono fun e W' ⟨he, hb⟩ => ?_
  subst he
  exact ⟨_, rfl, law_post laidOut params_read (by kernel_rfl) Tryd.underlying4 rfl hW' rfl hb⟩

set_option maxRecDepth 100000 in
theorem lifted (os : Os) (started : os.Started) (H : Type) (enc : TypeId × Value → H) (F : Stop.Interp) :
    ReturnsInHanded {} Tryd.checked os 3 .any ((OpenSpec.ofChange Rows.digestSumsSpec).preRow enc Tryd.prog Tryd.f3 Rows.digestSumsRow.domain false Rows.digestSumsRow.laid) (((OpenSpec.ofChange Rows.digestSumsSpec).at F).post enc Tryd.prog Tryd.f3 false true false false) := by
  obtain ⟨ds, places, hx⟩ := reads os enc
  refine returnsInHanded_of_row (C := Tryd.checked) (s := OpenSpec.ofChange Rows.digestSumsSpec) own started (by kernel_rfl) Tryd.func3
    (witness_row_at (enc := enc) (C := Tryd.checked) false (laidWorld os) wargs rfl (by kernel_rfl) (by kernel_rfl) (by kernel_rfl)
      (OpenSpec.preRow_of_cond 8 hx (by kernel_rfl) (fun k hk => by cases hk) (by kernel_rfl) (laid_met os))) ?_
  intro W base args ds gs before hval hW _ _ _ hL _ _
  exact contract H enc W base args ds gs before hval hW hL

theorem said : Rows.DigestSumsSaid :=
  OpenClaim.holds_of_cond 3 Tryd.f3 rfl rfl rfl rfl rfl rfl rfl ⟨rfl, rfl, rfl, rfl, rfl⟩ rfl rfl rfl rfl rfl (by kernel_rfl) Tryd.func3 (by kernel_rfl)
    (of_decide_eq_true (by kernel_rfl)) (by unfold Func.isWrapper; first | (rw [if_pos (by decide +kernel)]; kernel_rfl) | (rw [if_neg (by decide +kernel)]; exact ⟨rfl, rfl⟩))
    (fun os started H enc _ F => by rw [OpenClaim.pre_eq_preRow]; exact lifted os started H enc F)

theorem plain (f : FuncId) (fn : Func) (hf : Tryd.pinned.checked.prog.funcNamed "blackbox/blackboxlaw02.DigestSums" = some f) (hfn : Tryd.pinned.checked.prog.funcs[f]? = some fn) :
    false = Tryd.pinned.checked.prog.looks [] ∧ ∀ (j : Nat) t, fn.params[j]? = some t → Tryd.pinned.checked.prog.wantsStandIn t = false := by
  obtain rfl : f = 3 := Option.some.inj ((show Tryd.prog.funcNamed "blackbox/blackboxlaw02.DigestSums" = some 3 by kernel_rfl).symm.trans hf) |>.symm
  obtain rfl : fn = Tryd.f3 := (Option.some.inj (Tryd.func3.symm.trans hfn)).symm
  refine ⟨by kernel_rfl, fun j t ht => ?_⟩
  have h : (Tryd.f3.params.toList.all fun t => !Tryd.prog.wantsStandIn t) = true := by kernel_rfl
  have := List.all_eq_true.1 h t (by simpa using Array.mem_of_getElem? ht)
  exact (Bool.not_eq_true' _).mp this

/-- THE CARD. -/
theorem card : Rows.DigestSumsCardSaid :=
  Claim7.holds_tied_plain_at .later [] _ _ _ _ said (fun _ h => by cases h) (by kernel_rfl) (fun _ h => by cases h) digestSums_row_tie rfl ⟨rfl, rfl⟩ (by kernel_rfl) rfl plain (by kernel_rfl)
end Go.Proofs.YtanjebmpjenmiaaDoor.digestSums
