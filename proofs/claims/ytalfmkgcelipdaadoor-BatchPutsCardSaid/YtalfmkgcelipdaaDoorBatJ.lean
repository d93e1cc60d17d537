/- Bytes, read as a batch: the contract of batch.Get. -/
import Derived.Test.YtalfmkgcelipdaaDoorBatH
import Derived.Test.YtalfmkgcelipdaaDoorBatI
namespace Go.Proofs.YtalfmkgcelipdaaDoor
open Go.RowKit Wire Evt Bat

theorem results_cell_two {fn : Func} {p u v : Tmp} {ty : TypeId} (h : fn.results = #[.cell p ty, .tmp u, .tmp v]) (tmps : Array Value) (P : Program) (w : World) :
    (results fn tmps).run P w =
      ((asAddr (tmps.getD p undef)).run P w).andThen fun a w₁ => ((loadVar ty a).run P w₁).andThen fun x w₂ => .ok (.tuple #[x, tmps.getD u undef, tmps.getD v undef]) w₂ := by
  simp only [results, h]
  simp [Sem.run_bind, Result.andThen]

/-- The results of a function that gives a batch and two numbers. -/
theorem results_got {fn : Func} {p u v : Tmp} (h : fn.results = #[.cell p 27, .tmp u, .tmp v]) (tmps : Array Value) (w : World) (g : Nat) (L : List Value) (x y : Value)
    (hp : tmps.getD p undef = .pointer (some ⟨g, 0, none⟩)) (hB : Has w g 27 L) (hL : L.length = 34) (hu : tmps.getD u undef = x) (hv : tmps.getD v undef = y) :
    (results fn tmps).run Tryd.prog w = .ok (.tuple #[.agg L.toArray, x, y]) w := by
  have hi : (Tryd.prog.info? 27).map (·.size) = some L.toArray.size := by rw [List.size_toArray, hL, info_batch]
  have h1 := run_loadVar_row (P := Tryd.prog) w g 27 27 L.toArray (0, 0) _ hB Tryd.underlying27 rfl hi
  rw [results_cell_two h, hp, hu, hv]
  simp [asAddr, h1]

/-- What batch.Get gives. -/
def BgetPost (s : List UInt8) (w : World) (e : Ending) (w' : World) : Prop :=
  ∃ v, e = .returned (.tuple #[.agg (btc (gotB s).bt.first v (gotB s).bt.prev).toArray, .int .i64 ((gotB s).used : Nat), .int .i64 ((gotB s).err : Nat)]) ∧ OwnE w.heap.size v (gotB s).bt.evs w' ∧ Below w.heap.size w w'
theorem bget_bad {s : List UInt8} {k : Nat} (h : gotB s = noB k) {w w' : World} (hb : Below w.heap.size w w') : BgetPost s w (.returned (.tuple #[.agg zbt.toArray, .int .i64 0, .int .i64 (k : Nat)])) w' := by
  unfold BgetPost
  rw [h]
  exact ⟨_, rfl, OwnE.nil _ _, hb⟩
theorem bget_good {s : List UInt8} {b : Bt} {n : Nat} (h : gotB s = ⟨b, n, 0⟩) {v : Value} {w w' : World} (ho : OwnE w.heap.size v b.evs w') (hb : Below w.heap.size w w') : BgetPost s w (.returned (.tuple #[.agg (btc b.first v b.prev).toArray, .int .i64 (n : Nat), .int .i64 0])) w' := by
  unfold BgetPost
  rw [h]
  exact ⟨v, rfl, ho, hb⟩

theorem OwnE.over {B g : Nat} {v : Value} {l : List Ev} {w w' : World} {t : TypeId} {L : List Value} (h : OwnE B v l w) (hg : Has w g t L) (ht : t ≠ 50) (ho : Only w w' g) : OwnE B v l w' := by
  obtain ⟨h0, h1 | ⟨b, cap, cur, hv, hb, hh, hr⟩⟩ := h.out
  · exact ⟨⟨h0, Or.inl h1⟩⟩
  · refine ⟨⟨h0, Or.inr ⟨b, cap, cur, hv, hb, ?_, hr⟩⟩⟩
    have hne : b ≠ g := by
      rintro rfl
      have h2 : w.heap[b]? = some (.cells L.toArray t (0, 0)) := hg
      rw [hh] at h2
      injection h2 with h3
      injection h3 with _ h4
      exact ht h4.symm
    have := ho.keep (g' := b) (t := 50) (l := cur.toList) hne (by show _ = _; rw [hh])
    have h2 : w'.heap[b]? = some (.cells cur.toList.toArray 50 (0, 0)) := this
    rwa [Array.toArray_toList] at h2
theorem OwnE.alloc {B : Nat} {v : Value} {l : List Ev} {w : World} (h : OwnE B v l w) (o : Obj) : OwnE B v l (w.alloc o) := ⟨h.out.alloc o⟩
theorem OwnE.up {B : Nat} {v : Value} {l : List Ev} {w w' : World} (h : OwnE B v l w) (hb : Below w.heap.size w w') : OwnE B v l w' := ⟨own_below h.out hb⟩

set_option maxHeartbeats 2000000 in
set_option maxRecDepth 100000 in
theorem bget_any (s : ByteArray) (hs : s.size ≤ 100000) (w : World) :
    Calls Tryd.prog 14 #[.string s] w fun e w' => BgetPost s.data.toList w e w' := by
  have hz : zbt.length = 34 := btc_length _ _ (by simp)
  have hzo : ∀ v ∈ zbt, v.oneCell' = true := btc_one 0 none 0 0 _
  have hi := info_batch
  have hu := Tryd.underlying27
  have HX := Lib.hid (Has.make w 27 zbt)
  have B1 := Lib.hid (up_alloc (Below.refl w.heap.size w) (.cells zbt.toArray 27))
  have HF := Lib.hid (fun w => framed_any s hs w)
  obtain ⟨l, k, hfr⟩ : ∃ l k, frO s.data.toList = (l, k) := ⟨_, _, rfl⟩
  by_cases hk : k = 0
  · subst hk
    obtain ⟨_, _, hll⟩ := fr_back hfr
    have hf : ∀ w e w', FrPost s.data.toList w e w' → e = .returned (.tuple #[.string ⟨l.toArray⟩, .int .i64 0]) ∧ Below w.heap.size w w' := by
      intro w e w' h
      unfold FrPost at h
      rw [hfr] at h
      exact h
    have HG := Lib.hid hf
    have HR := Lib.hid (fun w => bread_any l (by omega) w)
    have hls := text_list l
    clear hf
    go_enter Tryd.func14, Tryd.ntmps14
    go_wp2_with fail
    generalize hw1 : w.alloc (Obj.cells _ _) = w1
    replace HX : Hid (Has w1 w.heap.size 27 zbt) := by rw [← hw1]; exact HX
    replace B1 : Hid (Below w.heap.size w w1) := by rw [← hw1]; exact B1
    clear hw1
    refine (HF.out _).mono ?_; intro e w2 h2
    obtain ⟨rfl, b2⟩ := HG.out _ _ _ h2
    replace HX := Lib.hid (HX.out.up b2)
    replace B1 := Lib.hid (up_trans B1.out b2)
    clear h2 b2
    go_wp2_with fail
    refine (HR.out _).mono ?_; intro e w3 h3
    obtain ⟨b3, h3⟩ := h3
    have hs2 := B1.out.size
    replace HX := Lib.hid (HX.out.up b3)
    replace B1 := Lib.hid (up_trans B1.out b3)
    clear b3
    have hlx : w.heap.size < w3.heap.size := HX.out.lt
    cases hr : rdB l with
    | none =>
      rw [hr] at h3
      subst h3
      go_wp2_with (first
        | (refine wpList_store_whole rfl 27 _ _ rfl w3.heap.size 27 zbt zbt (by rfl) (by rfl) (Has.make w3 _ zbt) rfl (by rw [hi, hz]) hzo ?_; intro w4 hF4 hO4)
        | (refine wpList_store_whole rfl 27 _ _ rfl w.heap.size 27 zbt zbt (by rfl) (by rfl) (hO4.keep (by omega) (HX.out.alloc _)) rfl (by rw [hi, hz]) hzo ?_; intro w5 hF hO))
      refine bodyPost_ret_by (results_got Tryd.results14 _ _ w.heap.size _ _ _ (by rfl) hF hz (by rfl) (by rfl)) rfl ?_
      exact bget_bad (gotB_none hfr hr) (hO.below (Nat.le_refl _) (hO4.below (by omega) (B1.out.alloc B1.out.size _)))
    | some b =>
      rw [hr] at h3
      obtain ⟨v, rfl, hO3⟩ := h3
      obtain ⟨A, n, cap, rfl, hn1, hn2, hn3⟩ := hO3.opened
      clear hn1 hn2 hn3
      have hbf := (rdB_back hr).2.2
      have hb3 := btc_length b.first (.slice A n cap) hbf.prev
      have HO := Lib.hid ((hO3.alloc (.cells zbt.toArray 27)).mono_base hs2)
      clear hO3
      have hln : ((l.length : Nat) : Int) ≤ 16384 := by omega
      go_wp2_with (first
        | (refine wpList_store_whole rfl 27 _ _ rfl w3.heap.size 27 zbt (btc b.first (.slice A n cap) b.prev) (by rfl) (by rfl) (Has.make w3 _ zbt) (by rw [hb3, hz]) (by rw [hi, hb3]) (btc_one _ _ _ _ _) ?_; intro w4 hF4 hO4)
        | (refine wpList_load_row rfl 27 _ rfl w3.heap.size (by rfl) _ _ _ _ hF4 hu rfl (by rw [hi, List.size_toArray, hb3]) ?_)
        | (refine wpList_store_whole rfl 27 _ _ rfl w.heap.size 27 zbt (btc b.first (.slice A n cap) b.prev) (by rfl) (by rfl) (hO4.keep (by omega) (HX.out.alloc _)) (by rw [hb3, hz]) (by rw [hi, hb3]) (btc_one _ _ _ _ _) ?_; intro w5 hF hO))
      have O4 := HO.out.over (Has.make w3 27 zbt) (by decide) hO4
      have O5 := O4.over (hO4.keep (by omega) (HX.out.alloc _)) (by decide) hO
      refine bodyPost_ret_by (results_got Tryd.results14 _ _ w.heap.size _ (.int .i64 ((l.length + 9 : Nat) : Int)) (.int .i64 0) (by rfl) hF hb3 (by
        show Value.int .i64 _ = _
        congr 1
        omega) (by rfl)) rfl ?_
      exact bget_good (gotB_some hfr hr) O5 (hO.below (Nat.le_refl _) (hO4.below (by omega) (B1.out.alloc B1.out.size _)))
  · have hf : ∀ w e w', FrPost s.data.toList w e w' → e = .returned (.tuple #[.string ⟨l.toArray⟩, .int .i64 (k : Nat)]) ∧ Below w.heap.size w w' := by
      intro w e w' h
      unfold FrPost at h
      rw [hfr] at h
      exact h
    have HG := Lib.hid hf
    have d : ((k : Int) != 0) = true := by rw [bne_iff_ne]; omega
    have HR := Lib.hid (gotB_err hfr hk)
    clear hf hk
    go_enter Tryd.func14, Tryd.ntmps14
    go_wp2_with fail
    generalize hw1 : w.alloc (Obj.cells _ _) = w1
    replace HX : Hid (Has w1 w.heap.size 27 zbt) := by rw [← hw1]; exact HX
    replace B1 : Hid (Below w.heap.size w w1) := by rw [← hw1]; exact B1
    clear hw1
    refine (HF.out _).mono ?_; intro e w2 h2
    obtain ⟨rfl, b2⟩ := HG.out _ _ _ h2
    replace HX := Lib.hid (HX.out.up b2)
    replace B1 := Lib.hid (up_trans B1.out b2)
    clear h2 b2
    go_wp2_with (refine wpList_store_whole rfl 27 _ _ rfl w.heap.size 27 zbt zbt (by rfl) (by rfl) HX.out rfl (by rw [hi, hz]) hzo ?_; intro w3 hF hO)
    refine bodyPost_ret_by (results_got Tryd.results14 _ _ w.heap.size _ _ _ (by rfl) hF hz (by rfl) (by rfl)) rfl ?_
    exact bget_bad HR.out (hO.below (Nat.le_refl _) B1.out)

end Go.Proofs.YtalfmkgcelipdaaDoor
