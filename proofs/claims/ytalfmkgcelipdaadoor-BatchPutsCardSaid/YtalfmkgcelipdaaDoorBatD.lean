/- A row of events, read one behind the other: the contract of batch.row. -/
import Derived.Test.YtalfmkgcelipdaaDoorBatC
import Derived.Test.YtalfmkgcelipdaaDoorOwnE
namespace Go.Proofs.YtalfmkgcelipdaaDoor
open Go.RowKit Wire Evt Bat

theorem OwnE.only {B : Nat} {v : Value} {l : List Ev} {w w' : World} {g : Nat} (h : OwnE B v l w) (ho : Only2 w w' g g) (hg : g < B) : OwnE B v l w' := by
  obtain ⟨h0, h1 | ⟨b, cap, cur, hv, hb, hh, hr⟩⟩ := h.out
  · exact ⟨⟨h0, Or.inl h1⟩⟩
  · refine ⟨⟨h0, Or.inr ⟨b, cap, cur, hv, hb, ?_, hr⟩⟩⟩
    have := ho.keep (g' := b) (t := 50) (l := cur.toList) (by omega) (by omega) (by show _ = _; rw [hh])
    have h2 : w'.heap[b]? = some (.cells cur.toList.toArray 50 (0, 0)) := this
    rwa [Array.toArray_toList] at h2

theorem evK_len {k : Nat} {l r : List UInt8} {acc : List Ev} (h : evK k l = some (acc, r)) : r.length ≤ l.length := by
  have := (evK_back h).1
  rw [← this, List.length_append]; omega

theorem Only2.over {w w1 w' : World} {g : Nat} (h : Only2 w w1 g g) (hb : Below w.heap.size w1 w') : Only2 w w' g g :=
  ⟨Nat.le_trans h.size hb.size, fun h1 h2 k => (h.keep h1 h2 k).below hb k.lt, fun h1 h2 hB k => (h.below h1 h2 hB k).trans (hb.mono hB)⟩
theorem Moved.start {w : World} {g : Nat} {l : List UInt8} (h : Has w g 79 [.string ⟨l.toArray⟩]) : Moved w w g l := ⟨h, Only2.refl _ _ _⟩
theorem Moved.over {w w1 w' : World} {g : Nat} {l : List UInt8} (h : Moved w w1 g l) (hb : Below w.heap.size w1 w') (hg : g < w.heap.size) : Moved w w' g l := ⟨h.has.below hb hg, h.only.over hb⟩

theorem evSl_one {w : World} {b : Nat} {x : Ev} (h : Has w b 50 (evc x)) : EvSl w (some ⟨b, 0, none⟩) [x] := fun _ => ⟨b, 0, rfl, EvAt.of_has (by simpa using h)⟩

theorem event_ok2 (g : Nat) (l r : List UInt8) (x : Ev) (hl : l.length ≤ 20000) (h : oneO l = some (x, r)) (w : World) (hg : Has w g 79 [.string ⟨l.toArray⟩]) :
    Calls Tryd.prog 56 #[.pointer (some ⟨g, 0, none⟩)] w fun e w' => e = .returned (.agg #[.int .u64 (x.seq : Nat), .int .i64 x.tick, .int .i64 x.part, .int .i64 x.kind, .int .i64 x.a, .int .i64 x.b]) ∧ Moved w w' g r :=
  event_ok g l r x hl h w hg

set_option maxHeartbeats 1600000 in
set_option maxRecDepth 100000 in
theorem row_yes (g many : Nat) (l left : List UInt8) (evs : List Ev) (hl : l.length ≤ 20000) (hk : evK many l = some (evs, left)) (hm : many ≤ 256) (w : World) (hg : Has w g 79 [.string ⟨l.toArray⟩]) :
    Calls Tryd.prog 55 #[.int .u64 (many : Nat), .func (.func 56) #[.pointer (some ⟨g, 0, none⟩)] #[]] w fun e w' => ∃ v, e = .returned v ∧ OwnE w.heap.size v evs w' ∧ Moved w w' g left := by
  have hlt := hg.lt
  have HK := Lib.hid hk
  have HG := Lib.hid hg
  have H0 := Lib.hid (show evK 0 l = some ([], l) from rfl)
  have d1 : (many : Int) ≤ 256 := by omega
  clear hk hg
  go_enter Tryd.func55, Tryd.ntmps55
  go_wp2_with fail
  refine (must_yes _).mono ?_; rintro e w2 ⟨rfl, rfl⟩
  go_wp2_with fail
  go_loopw [5, 10] (fun v i wr => ∃ (k : Nat) (acc : List Ev) (r : List UInt8), k ≤ many ∧ i = .int .u64 (k : Nat) ∧ Hid (evK k l = some (acc, r)) ∧ OwnE w.heap.size v acc wr ∧ Moved w wr g r) (fun _ i _ => many - (intOf i).toNat)
  case atStart => exact ⟨0, [], l, by omega, rfl, H0, OwnE.nil _ _, Moved.start HG.out⟩
  case round =>
    clear H0 HG
    obtain ⟨k, acc, r, hkm, rfl, hk, hO, hM⟩ := hrel
    have HO := Lib.hid hO
    have HM := Lib.hid hM
    have hal := evK_length hk.out
    have hrl := evK_len hk.out
    clear hO hM
    by_cases h : k < many
    · have h' : (k : Int) < (many : Int) := by omega
      cases h1 : oneO r with
      | none =>
        have := evK_stop hk.out h1 (many - k - 1)
        rw [show k + 1 + (many - k - 1) = many by omega, HK.out] at this
        cases this
      | some p =>
        obtain ⟨x, r'⟩ := p
        have HN := Lib.hid (evK_next hk.out h1)
        have HC := Lib.hid (event_ok2 g r r' x (by omega) h1 _ HM.out.has)
        have hs1 := HM.out.only.size
        clear h1
        go_wp2_with fail
        refine HC.out.mono ?_; rintro e w1 ⟨rfl, hM1⟩
        have HO1 := Lib.hid (HO.out.only hM1.only hlt)
        have HM1 := Lib.hid (show Moved w w1 g r' from ⟨hM1.has, HM.out.only.trans hM1.only⟩)
        have hs2 := hM1.only.size
        clear hM1
        go_wp2_with (refine wpList_pushE rfl _ _ rfl w.heap.size _ acc (by rfl) ⟨HO1.out.out.alloc _⟩ (some ⟨w1.heap.size, 0, none⟩) 1 1 [x] (by rfl) rfl (evSl_one (Has.make w1 _ (evc x))) (by simp) (by omega) (by simp; omega) ?_; intro v' w' hO' hB')
        go_roundw
        case rel => exact ⟨k + 1, acc ++ [x], r', by omega, by go_num, HN, hO', HM1.out.over (((Below.refl w.heap.size w1).alloc (by omega) _).trans hB') hlt⟩
        case measure => simp [intOf]; omega
    · obtain rfl : k = many := by omega
      obtain ⟨rfl, rfl⟩ : acc = evs ∧ r = left := by
        have := hk.out.symm.trans HK.out
        simpa using this
      go_wp2_with fail
      go_ret
      exact ⟨_, rfl, HO.out, HM.out⟩

theorem row_many (g many : Nat) (hm : 256 < many) (w : World) :
    Calls Tryd.prog 55 #[.int .u64 (many : Nat), .func (.func 56) #[.pointer (some ⟨g, 0, none⟩)] #[]] w fun e w' => e = .panicked [thrown] ∧ Only2 w w' g g := by
  have d1 : ¬ (many : Int) ≤ 256 := by omega
  have d2 : decide ((many : Int) ≤ 256) = false := by simp; omega
  go_enter Tryd.func55, Tryd.ntmps55
  go_wp2_with fail
  refine (must_no _).mono ?_; rintro e w2 ⟨rfl, rfl⟩
  exact ⟨rfl, rfl, Only2.refl _ _ _⟩

set_option maxHeartbeats 1600000 in
set_option maxRecDepth 100000 in
theorem row_no (g many : Nat) (l : List UInt8) (hl : l.length ≤ 20000) (hk : evK many l = none) (hm : many ≤ 256) (w : World) (hg : Has w g 79 [.string ⟨l.toArray⟩]) :
    Calls Tryd.prog 55 #[.int .u64 (many : Nat), .func (.func 56) #[.pointer (some ⟨g, 0, none⟩)] #[]] w fun e w' => e = .panicked [thrown] ∧ Only2 w w' g g := by
  have hlt := hg.lt
  have HK := Lib.hid hk
  have HG := Lib.hid hg
  have H0 := Lib.hid (show evK 0 l = some ([], l) from rfl)
  have d1 : (many : Int) ≤ 256 := by omega
  clear hk hg
  go_enter Tryd.func55, Tryd.ntmps55
  go_wp2_with fail
  refine (must_yes _).mono ?_; rintro e w2 ⟨rfl, rfl⟩
  go_wp2_with fail
  go_loopw [5, 10] (fun v i wr => ∃ (k : Nat) (acc : List Ev) (r : List UInt8), k ≤ many ∧ i = .int .u64 (k : Nat) ∧ Hid (evK k l = some (acc, r)) ∧ OwnE w.heap.size v acc wr ∧ Moved w wr g r) (fun _ i _ => many - (intOf i).toNat)
  case atStart => exact ⟨0, [], l, by omega, rfl, H0, OwnE.nil _ _, Moved.start HG.out⟩
  case round =>
    clear H0 HG
    obtain ⟨k, acc, r, hkm, rfl, hk, hO, hM⟩ := hrel
    have HO := Lib.hid hO
    have HM := Lib.hid hM
    have hal := evK_length hk.out
    have hrl := evK_len hk.out
    clear hO hM
    by_cases h : k < many
    · have h' : (k : Int) < (many : Int) := by omega
      cases h1 : oneO r with
      | none =>
        have HC := Lib.hid (event_no g r (by omega) h1 _ HM.out.has)
        clear h1
        go_wp2_with fail
        refine HC.out.mono ?_; rintro e w1 ⟨rfl, hM1⟩
        exact ⟨rfl, rfl, HM.out.only.trans hM1⟩
      | some p =>
        obtain ⟨x, r'⟩ := p
        have HN := Lib.hid (evK_next hk.out h1)
        have HC := Lib.hid (event_ok2 g r r' x (by omega) h1 _ HM.out.has)
        have hs1 := HM.out.only.size
        clear h1
        go_wp2_with fail
        refine HC.out.mono ?_; rintro e w1 ⟨rfl, hM1⟩
        have HO1 := Lib.hid (HO.out.only hM1.only hlt)
        have HM1 := Lib.hid (show Moved w w1 g r' from ⟨hM1.has, HM.out.only.trans hM1.only⟩)
        have hs2 := hM1.only.size
        clear hM1
        go_wp2_with (refine wpList_pushE rfl _ _ rfl w.heap.size _ acc (by rfl) ⟨HO1.out.out.alloc _⟩ (some ⟨w1.heap.size, 0, none⟩) 1 1 [x] (by rfl) rfl (evSl_one (Has.make w1 _ (evc x))) (by simp) (by omega) (by simp; omega) ?_; intro v' w' hO' hB')
        go_roundw
        case rel => exact ⟨k + 1, acc ++ [x], r', by omega, by go_num, HN, hO', HM1.out.over (((Below.refl w.heap.size w1).alloc (by omega) _).trans hB') hlt⟩
        case measure => simp [intOf]; omega
    · obtain rfl : k = many := by omega
      have := hk.out.symm.trans HK.out
      cases this

end Go.Proofs.YtalfmkgcelipdaaDoor
