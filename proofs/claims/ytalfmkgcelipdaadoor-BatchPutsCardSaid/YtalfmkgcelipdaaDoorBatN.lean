/- The document's rows for batches hold: what blackboxlaw05.batched returns. -/
import Derived.Test.YtalfmkgcelipdaaDoorBatM
import Derived.Test.YtalfmkgcelipdaaDoorBatJ
namespace Go.Proofs.YtalfmkgcelipdaaDoor
open Go.RowKit Wire Evt Bat

def exEv : Ev := ⟨7, 0, -1, 1, 0, 0⟩
def exB : Bt := ⟨7, [exEv], List.replicate 32 0⟩
theorem exB_fits : exB.Fits := ⟨by decide, by decide, fun x hx => by
  obtain rfl : x = exEv := by simpa [exB] using hx
  decide⟩
theorem exB_is : isB exB.first exB.evs = true := by rfl
theorem exB_body : (bodyB exB).length = 41 := by
  have h0 : putL 0 = [0] := by rw [putL_lt (by omega)]; rfl
  have h1 : putL 1 = [1] := by rw [putL_lt (by omega)]; rfl
  have h7 : putL 7 = [7] := by rw [putL_lt (by omega)]; rfl
  have e : enc exEv = [1, 7, 0, 0, 0, 0] := by
    have e1 : (0 : Int).toNat = 0 := rfl
    have e2 : ((-1 : Int) + 1).toNat = 0 := rfl
    have e3 : (1 : Int).toNat = 1 := rfl
    simp only [enc, exEv, putE, e1, e2, e3, h0, h7]
    rfl
  have h6 : putL 6 = [6] := by rw [putL_lt (by omega)]; rfl
  have eb : evB exEv = [6, 1, 7, 0, 0, 0, 0] := by rw [evB, e]; show putL 6 ++ _ = _; rw [h6]; rfl
  simp only [bodyB, exB, List.length_append, List.flatMap_cons, List.flatMap_nil, eb, List.length_cons, List.length_nil, List.length_replicate, h7, h1]
theorem exB_len : (whole exB).length = 50 := by rw [whole_len, exB_body]
theorem exB_front : (whole exB).take 5 = [66, 0, 0, 0, 41] := by
  have h := whole_form exB []
  rw [List.append_nil] at h
  rw [h, exB_body, List.take_succ_cons, List.take_left' (fx_length _ _)]
  rfl

theorem got_x : gotB [120] = noB 3 := by
  have : frO [120] = ([], 3) := fr_mark (by decide)
  exact gotB_err this (by omega)

theorem exSl {w : World} {g : Nat} (h : Has w g 50 [.int .u64 7, .int .i64 0, .int .i64 (-1), .int .i64 1, .int .i64 0, .int .i64 0]) : EvSl w (some ⟨g, 0, none⟩) exB.evs := evSl_one (x := exEv) h

/-- Its bytes. -/
def exW : ByteArray := ⟨(whole exB).toArray⟩
theorem exW_size : exW.size = 50 := by rw [exW, text_list, exB_len]
theorem exW_front : exW.extract 0 5 = ⟨#[66, 0, 0, 0, 41]⟩ := by
  rw [head_of, show exW.data.toList = whole exB from rfl, exB_front]
theorem exW_more : gotB (exW ++ (⟨#[120]⟩ : ByteArray)).data.toList = ⟨exB, 50, 0⟩ := by
  have : (exW ++ (⟨#[120]⟩ : ByteArray)).data.toList = whole exB ++ [120] := by simp [exW]
  rw [this, gotB_put exB_fits exB_is, exB_len]

/-- The cells of that batch. -/
def exC (v : Value) : List Value := btc 7 v (List.replicate 32 0)
theorem exC_len (v : Value) : (exC v).length = 34 := btc_length _ _ (by simp)

theorem put_ex (A : Option Addr) (cap : Nat) (hcap : 1 ≤ cap) (w : World) (hA : EvSl w A exB.evs) :
    Calls Tryd.prog 6 #[.agg (exC (.slice A 1 cap)).toArray] w fun e w' => e = .returned (.tuple #[.string exW, .int .i64 0]) ∧ Below w.heap.size w w' :=
  bput_yes exB exB_fits exB_is A 1 cap rfl hcap w hA
theorem get_ex (w : World) : Calls Tryd.prog 14 #[.string (exW ++ (⟨#[120]⟩ : ByteArray))] w fun e w' =>
    ∃ v, e = .returned (.tuple #[.agg (exC v).toArray, .int .i64 50, .int .i64 0]) ∧ OwnE w.heap.size v exB.evs w' ∧ Below w.heap.size w w' := by
  have g := bget_any (exW ++ (⟨#[120]⟩ : ByteArray)) (by rw [ByteArray.size_append, exW_size]; decide) w
  unfold BgetPost at g
  rw [exW_more] at g
  exact g
theorem get_bad (w : World) : Calls Tryd.prog 14 #[.string ⟨#[120]⟩] w fun e w' => ∃ v, e = .returned (.tuple #[.agg (btc 0 v (List.replicate 32 0)).toArray, .int .i64 0, .int .i64 3]) ∧ OwnE w.heap.size v [] w' ∧ Below w.heap.size w w' := by
  have g := bget_any ⟨#[120]⟩ (by decide) w
  unfold BgetPost at g
  rw [show (⟨#[120]⟩ : ByteArray).data.toList = [120] from rfl, got_x] at g
  exact g
theorem put_bad (w : World) : Calls Tryd.prog 6 #[.agg zbt.toArray] w fun e w' => e = .returned (.tuple #[.string ⟨#[]⟩, .int .i64 1]) ∧ Below w.heap.size w w' :=
  bput_no ⟨0, [], List.replicate 32 0⟩ ⟨by simp, by simp, fun x hx => by cases hx⟩ rfl (by simp) none 0 0 rfl (by simp) w (fun h => by simp at h)
theorem same_ex (A A' : Option Addr) (cap cap' : Nat) (hcap : 1 ≤ cap) (hcap' : 1 ≤ cap') (w : World) (hA : EvSl w A exB.evs) (hA' : EvSl w A' exB.evs) :
    Calls Tryd.prog 27 #[.agg (exC (.slice A 1 cap)).toArray, .agg (exC (.slice A' 1 cap')).toArray] w fun e w' => e = .returned (.bool true) ∧ Below w.heap.size w w' :=
  same_any 7 (List.replicate 32 0) (by simp) A A' exB.evs 1 cap cap' rfl hcap hcap' (by simp [exB]) w hA hA'
theorem last_ex (A : Option Addr) (cap : Nat) (w : World) :
    Calls Tryd.prog 13 #[.agg (exC (.slice A 1 cap)).toArray] w fun e w' => e = .returned (.int .u64 7) ∧ Below w.heap.size w w' :=
  blast_any 7 1 (by omega) A cap (List.replicate 32 0) w

set_option maxHeartbeats 2000000 in
set_option maxRecDepth 100000 in
theorem batched_any (w : World) : Calls Tryd.prog 10 #[] w fun e w' => e = .returned (.bool true) ∧ Below w.heap.size w w' := by
  have hi := info_batch
  have hu := Tryd.underlying27
  have hz : zbt.length = 34 := btc_length _ _ (by simp)
  have hxl := exC_len
  have hxo : ∀ A n cap, ∀ v ∈ exC (.slice A n cap), v.oneCell' = true := fun A n cap => btc_one 7 A n cap _
  have HA := Lib.hid (Has.make w 50 [.int .u64 7, .int .i64 0, .int .i64 (-1), .int .i64 1, .int .i64 0, .int .i64 0])
  have B1 := Lib.hid (up_alloc (Below.refl w.heap.size w) (.cells #[.int .u64 7, .int .i64 0, .int .i64 (-1), .int .i64 1, .int .i64 0, .int .i64 0] 50))
  have HW5 := Lib.hid exW_front
  have zW := exW_size
  have P1 := Lib.hid (fun A cap hcap w hA => put_ex A cap hcap w hA)
  have G1 := Lib.hid get_ex
  generalize exW = W at *
  go_enter Tryd.func10, Tryd.ntmps10
  go_wp2_with (first
    | (refine wpList_store_whole rfl 27 _ _ rfl (w.heap.size + 1) 27 zbt (exC (.slice (some ⟨w.heap.size, 0, none⟩) 1 1)) (by rfl) (by rfl) (Has.make2 w _ _ zbt) (by rw [hxl, hz]) (by rw [hi, hxl]) (hxo _ _ _) ?_; intro w2 hF2 hO2)
    | (refine wpList_load_row rfl 27 _ rfl (w.heap.size + 1) (by rfl) _ _ _ _ hF2 hu rfl (by rw [hi, List.size_toArray, hxl]) ?_))
  have hlt2 := hF2.lt
  replace HA := Lib.hid (hO2.keep (by omega) (HA.out.alloc (.cells zbt.toArray 27)))
  replace B1 := Lib.hid (hO2.below (by omega) (B1.out.alloc B1.out.size (.cells zbt.toArray 27)))
  have HF := Lib.hid hF2
  clear hF2 hO2
  refine (P1.out _ 1 (Nat.le_refl _) _ (exSl HA.out)).mono ?_; rintro e w3 ⟨rfl, b3⟩
  replace HF := Lib.hid (HF.out.up b3)
  replace HA := Lib.hid (HA.out.up b3)
  replace B1 := Lib.hid (up_trans B1.out b3)
  clear b3
  go_wp2_with fail
  refine (G1.out _).mono ?_; rintro e w4 ⟨v, rfl, hO, b4⟩
  replace HF := Lib.hid (HF.out.up b4)
  replace HA := Lib.hid (HA.out.up b4)
  replace B1 := Lib.hid (up_trans B1.out b4)
  have hlt4 := HF.out.lt
  clear b4
  obtain ⟨A, n, cap, rfl, hn, hcap, hsl⟩ := hO.opened
  obtain rfl : n = 1 := hn
  have hcap' : 1 ≤ cap := hcap
  have HO := Lib.hid hO
  clear hO hcap hsl
  go_wp2_with (refine wpList_store_whole rfl 27 _ _ rfl w4.heap.size 27 zbt (exC (.slice A 1 cap)) (by rfl) (by rfl) (Has.make w4 _ zbt) (by rw [hxl, hz]) (by rw [hi, hxl]) (hxo _ _ _) ?_; intro w5 hF5 hO5)
  replace HF := Lib.hid (hO5.keep (by omega) (HF.out.alloc _))
  replace HA := Lib.hid (hO5.keep (by omega) (HA.out.alloc _))
  replace HO := Lib.hid ((HO.out.alloc (.cells zbt.toArray 27)).over (Has.make w4 _ zbt) (by decide) hO5)
  replace B1 := Lib.hid (hO5.below (by omega) (B1.out.alloc B1.out.size _))
  have HG := Lib.hid hF5
  clear hF5 hO5
  refine (get_bad _).mono ?_; rintro e w6 ⟨v, rfl, hO, b6⟩
  replace HF := Lib.hid (HF.out.up b6)
  replace HA := Lib.hid (HA.out.up b6)
  replace HG := Lib.hid (HG.out.up b6)
  replace HO := Lib.hid (HO.out.up b6)
  replace B1 := Lib.hid (up_trans B1.out b6)
  have hlt6 := HG.out.lt
  clear b6
  obtain ⟨A0, n0, cap0, rfl, hn0, hcap0, hsl0⟩ := hO.opened
  clear hO hn0 hcap0 hsl0
  have hyl : (btc 0 (.slice A0 n0 cap0) (List.replicate 32 0)).length = 34 := btc_length _ _ (by simp)
  go_wp2_with (refine wpList_store_whole rfl 27 _ _ rfl w6.heap.size 27 zbt (btc 0 (.slice A0 n0 cap0) (List.replicate 32 0)) (by rfl) (by rfl) (Has.make w6 _ zbt) (by rw [hyl, hz]) (by rw [hi, hyl]) (btc_one _ _ _ _ _) ?_; intro w7 hF7 hO7)
  replace HF := Lib.hid (hO7.keep (by omega) (HF.out.alloc _))
  replace HA := Lib.hid (hO7.keep (by omega) (HA.out.alloc _))
  replace HG := Lib.hid (hO7.keep (by omega) (HG.out.alloc _))
  replace HO := Lib.hid ((HO.out.alloc (.cells zbt.toArray 27)).over (Has.make w6 _ zbt) (by decide) hO7)
  replace B1 := Lib.hid (hO7.below (by omega) (B1.out.alloc B1.out.size _))
  clear hF7 hO7 hyl
  refine (put_bad _).mono ?_; rintro e w8 ⟨rfl, b8⟩
  replace HF := Lib.hid (HF.out.up b8)
  replace HA := Lib.hid (HA.out.up b8)
  replace HG := Lib.hid (HG.out.up b8)
  replace HO := Lib.hid (HO.out.up b8)
  replace B1 := Lib.hid (up_trans B1.out b8)
  clear b8
  have hw5 := HW5.out
  go_wp2_with (first
    | (refine wpList_load_wanted (by rfl) 27 _ rfl (w.heap.size + 1) (by rfl) _ _ _ _ HF.out hu rfl (by rw [hi, List.size_toArray, hxl]) ?_)
    | (refine wpList_load_wanted (by rfl) 27 _ rfl w4.heap.size (by rfl) _ _ _ _ HG.out hu rfl (by rw [hi, List.size_toArray, hxl]) ?_))
  refine (same_ex _ _ _ _ (Nat.le_refl _) hcap' _ (exSl HA.out) HO.out.slice.2.2).mono ?_; rintro e w9 ⟨rfl, b9⟩
  replace HF := Lib.hid (HF.out.up b9)
  replace B1 := Lib.hid (up_trans B1.out b9)
  clear b9
  go_wp2_with (refine wpList_load_wanted (by rfl) 27 _ rfl (w.heap.size + 1) (by rfl) _ _ _ _ HF.out hu rfl (by rw [hi, List.size_toArray, hxl]) ?_)
  refine (last_ex _ _ _).mono ?_; rintro e wa ⟨rfl, ba⟩
  go_wp2_with fail
  go_ret
  exact ⟨rfl, up_trans B1.out ba⟩

end Go.Proofs.YtalfmkgcelipdaaDoor
