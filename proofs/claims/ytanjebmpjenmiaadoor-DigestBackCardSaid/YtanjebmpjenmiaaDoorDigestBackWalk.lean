/- The walk of the law DigestBack: what is told is read again; a text that is read is what would be told of it. -/
import Derived.Test.YtanjebmpjenmiaaDoorHashed
import Derived.Test.YtanjebmpjenmiaaDoorBackP
import Derived.Test.YtanjebmpjenmiaaDoorRowEq
import Derived.Test.YtanjebmpjenmiaaDoorMem2
namespace Go.Proofs.YtanjebmpjenmiaaDoor
open Go.RowKit Word

set_option maxHeartbeats 1600000 in
set_option maxRecDepth 100000 in
theorem DigestBack_core (l : List Nat) (hl : l.length = 32) (hb : ∀ n ∈ l, n < 256) (s : ByteArray) (hs : s.size ≤ maxLen) (w : World) (hT : Tab w) :
    Calls Tryd.prog 5 #[.agg (nums .u8 l).toArray, .string s] w fun e w' => e = .returned (.bool true) ∧ Below w.heap.size w w' := by
  have HT := Lib.hid hT
  have HRH := Lib.hid (read_hex l hl hb)
  have HL := Lib.hid hl
  have HS := Lib.hid hs
  have HBb := Lib.hid hb
  have hHs : (ByteArray.mk (hexOf l).toArray).size = 64 := by
    show (hexOf l).toArray.size = 64
    simp [hexOf_length, hl]
  have HHs := Lib.hid (show (ByteArray.mk (hexOf l).toArray).size ≤ maxLen by rw [hHs]; unfold maxLen; omega)
  have hi : (Tryd.prog.info? 29).map (·.size) = some 32 := by kernel_rfl
  have hu := Tryd.underlying29
  have hnl : (nums .u8 l).length = 32 := by rw [nums_length, hl]
  have hq := neq_sums l hl
  clear hT hl hs hb hHs
  go_enter Tryd.func5, Tryd.ntmps5
  go_wp2_with (refine wpList_load_row rfl 29 _ rfl w.heap.size (by rfl) _ _ _ _ (Has.make w 29 (nums .u8 l)) hu rfl (by rw [hi]; simp [hnl]) ?_)
  have HA := Lib.hid (Has.make w 29 (nums .u8 l))
  have HB0 := Lib.hid (up_alloc (Below.refl w.heap.size w) (.cells (nums .u8 l).toArray 29))
  refine (dhex_any l HL.out HBb.out _).mono ?_; rintro e w1 ⟨rfl, hb1⟩
  replace HA := Lib.hid (HA.out.up hb1)
  replace HB0 := Lib.hid (HB0.out.trans (hb1.mono HB0.out.size))
  clear hb1
  go_wp2_with fail
  refine (dread_any ⟨(hexOf l).toArray⟩ HHs.out _).mono ?_; rintro e w2 ⟨rfl, hb2⟩
  rw [show (ByteArray.mk (hexOf l).toArray).data.toList = hexOf l from by simp, HRH.out.1, HRH.out.2]
  replace HA := Lib.hid (HA.out.up hb2)
  replace HB0 := Lib.hid (HB0.out.trans (hb2.mono HB0.out.size))
  clear hb2
  have hz32 : (nums .u8 (zeroes 32)).length = 32 := by simp [nums, zeroes]
  go_wp2_with (refine wpList_store_whole rfl 29 _ _ rfl w2.heap.size 29 (nums .u8 (zeroes 32)) (nums .u8 l) (by rfl) (by rfl) (Has.make w2 _ _) (by rw [hnl, hz32]) (by rw [hi, hnl]) (nums_one _ _) ?_; intro w3 hF3 hO3)
  have hlt : w.heap.size < w2.heap.size := HA.out.lt
  have HF := Lib.hid hF3
  replace HA := Lib.hid (hO3.keep (by omega) (HA.out.alloc _))
  replace HB0 := Lib.hid (hO3.below HB0.out.size (HB0.out.alloc HB0.out.size _))
  clear hF3 hO3
  refine (dread_any s HS.out _).mono ?_; rintro e w4 ⟨rfl, hb4⟩
  replace HF := Lib.hid (HF.out.up hb4)
  replace HA := Lib.hid (HA.out.up hb4)
  replace HB0 := Lib.hid (HB0.out.trans (hb4.mono HB0.out.size))
  clear hb4
  have HRl := Lib.hid (rdv_length s.data.toList)
  have hrl : (nums .u8 (rdv s.data.toList)).length = 32 := by rw [nums_length, HRl.out]
  have hlt4 : w2.heap.size < w4.heap.size := HF.out.lt
  have hgood := Bool.eq_false_or_eq_true (good s.data.toList)
  have hq5 := eql_sums (zeroes 32) (by simp [zeroes])
  have HX := Lib.hid (rdv_small s.data.toList)
  have HR1 := Lib.hid (show good s.data.toList = true → rde s.data.toList = 0 ∧ hexOf (rdv s.data.toList) = s.data.toList from fun h => ⟨(rdv_good h).2, hex_read _ h⟩)
  have HR2 := Lib.hid (show good s.data.toList = false → rde s.data.toList = 3 ∧ rdv s.data.toList = zeroes 32 from fun h => ⟨(rdv_bad h).2, (rdv_bad h).1⟩)
  generalize rdv s.data.toList = r at *
  generalize rde s.data.toList = re at *
  go_wp2_with (first
    | (refine wpList_store_whole rfl 29 _ _ rfl w4.heap.size 29 (nums .u8 (zeroes 32)) (nums .u8 r) (by rfl) (by rfl) (Has.make w4 _ _) (by rw [hrl, hz32]) (by rw [hi, hrl]) (nums_one _ _) ?_
       intro w5 hF5 hO5
       have HG := Lib.hid hF5
       replace HF := Lib.hid (hO5.keep (by omega) (HF.out.alloc _))
       replace HA := Lib.hid (hO5.keep (by omega) (HA.out.alloc _))
       replace HB0 := Lib.hid (hO5.below HB0.out.size (HB0.out.alloc HB0.out.size _))
       clear hF5 hO5)
    | (refine wpList_load_wanted (by rfl) 29 _ rfl w2.heap.size (by rfl) _ _ _ _ HF.out hu rfl (by rw [hi]; simp [hnl]) ?_)
    | (refine wpList_load_wanted (by rfl) 29 _ rfl w.heap.size (by rfl) _ _ _ _ HA.out hu rfl (by rw [hi]; simp [hnl]) ?_)
    | (refine wpList_load_wanted (by rfl) 29 _ rfl w4.heap.size (by rfl) _ _ _ _ HG.out hu rfl (by rw [hi]; simp [hrl]) ?_))
  refine (hashed_any _ (tab_up HT.out HB0.out)).mono ?_; rintro e w6 ⟨rfl, hb6⟩
  replace HG := Lib.hid (HG.out.up hb6)
  replace HB0 := Lib.hid (HB0.out.trans (hb6.mono HB0.out.size))
  clear hb6
  rcases hgood with hg | hg
  · obtain ⟨hre, hx⟩ := HR1.out hg
    subst hre
    have HXs := Lib.hid (show ByteArray.mk (hexOf r).toArray = s by rw [hx])
    clear hx hg
    go_wp2_with (refine wpList_load_wanted (by rfl) 29 _ rfl w4.heap.size (by rfl) _ _ _ _ HG.out hu rfl (by rw [hi]; simp [hrl]) ?_)
    refine (dhex_any r HRl.out HX.out _).mono ?_; rintro e w7 ⟨rfl, hb7⟩
    rw [HXs.out]
    go_wp2_with fail
    go_ret
    exact ⟨rfl, HB0.out.trans (hb7.mono HB0.out.size)⟩
  · obtain ⟨hre, hx⟩ := HR2.out hg
    subst hre
    subst hx
    have hq6 : ∀ w : World, (Op.equalIn 10000 29 (.agg (nums .u8 (zeroes 32)).toArray) (.agg #[.int .u8 0, .int .u8 0, .int .u8 0, .int .u8 0, .int .u8 0, .int .u8 0, .int .u8 0, .int .u8 0, .int .u8 0, .int .u8 0, .int .u8 0, .int .u8 0, .int .u8 0, .int .u8 0, .int .u8 0, .int .u8 0, .int .u8 0, .int .u8 0, .int .u8 0, .int .u8 0, .int .u8 0, .int .u8 0, .int .u8 0, .int .u8 0, .int .u8 0, .int .u8 0, .int .u8 0, .int .u8 0, .int .u8 0, .int .u8 0, .int .u8 0, .int .u8 0])).run Tryd.prog w = .ok true w := eql_zero
    clear hg
    go_wp2_with (refine wpList_load_wanted (by rfl) 29 _ rfl w4.heap.size (by rfl) _ _ _ _ HG.out hu rfl (by rw [hi]; simp [hrl]) ?_)
    go_ret
    exact ⟨rfl, HB0.out⟩

end Go.Proofs.YtanjebmpjenmiaaDoor
