/- Texts, their bytes in memory, and what a call may leave of two blocks: small laws that every stage's walks use. -/
import Derived.Test.YthhcopeejhhpgaaDoorBase
import Derived.Test.YthhcopeejhhpgaaDoorMemory
import Derived.Test.YthhcopeejhhpgaaDoorWires
import Derived.Test.YthhcopeejhhpgaaDoorCrcs
import Derived.Lib.Hide
import Derived.Laws.IdiomCopy
namespace Go.Proofs.YthhcopeejhhpgaaDoor
open Go.RowKit Wire Crc

theorem fixed4 (n : Nat) (w : World) :
    Calls Tryd.prog 38 #[.int .u64 (n : Nat), .int .i64 4] w fun e w' => e = .returned (.string ⟨(fx n 4).toArray⟩) ∧ Below w.heap.size w w' := by
  have c := fixed_any n 4 w
  rw [show fxw n 4 = fx n 4 from fxw_yes (w := 4) (by omega) (by omega)] at c
  exact c

def zdig : List Value := bys (List.replicate 32 0)

theorem info_digest : (Tryd.prog.info? 23).map (·.size) = some 32 := by kernel_rfl

theorem crc_of (s : ByteArray) (hs : s.size ≤ maxLen) (w : World) : Calls Tryd.prog 39 #[.string s] w fun e w' => e = .returned (.int .u32 (sumOf s.data.toList : Nat)) ∧ Below w.heap.size w w' := by
  refine (of_any s hs w).mono ?_; rintro e w' ⟨rfl, rfl⟩
  exact ⟨rfl, up_alloc (Below.refl _ _) _⟩

theorem rcrc_sum (s : ByteArray) (hs : s.size ≤ maxLen) (w : World) : Calls Tryd.prog 46 #[.string s] w fun e w' => e = .returned (.int .u32 (sumOf s.data.toList : Nat)) ∧ Below w.heap.size w w' := by
  refine (refOf_any s hs w).mono ?_; rintro e w' ⟨rfl, rfl⟩
  exact ⟨rfl, Below.refl _ _⟩

theorem rfixed4 (n : Nat) (w : World) :
    Calls Tryd.prog 45 #[.int .u64 (n : Nat), .int .i64 4] w fun e w' => e = .returned (.string ⟨(fx n 4).toArray⟩) ∧ Below w.heap.size w w' := by
  have c := rfixed_any n 4 w
  rw [show fxw n 4 = fx n 4 from fxw_yes (w := 4) (by omega) (by omega)] at c
  exact c

set_option maxRecDepth 100000 in
theorem rbytes_any (p : List UInt8) (hp : p.length = 32) (w : World) :
    Calls Tryd.prog 41 #[.agg (bys p).toArray] w fun e w' => e = .returned (.string ⟨p.toArray⟩) ∧ Below w.heap.size w w' := by
  obtain ⟨L, hL⟩ : ∃ L, L = bys p := ⟨_, rfl⟩
  rw [← hL]
  have HX := Lib.hid (Has.make w 23 L)
  have HP := Lib.hid hp
  have HL := Lib.hid hL
  clear hp hL
  go_enter Tryd.func41, Tryd.ntmps41
  go_wp2_with fail
  go_loopw [3, 4] (fun v x wr => ∃ k : Nat, x = .int .i64 (k : Nat) ∧ k ≤ 32 ∧ OwnB (w.heap.size + 1) v (p.take k) wr ∧ Has wr w.heap.size 23 L ∧ w.heap.size + 1 ≤ wr.heap.size ∧ Below w.heap.size w wr) (fun _ x _ => 32 - (intOf x).toNat)
  case atStart => exact ⟨0, rfl, by omega, ⟨World.ownsRow_nil _ _ _ _⟩, HX.out, by simp, up_alloc (Below.refl _ _) _⟩
  case round =>
    clear HX
    obtain ⟨k, rfl, hk, hO, hX, hs, hb⟩ := hrel
    have HO := Lib.hid hO
    have HB := Lib.hid hb
    have HX := Lib.hid hX
    have HK := Lib.hid hk
    clear hO hb hX
    by_cases h : k < 32
    · have h0 : (0 : Int) ≤ (k : Int) := by omega
      have h1 : (k : Int) < 32 := by omega
      have hlt : k < p.length := by have := HP.out; omega
      obtain ⟨c, hc⟩ : ∃ c, p[k]? = some c := ⟨p[k], List.getElem?_eq_getElem hlt⟩
      have hcell : wr.cell? ⟨w.heap.size, k, none⟩ = some (.int .u8 (c.toNat : Nat)) := HX.out.at (by rw [HL.out]; simp [bys, hc])
      have HT := Lib.hid (show p.take (k + 1) = p.take k ++ [c] by rw [List.take_add_one, hc]; rfl)
      clear hc hlt hk
      go_wp2_with (refine wpList_push rfl (.tmp 9) (.tmp 13) rfl (w.heap.size + 1) _ (p.take k) (by rfl) (HO.out.alloc _) wr.heap.size 1 [c] (by rfl) (Has.make wr 5 (bys [c])) rfl (by omega) (by have := List.length_take_le k p; have := HK.out; omega) (by simp; omega) ?_; intro v' w' hO' hB')
      have hsz := hB'.size
      simp at hsz
      go_roundw
      case rel => exact ⟨k + 1, by go_num, by omega, by rw [HT.out]; exact hO', (HX.out.alloc _).below hB' (by omega), by omega, (up_alloc HB.out _).trans (hB'.mono (by simp <;> omega))⟩
      case measure => simp [intOf]; omega
    · have h1 : ¬ (k : Int) < 32 := by omega
      have HT := Lib.hid (show p.take k = p by rw [List.take_of_length_le]; have := HP.out; omega)
      have ht := HO.out.text
      rw [HT.out] at ht
      clear hk
      go_wp2_with fail
      go_ret
      exact ⟨rfl, HB.out⟩

end Go.Proofs.YthhcopeejhhpgaaDoor
