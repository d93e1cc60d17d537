/- The other side's turn of a word, and its table of constants. -/
import Derived.Test.YtanjebmpjenmiaaDoorShaD
namespace Go.Proofs.YtanjebmpjenmiaaDoor
open Go.RowKit Word

attribute [local go_sem ↓] shl_nat shr_nat shl_lit shr_lit
attribute [local go_sem] wrap_add bits_xor bits_and bits_or wrap_less bits_not wrap_byte wrap_bt

theorem turn_any (n k : Nat) (h1 : 1 ≤ k) (h2 : k ≤ 31) (w : World) :
    Calls Tryd.prog 32 #[.int .u32 n, .int .i64 (k : Int)] w fun e w' => e = .returned (.int .u32 (rr n k : Nat)) ∧ ∃ m, w' = w.drewN m := by
  have e1 : IntKind.i64.wrap (32 - (k : Int)) = ((32 - k : Nat) : Int) := by rw [IntWalk.i64_in _ (by omega)]; omega
  have hj := Lib.hid (show rr n k = o32 (r32 n k) (l32 n (32 - k)) from o32_comm _ _)
  generalize 32 - k = j at *
  go_enter Tryd.func32, Tryd.ntmps32
  go_wp2_with fail
  go_quiet (fail)
  go_wp2_with fail
  go_ret
  exact ⟨by rw [hj.out]; rfl, _, rfl⟩

/-- The table, as the other side writes it. -/
def kcells : List Value := [.int .u32 1116352408, .int .u32 1899447441, .int .u32 3049323471, .int .u32 3921009573, .int .u32 961987163, .int .u32 1508970993, .int .u32 2453635748, .int .u32 2870763221, .int .u32 3624381080, .int .u32 310598401, .int .u32 607225278, .int .u32 1426881987, .int .u32 1925078388, .int .u32 2162078206, .int .u32 2614888103, .int .u32 3248222580, .int .u32 3835390401, .int .u32 4022224774, .int .u32 264347078, .int .u32 604807628, .int .u32 770255983, .int .u32 1249150122, .int .u32 1555081692, .int .u32 1996064986, .int .u32 2554220882, .int .u32 2821834349, .int .u32 2952996808, .int .u32 3210313671, .int .u32 3336571891, .int .u32 3584528711, .int .u32 113926993, .int .u32 338241895, .int .u32 666307205, .int .u32 773529912, .int .u32 1294757372, .int .u32 1396182291, .int .u32 1695183700, .int .u32 1986661051, .int .u32 2177026350, .int .u32 2456956037, .int .u32 2730485921, .int .u32 2820302411, .int .u32 3259730800, .int .u32 3345764771, .int .u32 3516065817, .int .u32 3600352804, .int .u32 4094571909, .int .u32 275423344, .int .u32 430227734, .int .u32 506948616, .int .u32 659060556, .int .u32 883997877, .int .u32 958139571, .int .u32 1322822218, .int .u32 1537002063, .int .u32 1747873779, .int .u32 1955562222, .int .u32 2024104815, .int .u32 2227730452, .int .u32 2361852424, .int .u32 2428436474, .int .u32 2756734187, .int .u32 3204031479, .int .u32 3329325298]
theorem kcells_at (t : Nat) (h : t < 64) : kcells[t]? = some (.int .u32 (kc t : Nat)) := by
  have e : kcells = (List.range 64).map fun t => Value.int .u32 ((kc t : Nat) : Int) := by kernel_rfl
  rw [e]
  simp [h]

set_option maxRecDepth 100000 in
theorem constant_any (t : Nat) (h : t < 64) (w : World) :
    Calls Tryd.prog 33 #[.int .i64 (t : Int)] w fun e w' => e = .returned (.int .u32 (kc t : Nat)) ∧ Below w.heap.size w w' := by
  have t0 : (0 : Int) ≤ (t : Int) := by omega
  have t1 : (t : Int) < 64 := by omega
  go_enter Tryd.func33, Tryd.ntmps33
  go_upto_region 2 with (fail)
  obtain ⟨w1, hw1⟩ : ∃ w1, w1 = w.alloc (.cells kcells.toArray 22) := ⟨_, rfl⟩
  have HA : Has w1 w.heap.size 22 kcells := by rw [hw1]; exact Has.make w _ _
  have HB : Below w.heap.size w w1 := by rw [hw1]; exact up_alloc (Below.refl _ _) _
  have hc := HA.at (kcells_at t h)
  refine (congrArg (Code.wp _ _ _ _) hw1).mp ?_
  clear hw1 HA
  go_wp2_with fail
  go_ret
  exact ⟨rfl, HB⟩

end Go.Proofs.YtanjebmpjenmiaaDoor
