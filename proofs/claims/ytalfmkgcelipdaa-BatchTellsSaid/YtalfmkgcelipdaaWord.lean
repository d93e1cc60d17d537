/- Words of 32 bits: what the model's operations on them come to, as plain functions of natural numbers, with no condition (each is cut to 32 bits). -/
import Derived.Test.YtalfmkgcelipdaaKit
import Derived.Laws.BitsAllLaws
namespace Go.Proofs.Ytalfmkgcelipdaa.Word

def p32 (a b : Nat) : Nat := (a + b) % 4294967296
def x32 (a b : Nat) : Nat := (a ^^^ b) % 4294967296
def a32 (a b : Nat) : Nat := (a &&& b) % 4294967296
def o32 (a b : Nat) : Nat := (a ||| b) % 4294967296
def n32 (a : Nat) : Nat := 4294967295 - a % 4294967296
def l32 (a k : Nat) : Nat := a * 2 ^ min k 32 % 4294967296
def r32 (a k : Nat) : Nat := a / 2 ^ min k 32

theorem p32_lt (a b : Nat) : p32 a b < 4294967296 := Nat.mod_lt _ (by omega)
theorem x32_lt (a b : Nat) : x32 a b < 4294967296 := Nat.mod_lt _ (by omega)
theorem o32_lt (a b : Nat) : o32 a b < 4294967296 := Nat.mod_lt _ (by omega)
theorem o32_comm (a b : Nat) : o32 a b = o32 b a := by unfold o32; rw [Nat.or_comm]

theorem ofInt_mod (a : Nat) : (BitVec.ofInt 32 (a : Int)).toNat = a % 4294967296 := by
  rw [BitVec.ofInt_natCast, BitVec.toNat_ofNat]

theorem wrap_add (a b : Nat) : IntKind.u32.wrap ((a : Int) + (b : Int)) = ((p32 a b : Nat) : Int) := by
  rw [IntKind.wrap_u32']; unfold p32; omega

theorem mod_lt32 (x : Nat) (h : x < 2 ^ 32) : IntKind.u32.wrap ((x : Nat) : Int) = (x : Int) := by
  rw [IntKind.wrap_u32']; omega

theorem bits_xor (a b : Nat) : bits .xor .u32 (a : Int) (b : Int) = ((x32 a b : Nat) : Int) := by
  show IntKind.u32.wrap ((BitVec.ofInt 32 (a : Int) ^^^ BitVec.ofInt 32 (b : Int)).toNat : Int) = _
  have hx : x32 a b = a % 2 ^ 32 ^^^ b % 2 ^ 32 := Nat.xor_mod_two_pow (n := 32)
  rw [BitVec.toNat_xor, ofInt_mod, ofInt_mod, hx]
  exact mod_lt32 _ (Nat.xor_lt_two_pow (Nat.mod_lt _ (by omega)) (Nat.mod_lt _ (by omega)))

theorem bits_and (a b : Nat) : bits .and .u32 (a : Int) (b : Int) = ((a32 a b : Nat) : Int) := by
  show IntKind.u32.wrap ((BitVec.ofInt 32 (a : Int) &&& BitVec.ofInt 32 (b : Int)).toNat : Int) = _
  have hx : a32 a b = a % 2 ^ 32 &&& b % 2 ^ 32 := Nat.and_mod_two_pow (n := 32)
  rw [BitVec.toNat_and, ofInt_mod, ofInt_mod, hx]
  exact mod_lt32 _ (Nat.and_lt_two_pow _ (Nat.mod_lt _ (by omega)))

theorem bits_or (a b : Nat) : bits .or .u32 (a : Int) (b : Int) = ((o32 a b : Nat) : Int) := by
  show IntKind.u32.wrap ((BitVec.ofInt 32 (a : Int) ||| BitVec.ofInt 32 (b : Int)).toNat : Int) = _
  have hx : o32 a b = a % 2 ^ 32 ||| b % 2 ^ 32 := Nat.or_mod_two_pow (n := 32)
  rw [BitVec.toNat_or, ofInt_mod, ofInt_mod, hx]
  exact mod_lt32 _ (Nat.or_lt_two_pow (Nat.mod_lt _ (by omega)) (Nat.mod_lt _ (by omega)))

theorem wrap_less (a : Nat) : IntKind.u32.wrap (4294967295 - (a : Int)) = ((n32 a : Nat) : Int) := by
  rw [IntKind.wrap_u32']; unfold n32; omega

theorem bits_not (a : Nat) : bits .xor .u32 IntKind.u32.max (a : Int) = ((n32 a : Nat) : Int) := by
  have h := bits_xor 4294967295 a
  have hm : IntKind.u32.max = ((4294967295 : Nat) : Int) := rfl
  rw [hm, h]
  congr 1
  have h1 : x32 4294967295 a = 4294967295 % 2 ^ 32 ^^^ a % 2 ^ 32 := Nat.xor_mod_two_pow (n := 32)
  have h2 : (2 ^ 32 - 1 - a % 2 ^ 32) = (2 ^ 32 - 1) ^^^ a % 2 ^ 32 := by
    have := BitVec.toNat_not (x := BitVec.ofNat 32 a)
    have h3 : (~~~ BitVec.ofNat 32 a) = BitVec.ofNat 32 4294967295 ^^^ BitVec.ofNat 32 a := by
      have := BitVec.allOnes_xor (x := BitVec.ofNat 32 a)
      rw [← this]; rfl
    rw [h3, BitVec.toNat_xor, BitVec.toNat_ofNat, BitVec.toNat_ofNat] at this
    exact this.symm
  unfold n32
  rw [h1]
  exact h2.symm

theorem shl_nat (a k : Nat) (yk : IntKind) : Op.shift .shl .u32 (a : Int) yk (k : Int) = pure (.int .u32 ((l32 a k : Nat) : Int)) := by
  have h : ¬ ((k : Int) < 0) := by omega
  have e : IntKind.u32.wrap ((a : Int) * 2 ^ min k 32) = ((l32 a k : Nat) : Int) := by
    rw [IntKind.wrap_u32']; unfold l32
    simp
  simp [Op.shift, h, IntKind.bits, e]

theorem shr_nat (a k : Nat) (yk : IntKind) : Op.shift .shr .u32 (a : Int) yk (k : Int) = pure (.int .u32 ((r32 a k : Nat) : Int)) := by
  have h : ¬ ((k : Int) < 0) := by omega
  have hp : (0 : Int) ≤ 2 ^ min k 32 := Int.le_of_lt (Int.pow_pos (by decide))
  have e : (a : Int).fdiv (2 ^ min k 32) = ((r32 a k : Nat) : Int) := by
    rw [Int.fdiv_eq_ediv_of_nonneg _ hp]; unfold r32
    simp
  simp [Op.shift, h, IntKind.bits, e]

theorem wrap_byte (c : UInt8) : IntKind.u32.wrap (c.toNat : Int) = (c.toNat : Int) := by
  have := c.toNat_lt
  rw [IntKind.wrap_u32']; omega

/-- A byte of a text; 0, where there is none. -/
def bt (l : List UInt8) (i : Nat) : Nat := (l.getD i 0).toNat

theorem bt_lt (l : List UInt8) (i : Nat) : bt l i < 256 := (l.getD i 0).toNat_lt

theorem bt_of (s : ByteArray) (i : Nat) (h : i < s.size) : (s[i]).toNat = bt s.data.toList i := by
  have : i < s.data.toList.length := by simpa using h
  unfold bt
  rw [List.getD_eq_getElem?_getD, List.getElem?_eq_getElem this]; rfl

theorem wrap_bt (l : List UInt8) (i : Nat) : IntKind.u32.wrap (bt l i : Int) = (bt l i : Int) := wrap_byte _

theorem shl_lit (a k : Nat) (yk : IntKind) : Op.shift .shl .u32 (a : Int) yk (no_index (OfNat.ofNat k)) = pure (.int .u32 ((l32 a k : Nat) : Int)) := shl_nat a k yk
theorem shr_lit (a k : Nat) (yk : IntKind) : Op.shift .shr .u32 (a : Int) yk (no_index (OfNat.ofNat k)) = pure (.int .u32 ((r32 a k : Nat) : Int)) := shr_nat a k yk

end Go.Proofs.Ytalfmkgcelipdaa.Word
