/- The walk of the law CrcTurns: the sum of three texts of one length, bit by bit against one another, is their sums, likewise. -/
import Derived.Test.YtiekchlfoffnaaaCrcSummed
import Derived.WalkLawsBesides
import Derived.Deep.RegionHeld3
import Derived.Deep.AppendLies
import Derived.Deep.DrawnRows
import Derived.Laws.BytesArg
import Derived.Deep.QuietTactic
import Derived.BigQuiet
namespace Go.Proofs.Ytiekchlfoffnaaa
open Go.RowKit Crc

theorem info_u8 : (Try.prog.info? 5).map (fun i => (i.zero, i.size, i.bytes)) = some (some (.int .u8 0), 1, 1) := by kernel_rfl

theorem min_four (a b c : Nat) : ∃ n : Nat, n ≤ a ∧ n ≤ b ∧ n ≤ c ∧ n ≤ 2000 ∧
    ∀ W : World, (Builtin.min_ #[3, 3, 3, 3] 3 #[.int .i64 (a : Int), .int .i64 (b : Int), .int .i64 (c : Int), .int .i64 2000]).run Try.prog W = .ok (.int .i64 (n : Int)) W := by
  refine ⟨min (min (min a b) c) 2000, by omega, by omega, by omega, by omega, fun W => ?_⟩
  have h : ∀ x y : Nat, (if y < x then (y : Int) else (x : Int)) = ((min x y : Nat) : Int) := by
    intro x y
    split <;> omega
  have h2 : ∀ x : Nat, (if (2000 : Int) < (x : Int) then (2000 : Int) else (x : Int)) = ((min x 2000 : Nat) : Int) := by
    intro x
    split <;> omega
  simp [Builtin.min_, Builtin.min2, h, h2]

/-- What has been gathered of three texts, bit by bit against one another. -/
def turned (a b c : ByteArray) (k : Nat) : List UInt8 := zipX (zipX (a.data.toList.take k) (b.data.toList.take k)) (c.data.toList.take k)

theorem zipX_snoc (l m : List UInt8) (x y : UInt8) (h : l.length = m.length) : zipX (l ++ [x]) (m ++ [y]) = zipX l m ++ [x ^^^ y] := by
  induction l generalizing m with
  | nil => cases m with
    | nil => rfl
    | cons => simp at h
  | cons a l ih => cases m with
    | nil => simp at h
    | cons b m => simp only [List.cons_append, zipX]; rw [ih m (by simpa using h)]

theorem turned_succ (a b c : ByteArray) (k : Nat) (ha : k < a.size) (hb : k < b.size) (hc : k < c.size) :
    (turned a b c (k + 1)).map (fun x => Value.int .u8 x.toNat) = (turned a b c k).map (fun x => Value.int .u8 x.toNat) ++ [Value.int .u8 ((a[k].toNat ^^^ b[k].toNat ^^^ c[k].toNat : Nat) : Int)] := by
  have l : ∀ x : ByteArray, k < x.size → (x.data.toList.take k).length = k := fun x h => by simp; exact Nat.min_eq_left (Nat.le_of_lt h)
  have s : ∀ (x : ByteArray) (h : k < x.size), x.data.toList.take (k + 1) = x.data.toList.take k ++ [x[k]] := fun x h => by rw [List.take_succ_eq_append_getElem (by simpa using h)]; rfl
  unfold turned
  rw [s a ha, s b hb, s c hc, zipX_snoc _ _ _ _ (by rw [l a ha, l b hb]), zipX_snoc _ _ _ _ (by rw [zipX_length _ _ (by rw [l a ha, l b hb]), l a ha, l c hc])]
  simp

theorem turned_length (a b c : ByteArray) (k : Nat) (ha : k ≤ a.size) (hb : k ≤ b.size) (hc : k ≤ c.size) : (turned a b c k).length = k := by
  have l : ∀ x : ByteArray, k ≤ x.size → (x.data.toList.take k).length = k := fun x h => by simp; exact Nat.min_eq_left h
  unfold turned
  rw [zipX_length _ _ (by rw [zipX_length _ _ (by rw [l a ha, l b hb]), l a ha, l c hc]), zipX_length _ _ (by rw [l a ha, l b hb]), l a ha]

theorem own_text (v : Value) (k : Nat) (l : List UInt8) (hl : l.length = k) (B : Nat) (W : World) (h : W.ownsRow B 5 1 v k (l.map fun c => Value.int .u8 c.toNat)) :
    (convert 32 9 v).run Try.prog W = .ok (.string ⟨l.toArray⟩) W := by
  obtain ⟨h0, ⟨rfl, rfl⟩ | ⟨g, cap, cur, rfl, hg, hh, hn, hc, hs, ht⟩⟩ := h
  · obtain rfl : l = [] := List.length_eq_zero_iff.1 hl
    exact run_convert_bytes_nil W 32 5 Try.underlying32 Try.underlying5 0 0 9 Try.underlying9
  · subst hl
    refine run_convert_bytes_back (P := Try.prog) W 32 9 5 ⟨g, 0, none⟩ cap l Try.underlying32 Try.underlying5 Try.underlying9 ?_
    intro j hj
    have hadd : (⟨g, 0, none⟩ : Addr).add j = ⟨g, j, none⟩ := by unfold Addr.add; split <;> simp_all
    rw [hadd]
    have hcur : cur[j]? = some (Value.int .u8 l[j].toNat) := by
      have := congrArg (fun m => m[j]?) ht
      simp [hj] at this
      exact this
    simp [World.cell?, hh, hcur]

theorem own_below {B e s n : Nat} {v : Value} {xs : List Value} {W w1 : World} (h : W.ownsRow B e s v n xs) (hb : Below W.heap.size W w1) : w1.ownsRow B e s v n xs := by
  obtain ⟨h0, h1 | ⟨g, cap, cur, hv, hg, hh, hr⟩⟩ := h
  · exact ⟨h0, Or.inl h1⟩
  · exact ⟨h0, Or.inr ⟨g, cap, cur, hv, hg, (hb.block g (lt_of_block hh)).trans hh, hr⟩⟩

/-- A slice of bytes that the call itself made, under one name that no tactic opens. -/
structure OwnB (B : Nat) (v : Value) (k : Nat) (l : List UInt8) (W : World) : Prop where
  out : W.ownsRow B 5 1 v k (l.map fun c => Value.int .u8 c.toNat)
  len : l.length = k

theorem OwnB.text {B : Nat} {v : Value} {k : Nat} {l : List UInt8} {W : World} (h : OwnB B v k l W) : OwnB B v k l W ∧ (convert 32 9 v).run Try.prog W = .ok (.string ⟨l.toArray⟩) W :=
  ⟨h, own_text v k l h.len B W h.out⟩
theorem OwnB.below {B : Nat} {v : Value} {k : Nat} {l : List UInt8} {W w1 : World} (h : OwnB B v k l W) (hb : Below W.heap.size W w1) : OwnB B v k l w1 := ⟨own_below h.out hb, h.len⟩
theorem OwnB.alloc {B : Nat} {v : Value} {k : Nat} {l : List UInt8} {W : World} (h : OwnB B v k l W) (o : Obj) : OwnB B v k l (W.alloc o) := ⟨h.out.alloc o, h.len⟩
theorem OwnB.drew {B : Nat} {v : Value} {k : Nat} {l : List UInt8} {W : World} (h : OwnB B v k l W) : OwnB B v k l W.drew := ⟨h.out.drew, h.len⟩

attribute [local go_sem ↓] Go.wp_at_zero Go.wp_at_succ
set_option maxHeartbeats 3200000 in
set_option maxRecDepth 100000 in
theorem CrcTurns_walk (a0 : ByteArray) (a1 : ByteArray) (a2 : ByteArray) (z0 : a0.size ≤ 140737488351232) (_z1 : a1.size ≤ 140737488351232) (_z2 : a2.size ≤ 140737488351232) (w : World) :
    Calls Try.prog 6 #[.string a0, .string a1, .string a2] w fun e w' => e = .returned (.bool true) ∧ Below w.heap.size w w' := by
  obtain ⟨n, n0, n1, n2, nn, hmin⟩ := min_four a0.size a1.size a2.size
  obtain ⟨i0, hi, hz0, hz1, hz2⟩ := info_parts info_u8
  go_enter Try.func6, Try.ntmps6
  go_wp2_with fail
  obtain ⟨B, hB⟩ : ∃ B, B = w.heap.size := ⟨_, rfl⟩
  go_loopw [8, 9] (fun v i wr => ∃ k : Nat, k ≤ n ∧ i = .int .i64 k ∧ wr.ownsRow w.heap.size 5 1 v k ((turned a0 a1 a2 k).map fun c => Value.int .u8 c.toNat) ∧ Below w.heap.size w wr) (fun _ i _ => n - (intOf i).toNat)
  case atStart => exact ⟨0, by omega, rfl, World.ownsRow_nil _ _ _ _, Below.refl _ _⟩
  case round =>
    obtain ⟨k, hk, rfl, hown, hnx⟩ := hrel
    by_cases hlt : k < n
    · have b0 : (k : Int) < (a0.size : Int) := by omega
      have b1 : (k : Int) < (a1.size : Int) := by omega
      have b2 : (k : Int) < (a2.size : Int) := by omega
      have k0 : (0 : Int) ≤ (k : Int) := by omega
      have x1 := u8_xor_nat a0[k].toNat a1[k].toNat a0[k].toNat_lt a1[k].toNat_lt
      have x2 := u8_xor_nat (a0[k].toNat ^^^ a1[k].toNat) a2[k].toNat (Nat.xor_lt_two_pow (n := 8) a0[k].toNat_lt a1[k].toNat_lt) a2[k].toNat_lt
      have hS := Lib.hid (turned_succ a0 a1 a2 k (by omega) (by omega) (by omega))
      have hsz := hnx.size
      go_wp2_with fail
      go_region_held3 (fun _ => True) (trivial)
        ((refine step_append_lies _ (by rfl) _ _ _ (by rfl) w.heap.size 5 i0 _ 1 1 Try.underlying32 hi hz0 hz1 hz2 rfl (by omega) u8 k _ (by rfl) ((hown.alloc _).drew)
              ⟨wr.heap.size, 0, none⟩ 1 1 [.int .u8 ((a0[k].toNat ^^^ a1[k].toNat ^^^ a2[k].toNat : Nat) : Int)] (by rfl) (by rfl) (World.news_of_block (cs := #[.int .u8 ((a0[k].toNat ^^^ a1[k].toNat ^^^ a2[k].toNat : Nat) : Int)]) (t := 5) (fr := (0, 0)) (heap_alloc_new wr _)) (by simp [Value.oneCell'])
              (by omega) (by unfold maxLen; omega) (by omega) (by simp; omega) (wr.heap.size + 1) (by simp) ?_; intro gg cap w1 hown1 hgrow hat hlt))
      all_goals go_wp2_with fail
      all_goals go_roundw
      all_goals first
        | exact ⟨k + 1, by omega, by go_num, by rw [hS.out]; exact hown1, ((hnx.alloc hsz _).drew).grown hgrow (by simp; omega) (fun j hj => (hown.lt j hj).1)⟩
        | (simp [intOf]; omega)
    · obtain rfl : k = n := by omega
      have hlen := turned_length a0 a1 a2 k (by omega) (by omega) (by omega)
      have hq : (ByteArray.mk (turned a0 a1 a2 k).toArray).size ≤ maxLen := by
        show (turned a0 a1 a2 k).toArray.size ≤ maxLen
        unfold maxLen
        simp [hlen]; omega
      have he : ∀ x : ByteArray, (x.extract 0 k).size ≤ maxLen := by
        intro x
        unfold maxLen
        simp; omega
      have l : ∀ x : ByteArray, k ≤ x.size → (x.data.toList.take k).length = k := fun x h => by simp; exact Nat.min_eq_left h
      have x3 := u32_xor_nat (sumOf (a0.data.toList.take k)) (sumOf (a1.data.toList.take k)) (sumOf_lt _) (sumOf_lt _)
      have x4 := u32_xor_nat (sumOf (a0.data.toList.take k) ^^^ sumOf (a1.data.toList.take k)) (sumOf (a2.data.toList.take k)) (xor_lt (sumOf_lt _) (sumOf_lt _)) (sumOf_lt _)
      have HB := Lib.hid (show ((sumOf (turned a0 a1 a2 k) : Nat) : Int) == ((sumOf (a0.data.toList.take k) ^^^ sumOf (a1.data.toList.take k) ^^^ sumOf (a2.data.toList.take k) : Nat) : Int) from by
        rw [beq_iff_eq]
        unfold turned
        rw [sumOf_zip _ _ _ (by rw [l a0 n0, l a1 n1]) (by rw [l a0 n0, l a2 n2])])
      clear l
      have hO : OwnB w.heap.size u8 k (turned a0 a1 a2 k) wr := ⟨hown, hlen⟩
      have b0 : (k : Int) ≤ (a0.size : Int) := by omega
      have b1 : (k : Int) ≤ (a1.size : Int) := by omega
      have b2 : (k : Int) ≤ (a2.size : Int) := by omega
      go_wp2_with fail
      go_region_held3 (fun W => OwnB w.heap.size u8 k (turned a0 a1 a2 k) W ∧ (convert 32 9 u8).run Try.prog W = .ok (.string ⟨(turned a0 a1 a2 k).toArray⟩) W)
        (first | exact hO.drew.text | (go_split_ands; exact (OwnB.below (by assumption) (by assumption)).text) | (go_split_ands; exact (OwnB.alloc (by assumption) _).text))
        (first | (go_at_call 8; refine (summed_any _).mono ?_; rintro e w1 ⟨rfl, hb1⟩) | (go_at_call 9; refine (of_any _ ?_ _).mono ?_; (first | exact hq | exact he _); rintro e w' ⟨rfl, rfl⟩))
      go_wp2_with fail
      go_ret
      exact ⟨congrArg (fun b => Ending.returned (Value.bool b)) HB.out, by repeat (first | exact (hnx.drew).trans (hb1.mono hnx.size) | refine up_alloc ?_ _)⟩

end Go.Proofs.Ytiekchlfoffnaaa
