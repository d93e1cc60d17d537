/- Heads and supers: the contracts of header's small functions. -/
import Derived.Test.YtfnjegjieglbbaaText
import Derived.Test.YtfnjegjieglbbaaPureHead
import Derived.Test.YtfnjegjieglbbaaShelf
namespace Go.Proofs.Ytfnjegjieglbbaa
open Go.RowKit Wire Crc Head

/-- A head's cells, and a super's. -/
def hdc (h : Hd) : List Value := .int .u64 (h.id : Nat) :: .int .u64 (h.first : Nat) :: bys h.anchor
def spc (x : Sp) : List Value := .int .u64 (x.epoch : Nat) :: .int .u64 (x.tail : Nat) :: .int .u64 (x.first : Nat) :: (bys x.anchor ++ (.int .u64 (x.id : Nat) :: .int .u64 (x.fin : Nat) :: .int .u64 (x.next : Nat) :: bys x.sum))
theorem hdc_length {h : Hd} (hf : h.Fits) : (hdc h).length = 34 := by simp [hdc, bys_length, hf.anchor]
theorem spc_length {x : Sp} (hf : x.Fits) : (spc x).length = 70 := by simp [spc, bys_length, hf.anchor, hf.sum]
theorem info_head : (Try.prog.info? 26).map (·.size) = some 34 := by kernel_rfl
theorem info_super : (Try.prog.info? 34).map (·.size) = some 70 := by kernel_rfl
theorem hdc_one (h : Hd) : ∀ v ∈ hdc h, v.oneCell' = true := by
  intro v hv
  simp only [hdc, List.mem_cons] at hv
  rcases hv with rfl | rfl | hv
  · rfl
  · rfl
  · exact bys_one _ v hv
theorem spc_one (x : Sp) : ∀ v ∈ spc x, v.oneCell' = true := by
  intro v hv
  simp only [spc, List.mem_cons, List.mem_append] at hv
  rcases hv with rfl | rfl | rfl | hv | rfl | rfl | rfl | hv
  · rfl
  · rfl
  · rfl
  · exact bys_one _ v hv
  · rfl
  · rfl
  · rfl
  · exact bys_one _ v hv

/-- What a reader's method leaves: its text is l, all else is as it was. -/
structure MovedH (w w' : World) (g : Nat) (l : List UInt8) : Prop where
  has : Has w' g 50 [.string ⟨l.toArray⟩]
  only : Only2 w w' g g

theorem str_small (l : List UInt8) (h : l.length ≤ 20000) : (⟨l.toArray⟩ : ByteArray).size ≤ maxLen := by
  rw [text_list]; unfold maxLen; omega

set_option maxRecDepth 100000 in
theorem hnumber_any (g : Nat) (l : List UInt8) (hl : l.length ≤ 20000) (h8 : 8 ≤ l.length) (w : World) (hg : Has w g 50 [.string ⟨l.toArray⟩]) :
    Calls Try.prog 22 #[.pointer (some ⟨g, 0, none⟩)] w fun e w' => e = .returned (.int .u64 (be (l.take 8) : Nat)) ∧ MovedH w w' g (l.drop 8) := by
  have c := fun w => takeFixed_any ⟨l.toArray⟩ (str_small l hl) 8 w
  have e : tkf (⟨l.toArray⟩ : ByteArray).data.toList 8 = (be (l.take 8), l.drop 8, 0) := tkf_long (d := 8) (by omega) (by omega) h8
  rw [e] at c
  generalize be (l.take 8) = v at *
  generalize l.drop 8 = r at *
  have C := Lib.hid c
  have f1 := hg.at (i := 0) rfl
  have HG := Lib.hid hg
  clear c hg e
  go_enter Try.func22, Try.ntmps22
  go_wp2_with fail
  refine (C.out _).mono ?_; rintro e w1 ⟨rfl, b1⟩
  have G1 := Lib.hid (HG.out.up b1)
  have O1 := Lib.hid (Only2.up (g := g) (g2 := g) b1)
  clear b1
  have g1 := G1.out.at (i := 0) rfl
  have g2 := G1.out.free 0
  go_wp2_with fail
  go_ret
  exact ⟨rfl, G1.out.set 0 _, O1.out.set (Or.inl rfl) _⟩

set_option maxRecDepth 100000 in
theorem sumof_any (s : ByteArray) (hs : s.size ≤ maxLen) (w : World) :
    Calls Try.prog 20 #[.string s] w fun e w' => e = .returned (.string ⟨(fx (sumOf s.data.toList) 4).toArray⟩) ∧ Below w.heap.size w w' := by
  have C := Lib.hid (fun w => crc_of s hs w)
  have F := Lib.hid (fun w => fixed4 (sumOf s.data.toList) w)
  have hk := sumOf_lt s.data.toList
  generalize sumOf s.data.toList = k at *
  have hv : IntKind.u64.wrap (k : Int) = (k : Int) := by rw [IntKind.wrap_u64]; omega
  go_enter Try.func20, Try.ntmps20
  go_wp2_with fail
  refine (C.out _).mono ?_; rintro e w1 ⟨rfl, b1⟩
  go_wp2_with fail
  refine (F.out _).mono ?_; rintro e w2 ⟨rfl, b2⟩
  go_wp2_with fail
  go_ret
  exact ⟨rfl, up_trans b1 b2⟩

theorem rep_zero : ∀ n, Lib.repeatL [0] n = List.replicate n 0
  | 0 => rfl
  | n + 1 => by rw [Lib.repeatL, rep_zero n]; rfl

set_option maxRecDepth 100000 in
theorem zeros_any (n : Nat) (hn : n ≤ 20000) (w : World) :
    Calls Try.prog 25 #[.int .i64 (n : Nat)] w fun e w' => e = .returned (.string ⟨(List.replicate n 0).toArray⟩) ∧ Below w.heap.size w w' := by
  have c := fun w => Try.strings_Repeat ⟨#[0]⟩ n w (by omega) (by show 1 * n ≤ _; omega)
  have e : Lib.repeatL (⟨#[0]⟩ : ByteArray).data.toList n = List.replicate n 0 := rep_zero n
  simp only [e] at c
  have C := Lib.hid c
  clear c e
  go_enter Try.func25, Try.ntmps25
  go_wp2_with fail
  refine (C.out _).mono ?_; rintro e w1 ⟨rfl, b1⟩
  go_wp2_with fail
  go_ret
  exact ⟨rfl, b1⟩

/-- What header.marked tells. -/
def markL (l : List UInt8) (n : Nat) (m : UInt8) : List UInt8 × Nat := if l.length < n then ([], 4) else if l.headD 0 ≠ m then ([], 3) else (l.take n, 0)

set_option maxRecDepth 100000 in
theorem marked_any (s : ByteArray) (hs : s.size ≤ maxLen) (n : Nat) (hn : 1 ≤ n) (hn2 : n ≤ 1000) (m : UInt8) (w : World) :
    Calls Try.prog 19 #[.string s, .int .i64 (n : Nat), .int .u8 (m.toNat : Nat)] w fun e w' => e = .returned (.tuple #[.string ⟨(markL s.data.toList n m).1.toArray⟩, .int .i64 ((markL s.data.toList n m).2 : Nat)]) ∧ w = w' := by
  unfold maxLen at hs
  have hsz := list_size s
  by_cases h : s.size < n
  · have E := Lib.hid (show markL s.data.toList n m = ([], 4) by rw [markL, if_pos (by omega)])
    have h' : (s.size : Int) < (n : Int) := by omega
    clear h
    go_enter Try.func19, Try.ntmps19
    go_wp2_with fail
    go_ret2
    exact ⟨by rw [E.out]; rfl, rfl⟩
  have h' : ¬ (s.size : Int) < (n : Int) := by omega
  have h0 : (0 : Int) < (s.size : Int) := by omega
  have h00 : 0 < s.size := by omega
  have hc := list_cons s h00
  by_cases h1 : s[0] = m
  · have E := Lib.hid (show markL s.data.toList n m = (s.data.toList.take n, 0) by rw [markL, if_neg (by omega), if_neg (by rw [hc]; simpa using h1)])
    have F := Lib.hid (head_of s n)
    have d : ((s[0].toNat : Int) != (m.toNat : Int)) = false := by rw [h1]; simp
    have e1 : (0 : Int) ≤ (n : Int) := by omega
    have e2 : (n : Int) ≤ (s.size : Int) := by omega
    clear h h1 hc
    go_enter Try.func19, Try.ntmps19
    go_wp2_with fail
    go_ret2
    exact ⟨by rw [E.out, F.out]; rfl, rfl⟩
  · have E := Lib.hid (show markL s.data.toList n m = ([], 3) by rw [markL, if_neg (by omega), if_pos (by rw [hc]; simpa using h1)])
    have d : ((s[0].toNat : Int) != (m.toNat : Int)) = true := by
      rw [bne_iff_ne]
      intro he
      exact h1 (UInt8.toNat_inj.1 (by omega))
    clear h h1 hc
    go_enter Try.func19, Try.ntmps19
    go_wp2_with fail
    go_ret2
    exact ⟨by rw [E.out]; rfl, rfl⟩

theorem fixed8 (n : Nat) (w : World) :
    Calls Try.prog 34 #[.int .u64 (n : Nat), .int .i64 8] w fun e w' => e = .returned (.string ⟨(fx n 8).toArray⟩) ∧ Below w.heap.size w w' := by
  have c := fixed_any n 8 w
  rw [show fxw n 8 = fx n 8 from fxw_yes (w := 8) (by omega) (by omega)] at c
  exact c

theorem flat_len (l : List Nat) : (l.flatMap (fx · 8)).length = 8 * l.length := by
  induction l with
  | nil => rfl
  | cons a l ih => simp [fx_length, ih]; omega

set_option maxHeartbeats 1000000 in
set_option maxRecDepth 100000 in
theorem lay_any (m : UInt8) (l : List Nat) (hl : l.length ≤ 1000) (g cap : Nat) (w : World) (hg : Has w g 22 (nums .u64 l)) :
    Calls Try.prog 29 #[.int .u8 (m.toNat : Nat), .slice (some ⟨g, 0, none⟩) l.length cap] w fun e w' => e = .returned (.string ⟨(m :: l.flatMap (fx · 8)).toArray⟩) ∧ Below w.heap.size w w' := by
  have HG := Lib.hid hg
  have h1 : (convert 43 9 (.slice (some ⟨w.heap.size, 0, none⟩) 1 1)).run Try.prog (w.alloc (.cells #[.int .u8 (m.toNat : Nat)] 5)) = .ok (.string ⟨#[m]⟩) (w.alloc (.cells #[.int .u8 (m.toNat : Nat)] 5)) :=
    bytes_text (w.alloc (.cells (bys [m]).toArray 5)) w.heap.size 0 1 [m] (Has.make w 5 (bys [m])).whole
  have B0 := Lib.hid (up_alloc (Below.refl w.heap.size w) (.cells (bys [m]).toArray 5))
  clear hg
  go_enter Try.func29, Try.ntmps29
  go_wp2_with fail
  go_loopw [5, 13] (fun x i wr => ∃ k : Nat, i = .int .i64 (k : Nat) ∧ k ≤ l.length ∧ x = .string ⟨(m :: (l.take k).flatMap (fx · 8)).toArray⟩ ∧ Below w.heap.size w wr) (fun _ i _ => l.length - (intOf i).toNat)
  case atStart => exact ⟨0, rfl, by omega, rfl, B0.out⟩
  case round =>
    obtain ⟨k, rfl, hk, rfl, hb⟩ := hrel
    by_cases hlt : k < l.length
    · obtain ⟨n, hn⟩ : ∃ n, l[k]? = some n := ⟨l[k], List.getElem?_eq_getElem hlt⟩
      have hcell := (HG.out.up hb).at (i := k) (v := .int .u64 (n : Nat)) (by simp [nums, hn])
      have h0 : (0 : Int) ≤ (k : Int) := by omega
      have h2 : (k : Int) < (l.length : Int) := by omega
      have HT := Lib.hid (show m :: (l.take (k + 1)).flatMap (fx · 8) = (m :: (l.take k).flatMap (fx · 8)) ++ fx n 8 by rw [List.take_add_one, hn]; simp)
      obtain ⟨T, hT⟩ : ∃ T : ByteArray, T = ⟨(m :: (l.take k).flatMap (fx · 8)).toArray⟩ := ⟨_, rfl⟩
      have zT : T.size ≤ 8001 := by
        rw [hT, text_list, List.length_cons, flat_len, List.length_take]; omega
      obtain ⟨F, hF⟩ : ∃ F : ByteArray, F = ⟨(fx n 8).toArray⟩ := ⟨_, rfl⟩
      have zF : F.size = 8 := by rw [hF, text_list, fx_length]
      have c1 := fun w => fixed8 n w
      rw [← hF] at c1
      have C1 := Lib.hid c1
      rw [← hT]
      have E := Lib.hid (show T ++ F = ⟨(m :: (l.take (k + 1)).flatMap (fx · 8)).toArray⟩ by rw [HT.out, hT, hF]; rfl)
      have hov : ¬ 9223372036854775807 < T.size + F.size := by omega
      have HB := Lib.hid hb
      clear c1 hT zT hF zF hb hn B0 h1 HT
      go_wp2_with fail
      refine (C1.out _).mono ?_; rintro e w2 ⟨rfl, b2⟩
      go_wp2_with fail
      go_roundw
      case rel => exact ⟨k + 1, by go_num, by omega, by rw [← E.out], up_trans HB.out b2⟩
      case measure => simp [intOf]; omega
    · have h2 : ¬ (k : Int) < (l.length : Int) := by omega
      have HT := Lib.hid (show l.take k = l by rw [List.take_of_length_le]; omega)
      go_wp2_with fail
      go_ret
      exact ⟨by rw [HT.out]; rfl, hb⟩

set_option maxRecDepth 100000 in
theorem newer_any (x y : Sp) (w : World) :
    Calls Try.prog 18 #[.agg (spc x).toArray, .agg (spc y).toArray] w fun e w' => e = .returned (.bool (decide (y.epoch < x.epoch))) ∧ Below w.heap.size w w' := by
  have L1 : (spc x)[0]? = some (.int .u64 (x.epoch : Nat)) := rfl
  have L2 : (spc y)[0]? = some (.int .u64 (y.epoch : Nat)) := rfl
  generalize spc x = L at *
  generalize spc y = M at *
  have B1 := Lib.hid (up_alloc (up_alloc (Below.refl w.heap.size w) (.cells L.toArray 34)) (.cells M.toArray 34))
  have hd : decide ((y.epoch : Int) < (x.epoch : Int)) = decide (y.epoch < x.epoch) := by simp
  go_enter Try.func18, Try.ntmps18
  go_wp2_with fail
  go_ret
  exact ⟨by rw [← hd]; rfl, B1.out⟩

end Go.Proofs.Ytfnjegjieglbbaa
