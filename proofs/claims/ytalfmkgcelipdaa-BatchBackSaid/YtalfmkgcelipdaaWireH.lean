/- Texts: contracts of wire.Text, wire.TakeText and the document's own. -/
import Derived.Test.YtalfmkgcelipdaaWireB
import Derived.Test.YtalfmkgcelipdaaWireD
import Derived.Test.YtalfmkgcelipdaaWireE
namespace Go.Proofs.Ytalfmkgcelipdaa
open Go.RowKit Wire

theorem txt_no {t : List UInt8} (h : 65536 < t.length) : txt t = ([], 2) := by rw [txt, if_pos h]
theorem txt_yes {t : List UInt8} (h : t.length ≤ 65536) : txt t = (putL t.length ++ t, 0) := by rw [txt, if_neg (by omega)]
theorem tkt_err {s : List UInt8} (h : (tk s).2.2 ≠ 0) : tkt s = ([], [], (tk s).2.2) := by rw [tkt, if_pos h]
theorem tkt_big {s : List UInt8} (h : (tk s).2.2 = 0) (h2 : 65536 < (tk s).1) : tkt s = ([], [], 2) := by rw [tkt, if_neg (by simpa using h), if_pos h2]
theorem tkt_cut {s : List UInt8} (h : (tk s).2.2 = 0) (h2 : (tk s).1 ≤ 65536) : tkt s = cutL (tk s).2.1 (tk s).1 := by rw [tkt, if_neg (by simpa using h), if_neg (by omega)]

theorem joined (l : List UInt8) (s : ByteArray) : (⟨l.toArray⟩ : ByteArray) ++ s = ⟨(l ++ s.data.toList).toArray⟩ := by
  apply ByteArray.ext
  simp

set_option maxRecDepth 100000 in
theorem text_any (s : ByteArray) (hs : s.size ≤ maxLen) (w : World) :
    Calls Try.prog 39 #[.string s] w fun e w' => e = .returned (.tuple #[.string ⟨(txt s.data.toList).1.toArray⟩, .int .i64 ((txt s.data.toList).2 : Nat)]) ∧ Below w.heap.size w w' := by
  unfold maxLen at hs
  by_cases h : 65536 < s.size
  · have R := Lib.hid (txt_no (t := s.data.toList) (by simpa using h))
    have h' : (65536 : Int) < (s.size : Int) := by omega
    go_enter Try.func39, Try.ntmps39
    go_wp2_with fail
    go_ret2
    exact ⟨by rw [R.out]; rfl, Below.refl _ _⟩
  · have hl : s.data.toList.length = s.size := by simp
    have R := Lib.hid (txt_yes (t := s.data.toList) (by omega))
    rw [hl] at R
    have h' : (s.size : Int) ≤ 65536 := by omega
    have J := Lib.hid (joined (putL s.size) s)
    have hp := putL_ten (n := s.size) (by omega)
    have hj : ¬ 9223372036854775807 < (putL s.size).length + s.size := by omega
    clear hl
    go_enter Try.func39, Try.ntmps39
    go_wp2_with (go_at_call 37; refine (put_any s.size (by omega) _).mono ?_; rintro e w' ⟨rfl, hb⟩)
    go_ret2
    exact ⟨by rw [R.out, ← J.out]; rfl, hb⟩

set_option maxHeartbeats 800000 in
set_option maxRecDepth 100000 in
theorem takeText_any (s : ByteArray) (hs : s.size ≤ maxLen) (w : World) :
    Calls Try.prog 49 #[.string s] w fun e w' => e = .returned (.tuple #[.string ⟨(tkt s.data.toList).1.toArray⟩, .string ⟨(tkt s.data.toList).2.1.toArray⟩, .int .i64 ((tkt s.data.toList).2.2 : Nat)]) ∧ Below w.heap.size w w' := by
  obtain ⟨v, r, e, hv⟩ : ∃ v r e, tk s.data.toList = (v, r, e) := ⟨_, _, _, rfl⟩
  have c := fun w => take_any s hs w
  rw [hv] at c
  simp only at c
  have C := Lib.hid c
  have hvl := tk_lt s.data.toList
  have hel := tk_err s.data.toList
  rw [hv] at hvl hel
  simp only at hvl hel
  unfold maxLen at hs
  clear c
  by_cases h0 : e = 0
  · subst h0
    by_cases h2 : 65536 < v
    · have R := Lib.hid (tkt_big (s := s.data.toList) (by rw [hv]) (by rw [hv]; exact h2))
      have h2' : (65536 : Int) < (v : Int) := by omega
      clear hv
      go_enter Try.func49, Try.ntmps49
      go_wp2_with (go_at_call 48; refine (C.out _).mono ?_; rintro e w1 ⟨rfl, hb⟩)
      go_ret3
      exact ⟨by rw [R.out]; rfl, hb⟩
    · have h2' : (v : Int) ≤ 65536 := by omega
      have h0 : True := trivial
      have ha := tk_len s.data.toList
      rw [hv] at ha
      have hr : (⟨r.toArray⟩ : ByteArray).size ≤ maxLen := by
        show r.toArray.size ≤ maxLen
        unfold maxLen
        simp at ha ⊢
        omega
      have HR := Lib.hid hr
      have E := Lib.hid (tkt_cut (s := s.data.toList) (by rw [hv]) (by rw [hv]; exact Nat.le_of_not_lt h2))
      rw [hv] at E
      simp only at E
      have HV := Lib.hid hvl
      clear hr ha h0
      clear hv
      go_enter Try.func49, Try.ntmps49
      go_wp2_with (first | (go_at_call 48; refine (C.out _).mono ?_; rintro e w1 ⟨rfl, hb⟩) | (go_at_call 58; refine (cutu_any _ HR.out v (by omega) _).mono ?_; rintro e w2 ⟨rfl, hb2⟩))
      go_ret3
      exact ⟨by rw [E.out]; rfl, hb.trans (hb2.mono hb.size)⟩
  · have R := Lib.hid (tkt_err (s := s.data.toList) (by rw [hv]; exact h0))
    rw [hv] at R
    have h0' : ((e : Int) != 0) = true := by rw [bne_iff_ne]; omega
    clear hv h0
    go_enter Try.func49, Try.ntmps49
    go_wp2_with (go_at_call 48; refine (C.out _).mono ?_; rintro e w1 ⟨rfl, hb⟩)
    go_ret3
    exact ⟨by rw [R.out]; rfl, hb⟩

set_option maxHeartbeats 800000 in
set_option maxRecDepth 100000 in
theorem rtakeText_any (s : ByteArray) (hs : s.size ≤ maxLen) (w : World) :
    Calls Try.prog 33 #[.string s] w fun e w' => e = .returned (.tuple #[.string ⟨(tkt s.data.toList).1.toArray⟩, .string ⟨(tkt s.data.toList).2.1.toArray⟩, .int .i64 ((tkt s.data.toList).2.2 : Nat)]) ∧ Below w.heap.size w w' := by
  obtain ⟨v, r, e, hv⟩ : ∃ v r e, tk s.data.toList = (v, r, e) := ⟨_, _, _, rfl⟩
  have c := fun w => rtake_any s hs w
  rw [hv] at c
  simp only at c
  have C := Lib.hid c
  have hvl := tk_lt s.data.toList
  have hel := tk_err s.data.toList
  rw [hv] at hvl hel
  simp only at hvl hel
  unfold maxLen at hs
  clear c
  by_cases h0 : e = 0
  · subst h0
    by_cases h2 : 65536 < v
    · have R := Lib.hid (tkt_big (s := s.data.toList) (by rw [hv]) (by rw [hv]; exact h2))
      have h2' : (65536 : Int) < (v : Int) := by omega
      clear hv
      go_enter Try.func33, Try.ntmps33
      go_wp2_with (go_at_call 32; refine (C.out _).mono ?_; rintro e w1 ⟨rfl, hb⟩)
      go_ret3
      exact ⟨by rw [R.out]; rfl, hb⟩
    · have h2' : (v : Int) ≤ 65536 := by omega
      have h0 : True := trivial
      have ha := tk_len s.data.toList
      rw [hv] at ha
      have hr : (⟨r.toArray⟩ : ByteArray).size ≤ maxLen := by
        show r.toArray.size ≤ maxLen
        unfold maxLen
        simp at ha ⊢
        omega
      have HR := Lib.hid hr
      have E := Lib.hid (tkt_cut (s := s.data.toList) (by rw [hv]) (by rw [hv]; exact Nat.le_of_not_lt h2))
      rw [hv] at E
      simp only at E
      have HV := Lib.hid hvl
      clear hr ha h0
      have hrs : (⟨r.toArray⟩ : ByteArray).size = r.length := by
        show r.toArray.size = r.length
        simp
      have hrl : (⟨r.toArray⟩ : ByteArray).data.toList = r := by simp
      have B := Lib.hid (back_of ⟨r.toArray⟩ v)
      have F := Lib.hid (head_of ⟨r.toArray⟩ v)
      rw [hrl] at B F
      have v1 : (v : Int) ≤ 65536 := by omega
      have v0 : (0 : Int) ≤ (v : Int) := by omega
      by_cases hlt : r.length < v
      · have X := Lib.hid (cut_short hlt)
        have HH := Lib.hid hrs
        rw [X.out] at E
        have hlt' : ((⟨r.toArray⟩ : ByteArray).size : Int) < (v : Int) := by rw [HH.out]; omega
        clear hv hrs hrl B F
        generalize (⟨r.toArray⟩ : ByteArray) = t at *
        go_enter Try.func33, Try.ntmps33
        go_wp2_with (go_at_call 32; refine (C.out _).mono ?_; rintro e w1 ⟨rfl, hb⟩)
        go_ret3
        exact ⟨by rw [E.out]; rfl, hb⟩
      · have X := Lib.hid (cut_long (l := r) (n := v) (by omega))
        have HH := Lib.hid hrs
        rw [X.out] at E
        have hlt' : (v : Int) ≤ ((⟨r.toArray⟩ : ByteArray).size : Int) := by rw [HH.out]; omega
        have hlt2 : ¬ ((⟨r.toArray⟩ : ByteArray).size : Int) < (v : Int) := by omega
        have hmx : ((⟨r.toArray⟩ : ByteArray).size : Int) ≤ 9223372036854775807 := by have := HR.out; unfold maxLen at this; omega
        clear hv hrs hrl
        generalize (⟨r.toArray⟩ : ByteArray) = t at *
        go_enter Try.func33, Try.ntmps33
        go_wp2_with (go_at_call 32; refine (C.out _).mono ?_; rintro e w1 ⟨rfl, hb⟩)
        go_quiet (fail)
        go_wp2_with fail
        go_ret3
        exact ⟨by rw [E.out, ← B.out, ← F.out]; rfl, below_drewN hb _⟩
  · have R := Lib.hid (tkt_err (s := s.data.toList) (by rw [hv]; exact h0))
    rw [hv] at R
    have h0' : ((e : Int) != 0) = true := by rw [bne_iff_ne]; omega
    clear hv h0
    go_enter Try.func33, Try.ntmps33
    go_wp2_with (go_at_call 32; refine (C.out _).mono ?_; rintro e w1 ⟨rfl, hb⟩)
    go_ret3
    exact ⟨by rw [R.out]; rfl, hb⟩

end Go.Proofs.Ytalfmkgcelipdaa
