/- Events are linked to just this batch, and these bytes: the law's walk. -/
import Derived.Test.YthhcopeejhhpgaaDoorLinked
import Derived.Test.YthhcopeejhhpgaaDoorChLink
namespace Go.Proofs.YthhcopeejhhpgaaDoor
open Go.RowKit Wire Evt Bat Chn

/-- What a link leaves: the batch with any slice of the same events, the bytes, a number. -/
def LinkedTo (p : List UInt8) (l : List Ev) (e : Ending) (w' : World) : Prop :=
  ∃ A n c, e = .returned (.tuple #[.agg (if isB (headSeq l) l = true then btc (headSeq l) (.slice A n c) p else zbt).toArray, .string ⟨(putB (lnk p l)).1.toArray⟩, .int .i64 ((putB (lnk p l)).2 : Nat)]) ∧ (isB (headSeq l) l = true → n = l.length ∧ n ≤ c ∧ EvSl w' A l)
/-- What chain.Link is to do, all of it. -/
def LinkP : Prop := ∀ (p : List UInt8) (l : List Ev) (A : Option Addr) (n cap : Nat) (w : World), p.length = 32 → (∀ x ∈ l, x.seq < 18446744073709551616) → n = l.length → n ≤ cap → l.length ≤ 1000 → EvSl w A l →
  Calls Tryd.prog 9 #[.agg (bys p).toArray, .slice A n cap] w fun e w' => LinkedTo p l e w' ∧ Below w.heap.size w w'

theorem LinkP.toC (h : LinkP) : LinkC := fun p l A n cap w hp hs hn hc hm hA => (h p l A n cap w hp hs hn hc hm hA).mono (by
  rintro e w' ⟨⟨A', n', c', rfl, _⟩, b⟩
  refine ⟨⟨_, ?_, ?_, rfl⟩, b⟩
  · split
    · exact btc_length _ _ hp
    · exact btc_length _ _ rfl
  · split
    · exact btc_one _ _ _ _ _
    · exact btc_one _ _ _ _ _)

set_option maxHeartbeats 4000000 in
set_option maxRecDepth 100000 in
theorem links_many (p : List UInt8) (A : Option Addr) (n c : Nat) (h3 : ¬ n ≤ 300) (w : World) :
    Calls Tryd.prog 3 #[.agg (bys p).toArray, .slice A n c] w fun e w' => e = .returned (.bool true) ∧ Below w.heap.size w w' := by
  have B1 := Lib.hid (up_alloc (Below.refl w.heap.size w) (.cells (bys p).toArray 23))
  have d3 : decide ((n : Int) > 300) = true := by simp; omega
  have d3' : decide ((300 : Int) < (n : Int)) = true := by simp; omega
  clear h3
  go_enter Tryd.func3, Tryd.ntmps3
  go_wp2_with fail
  go_ret
  exact ⟨rfl, B1.out⟩

set_option maxHeartbeats 4000000 in
set_option maxRecDepth 100000 in
theorem links_yes (LP : LinkP) (CK : CheckC) (CL : ClashC) (p : List UInt8) (hp : p.length = 32) (l : List Ev) (hs : ∀ x ∈ l, x.seq < 18446744073709551616) (A : Option Addr) (n c : Nat) (hn : n = l.length) (hc : n ≤ c) (h3 : n ≤ 300) (h : isB (headSeq l) l = true)
    (w : World) (hTab : Tab w) (hA : EvSl w A l) :
    Calls Tryd.prog 3 #[.agg (bys p).toArray, .slice A n c] w fun e w' => e = .returned (.bool true) ∧ Below w.heap.size w w' := by
  have hi := info_batch
  have hu := Tryd.underlying27
  have hdi := info_digest
  have hdu := Tryd.underlying23
  have hz : zbt.length = 34 := btc_length _ _ (by simp)
  have hal : (bys p).length = 32 := by rw [bys_length, hp]
  have HP := Lib.hid (Has.make w 23 (bys p))
  have B1 := Lib.hid (up_alloc (Below.refl w.heap.size w) (.cells (bys p).toArray 23))
  have HA := Lib.hid (hA.up (up_alloc (Below.refl w.heap.size w) (.cells (bys p).toArray 23)))
  have HT := Lib.hid (fun W (hb : Below w.heap.size w W) => tab_up hTab hb)
  have d3 : decide ((n : Int) > 300) = false := by simp; omega
  have d3' : decide ((300 : Int) < (n : Int)) = false := by simp; omega
  have c1 := fun w hA => LP p l A n c w hp hs hn hc (by omega) hA
  have c2 := fun w hA => rlink_any p hp l hs A n c hn (by omega) w hA
  have L9 := Lib.hid (fun w hT => linked_any LP.toC CK CL w hT)
  unfold LinkedTo at c1
  unfold LinkPost at c2
  simp only [if_pos h] at c1 c2
  have SM := Lib.hid (fun (A' A'' : Option Addr) (n' c' c'' : Nat) (h' : n' = l.length) (hc' : n' ≤ c') (hc'' : n' ≤ c'') w hA hA' => same_any (headSeq l) p hp A' A'' l n' c' c'' h' hc' hc'' (by omega) w hA hA')
  generalize (⟨(putB (lnk p l)).1.toArray⟩ : ByteArray) = S at *
  generalize (putB (lnk p l)).2 = k at *
  have HL := Lib.hid (fun A n c => btc_length (headSeq l) (.slice A n c) hp)
  have HO := Lib.hid (fun A n c => btc_one (headSeq l) A n c p)
  have C1 := Lib.hid c1
  have C2 := Lib.hid c2
  have HN := Lib.hid hn
  have HC := Lib.hid hc
  have HH := Lib.hid h
  generalize headSeq l = q at *
  clear c1 c2 hp hs hn hc hTab hA h h3 LP CK CL
  go_enter Tryd.func3, Tryd.ntmps3
  go_wp2_with (refine wpList_load_row rfl 23 _ rfl w.heap.size (by rfl) _ _ _ _ HP.out hdu rfl (by rw [hdi, List.size_toArray, hal]) ?_)
  refine (C1.out _ HA.out).mono ?_; rintro e w2 ⟨⟨A1, n1, c1, rfl, hk⟩, b2⟩
  obtain ⟨e1, hc1, hE1⟩ := hk HH.out
  obtain rfl : n = n1 := HN.out.trans e1.symm
  have HE1 := Lib.hid hE1
  have HC1 := Lib.hid hc1
  clear hk e1 hc1 hE1
  replace HP := Lib.hid (HP.out.up b2)
  replace HA := Lib.hid (HA.out.up b2)
  replace B1 := Lib.hid (up_trans B1.out b2)
  clear b2
  go_wp2_with (first | (refine wpList_store_save rfl 27 _ _ rfl w2.heap.size 27 zbt (btc q (.slice A1 n c1) p) (by rfl) (by rfl) (Has.make w2 _ zbt) (by rw [HL.out A1 n c1, hz]) (by rw [hi, HL.out A1 n c1]) (HO.out A1 n c1) ?_; intro w3 hF s; have bb := made_up rfl s; replace HP := Lib.hid (HP.out.up bb); replace HA := Lib.hid (HA.out.up bb); replace HE1 := Lib.hid (HE1.out.up bb);  replace B1 := Lib.hid (up_trans B1.out bb); have HX := Lib.hid hF; clear bb hF s) | (refine wpList_load_row rfl 23 _ rfl w.heap.size (by rfl) _ _ _ _ HP.out hdu rfl (by rw [hdi, List.size_toArray, hal]) ?_))
  refine (C2.out _ HA.out).mono ?_; rintro e w4 ⟨rfl, b4⟩
  replace HP := Lib.hid (HP.out.up b4)
  replace HA := Lib.hid (HA.out.up b4)
  replace HX := Lib.hid (HX.out.up b4)
  replace HE1 := Lib.hid (HE1.out.up b4)
  replace B1 := Lib.hid (up_trans B1.out b4)
  clear b4
  go_wp2_with (refine wpList_store_save rfl 27 _ _ rfl w4.heap.size 27 zbt (btc q (.slice A n c) p) (by rfl) (by rfl) (Has.make w4 _ zbt) (by rw [HL.out A n c, hz]) (by rw [hi, HL.out A n c]) (HO.out A n c) ?_; intro w5 hF s; have bb := made_up rfl s; replace HP := Lib.hid (HP.out.up bb); replace HA := Lib.hid (HA.out.up bb); replace HE1 := Lib.hid (HE1.out.up bb); replace HX := Lib.hid (HX.out.up bb); replace B1 := Lib.hid (up_trans B1.out bb); have HY := Lib.hid hF; clear bb hF s)
  refine (L9.out _ (HT.out _ B1.out)).mono ?_; rintro e w6 ⟨rfl, b6⟩
  replace HA := Lib.hid (HA.out.up b6)
  replace HX := Lib.hid (HX.out.up b6)
  replace HY := Lib.hid (HY.out.up b6)
  replace HE1 := Lib.hid (HE1.out.up b6)
  replace B1 := Lib.hid (up_trans B1.out b6)
  clear b6
  go_wp2_with (first | (refine wpList_load_wanted (by rfl) 27 _ rfl w2.heap.size (by rfl) _ _ _ _ HX.out hu rfl (by rw [hi, List.size_toArray, HL.out A1 n c1]) ?_) | (refine wpList_load_wanted (by rfl) 27 _ rfl w4.heap.size (by rfl) _ _ _ _ HY.out hu rfl (by rw [hi, List.size_toArray, HL.out A n c]) ?_))
  refine (SM.out A1 A n c1 c HN.out HC1.out HC.out _ HE1.out HA.out).mono ?_; rintro e w7 ⟨rfl, b7⟩
  replace B1 := Lib.hid (up_trans B1.out b7)
  clear b7
  go_wp2_with fail
  go_ret
  exact ⟨by simp, B1.out⟩

set_option maxHeartbeats 4000000 in
set_option maxRecDepth 100000 in
theorem links_no (LP : LinkP) (CK : CheckC) (CL : ClashC) (p : List UInt8) (hp : p.length = 32) (l : List Ev) (hs : ∀ x ∈ l, x.seq < 18446744073709551616) (A : Option Addr) (n c : Nat) (hn : n = l.length) (hc : n ≤ c) (h3 : n ≤ 300) (h : isB (headSeq l) l = false)
    (w : World) (hTab : Tab w) (hA : EvSl w A l) :
    Calls Tryd.prog 3 #[.agg (bys p).toArray, .slice A n c] w fun e w' => e = .returned (.bool true) ∧ Below w.heap.size w w' := by
  have hi := info_batch
  have hu := Tryd.underlying27
  have hdi := info_digest
  have hdu := Tryd.underlying23
  have hz : zbt.length = 34 := btc_length _ _ (by simp)
  have hal : (bys p).length = 32 := by rw [bys_length, hp]
  have HP := Lib.hid (Has.make w 23 (bys p))
  have B1 := Lib.hid (up_alloc (Below.refl w.heap.size w) (.cells (bys p).toArray 23))
  have HA := Lib.hid (hA.up (up_alloc (Below.refl w.heap.size w) (.cells (bys p).toArray 23)))
  have HT := Lib.hid (fun W (hb : Below w.heap.size w W) => tab_up hTab hb)
  have d3 : decide ((n : Int) > 300) = false := by simp; omega
  have d3' : decide ((300 : Int) < (n : Int)) = false := by simp; omega
  have c1 := fun w hA => LP p l A n c w hp hs hn hc (by omega) hA
  have c2 := fun w hA => rlink_any p hp l hs A n c hn (by omega) w hA
  have L9 := Lib.hid (fun w hT => linked_any LP.toC CK CL w hT)
  unfold LinkedTo at c1
  unfold LinkPost at c2
  simp only [h, Bool.false_eq_true, if_false] at c1 c2
  have SM := Lib.hid (fun w => same_any 0 (List.replicate 32 0) rfl none none [] 0 0 0 rfl (Nat.le_refl _) (Nat.le_refl _) (by decide) w (fun h => by cases h) (fun h => by cases h))
  rw [show btc 0 (.slice none 0 0) (List.replicate 32 0) = zbt from rfl] at SM
  generalize (⟨(putB (lnk p l)).1.toArray⟩ : ByteArray) = S at *
  generalize (putB (lnk p l)).2 = k at *
  have hzo : ∀ v ∈ zbt, v.oneCell' = true := btc_one 0 none 0 0 _
  have C1 := Lib.hid c1
  have C2 := Lib.hid c2
  clear c1 c2 hp hs hn hc hTab hA h h3 LP CK CL
  go_enter Tryd.func3, Tryd.ntmps3
  go_wp2_with (refine wpList_load_row rfl 23 _ rfl w.heap.size (by rfl) _ _ _ _ HP.out hdu rfl (by rw [hdi, List.size_toArray, hal]) ?_)
  refine (C1.out _ HA.out).mono ?_; rintro e w2 ⟨⟨A1, n1, c1, rfl, _⟩, b2⟩
  replace HP := Lib.hid (HP.out.up b2)
  replace HA := Lib.hid (HA.out.up b2)
  replace B1 := Lib.hid (up_trans B1.out b2)
  clear b2
  go_wp2_with (first | (refine wpList_store_save rfl 27 _ _ rfl w2.heap.size 27 zbt zbt (by rfl) (by rfl) (Has.make w2 _ zbt) rfl (by rw [hi, hz]) hzo ?_; intro w3 hF s; have bb := made_up rfl s; replace HP := Lib.hid (HP.out.up bb); replace HA := Lib.hid (HA.out.up bb); skip;  replace B1 := Lib.hid (up_trans B1.out bb); have HX := Lib.hid hF; clear bb hF s) | (refine wpList_load_row rfl 23 _ rfl w.heap.size (by rfl) _ _ _ _ HP.out hdu rfl (by rw [hdi, List.size_toArray, hal]) ?_))
  refine (C2.out _ HA.out).mono ?_; rintro e w4 ⟨rfl, b4⟩
  replace HP := Lib.hid (HP.out.up b4)
  replace HA := Lib.hid (HA.out.up b4)
  replace HX := Lib.hid (HX.out.up b4)
  skip
  replace B1 := Lib.hid (up_trans B1.out b4)
  clear b4
  go_wp2_with (refine wpList_store_save rfl 27 _ _ rfl w4.heap.size 27 zbt zbt (by rfl) (by rfl) (Has.make w4 _ zbt) rfl (by rw [hi, hz]) hzo ?_; intro w5 hF s; have bb := made_up rfl s; replace HP := Lib.hid (HP.out.up bb); replace HA := Lib.hid (HA.out.up bb); skip; replace HX := Lib.hid (HX.out.up bb); replace B1 := Lib.hid (up_trans B1.out bb); have HY := Lib.hid hF; clear bb hF s)
  refine (L9.out _ (HT.out _ B1.out)).mono ?_; rintro e w6 ⟨rfl, b6⟩
  replace HA := Lib.hid (HA.out.up b6)
  replace HX := Lib.hid (HX.out.up b6)
  replace HY := Lib.hid (HY.out.up b6)
  skip
  replace B1 := Lib.hid (up_trans B1.out b6)
  clear b6
  go_wp2_with (first | (refine wpList_load_wanted (by rfl) 27 _ rfl w2.heap.size (by rfl) _ _ _ _ HX.out hu rfl (by rw [hi, List.size_toArray, hz]) ?_) | (refine wpList_load_wanted (by rfl) 27 _ rfl w4.heap.size (by rfl) _ _ _ _ HY.out hu rfl (by rw [hi, List.size_toArray, hz]) ?_))
  refine (SM.out _).mono ?_; rintro e w7 ⟨rfl, b7⟩
  replace B1 := Lib.hid (up_trans B1.out b7)
  clear b7
  go_wp2_with fail
  go_ret
  exact ⟨by simp, B1.out⟩

theorem ChainLinks_core (LP : LinkP) (CK : CheckC) (CL : ClashC) (p : List UInt8) (hp : p.length = 32) (l : List Ev) (hs : ∀ x ∈ l, x.seq < 18446744073709551616) (A : Option Addr) (n c : Nat) (hn : n = l.length) (hc : n ≤ c)
    (w : World) (hTab : Tab w) (hA : EvSl w A l) :
    Calls Tryd.prog 3 #[.agg (bys p).toArray, .slice A n c] w fun e w' => e = .returned (.bool true) ∧ Below w.heap.size w w' := by
  by_cases h3 : n ≤ 300
  · cases h : isB (headSeq l) l with
    | true => exact links_yes LP CK CL p hp l hs A n c hn hc h3 h w hTab hA
    | false => exact links_no LP CK CL p hp l hs A n c hn hc h3 h w hTab hA
  · exact links_many p A n c h3 w

end Go.Proofs.YthhcopeejhhpgaaDoor
