/- Texts are checked to just these events: the law's walk. -/
import Derived.Test.YthhcopeejhhpgaaDoorLinked
namespace Go.Proofs.YthhcopeejhhpgaaDoor
open Go.RowKit Wire Evt Bat Chn

theorem chk_few (a : List UInt8) {f : Nat} (hf : f < 18446744073709551616) (l : List (List UInt8)) : (chk hsh a f l).1.length ≤ 256 * l.length := by
  unfold chk
  split
  next h =>
    obtain ⟨k, _, h2, _, h3⟩ := run_num (H := hsh) (c := ⟨[], a, f⟩) hf h
    show (run hsh l ⟨[], a, f⟩).1.acc.length ≤ _
    rw [h2]
    simpa using h3
  next => simp

theorem chk_len {a : List UInt8} (ha : a.length = 32) (f : Nat) (l : List (List UInt8)) : (chk hsh a f l).2.1.length = 32 := by
  have h := run_len32 (H := hsh) hsh_len l (c := ⟨[], a, f⟩) ha
  unfold chk
  split
  · exact h
  · rfl

set_option maxHeartbeats 4000000 in
set_option maxRecDepth 100000 in
theorem ChainChecks_core (LK : LinkC) (CK : CheckC) (CL : ClashC) (a : List UInt8) (ha : a.length = 32) (f : Nat) (hf : f < 18446744073709551616) (A : Option Addr) (l : List (List UInt8)) (n c : Nat) (hn : n = l.length) (hc : n ≤ c)
    (hl : l.length ≤ 9223372036854775807) (w : World) (hTab : Tab w) (hA : StSl w A l) :
    Calls Tryd.prog 4 #[.agg (bys a).toArray, .int .u64 (f : Nat), .slice A n c] w fun e w' => e = .returned (.bool true) ∧ Below w.heap.size w w' := by
  have f1 := fun w hA => few_any A l n c hn hl w hA
  have hdi := info_digest
  have hdu := Tryd.underlying23
  have hal : (bys a).length = 32 := by rw [bys_length, ha]
  have z3 : (bys z32).length = 32 := by rw [bys_length]; rfl
  have HP := Lib.hid (Has.make w 23 (bys a))
  have HA := Lib.hid (hA.up (up_alloc (Below.refl w.heap.size w) (.cells (bys a).toArray 23)))
  have B1 := Lib.hid (up_alloc (Below.refl w.heap.size w) (.cells (bys a).toArray 23))
  have HT := Lib.hid (fun W (hb : Below w.heap.size w W) => tab_up hTab hb)
  cases h1 : fewL l with
  | false =>
    rw [h1] at f1
    have F1 := Lib.hid f1
    clear f1 hn hc hl hA h1 LK CK CL ha hTab
    go_enter Tryd.func4, Tryd.ntmps4
    go_wp2_with fail
    refine (F1.out _ HA.out).mono ?_; rintro e w1 ⟨rfl, rfl⟩
    go_wp2_with fail
    go_ret
    exact ⟨rfl, B1.out⟩
  | true =>
    have hlk := (fewL_yes h1).1
    have hls : ∀ s ∈ l, s.length ≤ 100000 := fun s hs => by have := fewL_len h1 hs; omega
    rw [h1] at f1
    have F1 := Lib.hid f1
    have C1 := Lib.hid (fun w hT hA => CK a f A l n c w hT ha hf hn hc (by omega) hls hA)
    have C2 := Lib.hid (fun w hA => rcheck_any a ha f hf A l n c hn (by omega) hls w hA)
    have L9 := Lib.hid (fun w hT => linked_any LK CK CL w hT)
    have hr := chk_few a hf l
    have hrl := chk_len ha f l
    have hrk : (chk hsh a f l).1.length ≤ 100000 := by omega
    clear f1 hn hc hl hA h1 LK CK CL hls hlk ha hTab hr
    generalize chk hsh a f l = r at *
    obtain ⟨evs, x, er⟩ := r
    have hxl : (bys x).length = 32 := by rw [bys_length]; exact hrl
    have hxo := bys_one x
    have EQ := fun w => eql_dig x x hrl hrl w
    rw [decide_eq_true (rfl : x = x)] at EQ
    have ee : ((er : Int) == er) = true := by simp
    have HRK := Lib.hid hrk
    clear hrk hrl
    go_enter Tryd.func4, Tryd.ntmps4
    go_wp2_with fail
    refine (F1.out _ HA.out).mono ?_; rintro e w1 ⟨rfl, rfl⟩
    go_wp2_with (refine wpList_load_row rfl 23 _ rfl w.heap.size (by rfl) _ _ _ _ HP.out hdu rfl (by rw [hdi, List.size_toArray, hal]) ?_)
    refine (C1.out _ (HT.out _ B1.out) HA.out).mono ?_; rintro e w2 ⟨v, rfl, hO, b2⟩
    obtain ⟨A1, n1, c1, rfl, rfl, hc1, hE1⟩ := hO.opened
    have HE1 := Lib.hid hE1
    have HC1 := Lib.hid hc1
    replace HP := Lib.hid (HP.out.up b2)
    replace HA := Lib.hid (HA.out.up b2)
    replace B1 := Lib.hid (up_trans B1.out b2)
    clear b2 hO hE1 hc1
    go_wp2_with (first | (refine wpList_store_save rfl 23 _ _ rfl w2.heap.size 23 (bys z32) (bys x) (by rfl) (by rfl) (Has.make w2 _ (bys z32)) (by rw [hxl, z3]) (by rw [hdi, hxl]) hxo ?_; intro w3 hF3 s3; have bb := made_up rfl s3; replace HP := Lib.hid (HP.out.up bb); replace HA := Lib.hid (HA.out.up bb); replace HE1 := Lib.hid (HE1.out.up bb); replace B1 := Lib.hid (up_trans B1.out bb); have HX := Lib.hid hF3; clear bb hF3 s3) | (refine wpList_load_row rfl 23 _ rfl w.heap.size (by rfl) _ _ _ _ HP.out hdu rfl (by rw [hdi, List.size_toArray, hal]) ?_))
    refine (C2.out _ HA.out).mono ?_; rintro e w4 ⟨v, rfl, hO, b4⟩
    obtain ⟨A2, n2, c2, rfl, rfl, hc2, hE2⟩ := hO.opened
    have HE2 := Lib.hid hE2
    have HC2 := Lib.hid hc2
    replace HE1 := Lib.hid (HE1.out.up b4)
    replace HX := Lib.hid (HX.out.up b4)
    replace B1 := Lib.hid (up_trans B1.out b4)
    clear b4 hO hE2 hc2
    go_wp2_with (first | (refine wpList_store_save rfl 23 _ _ rfl w4.heap.size 23 (bys z32) (bys x) (by rfl) (by rfl) (Has.make w4 _ (bys z32)) (by rw [hxl, z3]) (by rw [hdi, hxl]) hxo ?_; intro w5 hF5 s5; have bb := made_up rfl s5; replace HE1 := Lib.hid (HE1.out.up bb); replace HE2 := Lib.hid (HE2.out.up bb); replace HX := Lib.hid (HX.out.up bb); replace B1 := Lib.hid (up_trans B1.out bb); have HY := Lib.hid hF5; clear bb hF5 s5))
    refine (L9.out _ (HT.out _ B1.out)).mono ?_; rintro e w6 ⟨rfl, b6⟩
    replace HE1 := Lib.hid (HE1.out.up b6)
    replace HE2 := Lib.hid (HE2.out.up b6)
    replace HX := Lib.hid (HX.out.up b6)
    replace HY := Lib.hid (HY.out.up b6)
    replace B1 := Lib.hid (up_trans B1.out b6)
    clear b6
    go_wp2_with fail
    refine (esame_any A1 A2 evs _ c1 c2 rfl HC1.out HC2.out HRK.out _ HE1.out HE2.out).mono ?_; rintro e w7 ⟨rfl, b7⟩
    replace HX := Lib.hid (HX.out.up b7)
    replace HY := Lib.hid (HY.out.up b7)
    replace B1 := Lib.hid (up_trans B1.out b7)
    clear b7
    go_wp2_with (first | (refine wpList_load_wanted (by rfl) 23 _ rfl w2.heap.size (by rfl) _ _ _ _ HX.out hdu rfl (by rw [hdi, List.size_toArray, hxl]) ?_) | (refine wpList_load_wanted (by rfl) 23 _ rfl w4.heap.size (by rfl) _ _ _ _ HY.out hdu rfl (by rw [hdi, List.size_toArray, hxl]) ?_))
    go_ret
    exact ⟨by simp, B1.out⟩

end Go.Proofs.YthhcopeejhhpgaaDoor
