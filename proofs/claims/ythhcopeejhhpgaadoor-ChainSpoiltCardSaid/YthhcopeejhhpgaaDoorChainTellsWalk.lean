/- Of two rows that come to one sum: the same, or two texts with one sum are told: the law's walk. -/
import Derived.Test.YthhcopeejhhpgaaDoorChainChecksWalk
namespace Go.Proofs.YthhcopeejhhpgaaDoor
open Go.RowKit Wire Evt Bat Chn

theorem cl_self : ∀ (l : List (List UInt8)), cl l l = none
  | [] => rfl
  | x :: l => by rw [cl, if_pos rfl]; exact cl_self l
theorem clash_self (l : List (List UInt8)) : (clash hsh l l).2.2 = false := by
  unfold clash
  rw [cl_self]
theorem cl_some : ∀ {l m : List (List UInt8)} {x y : List UInt8}, cl l m = some (x, y) → x ≠ y ∧ x ∈ l ∧ y ∈ m
  | [], _, _, _, h => by simp [cl] at h
  | _ :: _, [], _, _, h => by simp [cl] at h
  | u :: l, v :: m, x, y, h => by
    rw [cl] at h
    split at h
    · obtain ⟨h1, h2, h3⟩ := cl_some h
      exact ⟨h1, List.mem_cons_of_mem _ h2, List.mem_cons_of_mem _ h3⟩
    · next hne =>
      injection h with h
      injection h with h1 h2
      subst h1 h2
      exact ⟨hne, List.mem_cons_self .., List.mem_cons_self ..⟩

theorem chk_zero {a : List UInt8} {f : Nat} {l : List (List UInt8)} {E : List Ev} {x : List UInt8} {r : Nat} (h : chk hsh a f l = (E, x, r)) (hr : r = 0) : (run hsh l ⟨[], a, f⟩).2 = 0 ∧ (run hsh l ⟨[], a, f⟩).1.a = x := by
  unfold chk at h
  split at h
  · next h0 =>
    injection h with _ h
    injection h with h _
    exact ⟨h0, h⟩
  · next h0 =>
    injection h with _ h
    injection h with _ h
    exact absurd (h.trans hr) h0

theorem told_two {a : List UInt8} {f : Nat} {l m : List (List UInt8)} {E E' : List Ev} {x y : List UInt8} {r s : Nat} (hf : f < 18446744073709551616) (hl0 : l.length ≠ 0) (hm0 : m.length ≠ 0) (hl : l.length ≤ 1000000) (hm : m.length ≤ 1000000)
    (e1 : chk hsh a f l = (E, x, r)) (e2 : chk hsh a f m = (E', y, s)) (hr : r = 0) (hs : s = 0) (hxy : x = y) (hlm : l ≠ m) : ∃ u v, clash hsh l m = (u, v, true) ∧ u ≠ v ∧ hsh u = hsh v ∧ u ∈ l ∧ v ∈ m := by
  obtain ⟨r1, a1⟩ := chk_zero e1 hr
  obtain ⟨r2, a2⟩ := chk_zero e2 hs
  rcases tells (H := hsh) (c := ⟨[], a, f⟩) hf (fun e => hl0 (by rw [e]; rfl)) (fun e => hm0 (by rw [e]; rfl)) hl hm r1 r2 (by rw [a1, a2, hxy]) with h | ⟨u, v, h, hh⟩
  · exact absurd h hlm
  · obtain ⟨h1, h2, h3⟩ := cl_some h
    refine ⟨u, v, ?_, h1, hh, by simpa using h2, by simpa using h3⟩
    unfold clash
    rw [h]
    simp [hh]

set_option maxHeartbeats 4000000 in
set_option maxRecDepth 100000 in
theorem tells_early0 (LK : LinkC) (CK : CheckC) (CL : ClashC) (a : List UInt8) (ha : a.length = 32) (f : Nat) (_hf : f < 18446744073709551616) (A A' : Option Addr) (l m : List (List UInt8)) (n n' c c' : Nat) (hn : n = l.length) (hn' : n' = m.length) (_hc : n ≤ c) (_hc' : n' ≤ c') (hl : l.length ≤ 9223372036854775807) (hm : m.length ≤ 9223372036854775807) (h1 : fewL l = false) (w : World) (hTab : Tab w) (hA : StSl w A l) (hA' : StSl w A' m) :
    Calls Tryd.prog 7 #[.agg (bys a).toArray, .int .u64 (f : Nat), .slice A n c, .slice A' n' c'] w fun e w' => e = .returned (.bool true) ∧ Below w.heap.size w w' := by
  have hdi := info_digest
  have hdu := Tryd.underlying23
  have hal : (bys a).length = 32 := by rw [bys_length, ha]
  have z3 : (bys z32).length = 32 := by rw [bys_length]; rfl
  have HP := Lib.hid (Has.make w 23 (bys a))
  have HA := Lib.hid (hA.up (up_alloc (Below.refl w.heap.size w) (.cells (bys a).toArray 23)))
  have HA' := Lib.hid (hA'.up (up_alloc (Below.refl w.heap.size w) (.cells (bys a).toArray 23)))
  have B1 := Lib.hid (up_alloc (Below.refl w.heap.size w) (.cells (bys a).toArray 23))
  have HT := Lib.hid (fun W (hb : Below w.heap.size w W) => tab_up hTab hb)
  have L9 := Lib.hid (fun w hT => linked_any LK CK CL w hT)
  have f1 := fun w hA => few_any A l n c hn hl w hA
  have f2 := fun w hA => few_any A' m n' c' hn' hm w hA
  rw [h1] at f1
  have F1 := Lib.hid f1
  clear f1 f2 hn hn' _hc _hc' hl hm hA hA' LK CK CL ha hTab h1
  go_enter Tryd.func7, Tryd.ntmps7
  go_wp2_with fail
  refine (F1.out _ HA.out).mono ?_; rintro e w1 ⟨rfl, rfl⟩
  go_wp2_with fail
  refine (L9.out _ (HT.out _ B1.out)).mono ?_; rintro e wz ⟨rfl, bz⟩
  go_wp2_with fail
  go_ret
  exact ⟨rfl, up_trans B1.out bz⟩

set_option maxHeartbeats 4000000 in
set_option maxRecDepth 100000 in
theorem tells_early1 (LK : LinkC) (CK : CheckC) (CL : ClashC) (a : List UInt8) (ha : a.length = 32) (f : Nat) (_hf : f < 18446744073709551616) (A A' : Option Addr) (l m : List (List UInt8)) (n n' c c' : Nat) (hn : n = l.length) (hn' : n' = m.length) (_hc : n ≤ c) (_hc' : n' ≤ c') (hl : l.length ≤ 9223372036854775807) (hm : m.length ≤ 9223372036854775807) (h1 : fewL l = true) (h2 : fewL m = false) (w : World) (hTab : Tab w) (hA : StSl w A l) (hA' : StSl w A' m) :
    Calls Tryd.prog 7 #[.agg (bys a).toArray, .int .u64 (f : Nat), .slice A n c, .slice A' n' c'] w fun e w' => e = .returned (.bool true) ∧ Below w.heap.size w w' := by
  have hdi := info_digest
  have hdu := Tryd.underlying23
  have hal : (bys a).length = 32 := by rw [bys_length, ha]
  have z3 : (bys z32).length = 32 := by rw [bys_length]; rfl
  have HP := Lib.hid (Has.make w 23 (bys a))
  have HA := Lib.hid (hA.up (up_alloc (Below.refl w.heap.size w) (.cells (bys a).toArray 23)))
  have HA' := Lib.hid (hA'.up (up_alloc (Below.refl w.heap.size w) (.cells (bys a).toArray 23)))
  have B1 := Lib.hid (up_alloc (Below.refl w.heap.size w) (.cells (bys a).toArray 23))
  have HT := Lib.hid (fun W (hb : Below w.heap.size w W) => tab_up hTab hb)
  have L9 := Lib.hid (fun w hT => linked_any LK CK CL w hT)
  have f1 := fun w hA => few_any A l n c hn hl w hA
  have f2 := fun w hA => few_any A' m n' c' hn' hm w hA
  rw [h1] at f1
  rw [h2] at f2
  have F1 := Lib.hid f1
  have F2 := Lib.hid f2
  clear f1 f2 hn hn' _hc _hc' hl hm hA hA' LK CK CL ha hTab h1 h2
  go_enter Tryd.func7, Tryd.ntmps7
  go_wp2_with fail
  refine (F1.out _ HA.out).mono ?_; rintro e w1 ⟨rfl, rfl⟩
  go_wp2_with fail
  refine (F2.out _ HA'.out).mono ?_; rintro e w1 ⟨rfl, rfl⟩
  go_wp2_with fail
  refine (L9.out _ (HT.out _ B1.out)).mono ?_; rintro e wz ⟨rfl, bz⟩
  go_wp2_with fail
  go_ret
  exact ⟨rfl, up_trans B1.out bz⟩

set_option maxHeartbeats 4000000 in
set_option maxRecDepth 100000 in
theorem tells_early2 (LK : LinkC) (CK : CheckC) (CL : ClashC) (a : List UInt8) (ha : a.length = 32) (f : Nat) (hf : f < 18446744073709551616) (A A' : Option Addr) (l m : List (List UInt8)) (n n' c c' : Nat) (hn : n = l.length) (hn' : n' = m.length) (_hc : n ≤ c) (_hc' : n' ≤ c') (hl : l.length ≤ 9223372036854775807) (hm : m.length ≤ 9223372036854775807) (h1 : fewL l = true) (h2 : fewL m = true) (h3 : ¬ f ≤ 9223372036854775808) (w : World) (hTab : Tab w) (hA : StSl w A l) (hA' : StSl w A' m) :
    Calls Tryd.prog 7 #[.agg (bys a).toArray, .int .u64 (f : Nat), .slice A n c, .slice A' n' c'] w fun e w' => e = .returned (.bool true) ∧ Below w.heap.size w w' := by
  have hdi := info_digest
  have hdu := Tryd.underlying23
  have hal : (bys a).length = 32 := by rw [bys_length, ha]
  have z3 : (bys z32).length = 32 := by rw [bys_length]; rfl
  have HP := Lib.hid (Has.make w 23 (bys a))
  have HA := Lib.hid (hA.up (up_alloc (Below.refl w.heap.size w) (.cells (bys a).toArray 23)))
  have HA' := Lib.hid (hA'.up (up_alloc (Below.refl w.heap.size w) (.cells (bys a).toArray 23)))
  have B1 := Lib.hid (up_alloc (Below.refl w.heap.size w) (.cells (bys a).toArray 23))
  have HT := Lib.hid (fun W (hb : Below w.heap.size w W) => tab_up hTab hb)
  have L9 := Lib.hid (fun w hT => linked_any LK CK CL w hT)
  have f1 := fun w hA => few_any A l n c hn hl w hA
  have f2 := fun w hA => few_any A' m n' c' hn' hm w hA
  rw [h1] at f1
  rw [h2] at f2
  have F1 := Lib.hid f1
  have F2 := Lib.hid f2
  have d0 : decide ((f : Int) > 9223372036854775808) = true := by simp; omega
  have d1 : decide ((9223372036854775808 : Int) < (f : Int)) = true := by simp; omega
  clear f1 f2 hn hn' _hc _hc' hl hm hA hA' LK CK CL ha hTab h1 h2 h3
  go_enter Tryd.func7, Tryd.ntmps7
  go_wp2_with fail
  refine (F1.out _ HA.out).mono ?_; rintro e w1 ⟨rfl, rfl⟩
  go_wp2_with fail
  refine (F2.out _ HA'.out).mono ?_; rintro e w1 ⟨rfl, rfl⟩
  go_wp2_with fail
  refine (L9.out _ (HT.out _ B1.out)).mono ?_; rintro e wz ⟨rfl, bz⟩
  go_wp2_with fail
  go_ret
  exact ⟨rfl, up_trans B1.out bz⟩

set_option maxHeartbeats 4000000 in
set_option maxRecDepth 100000 in
theorem tells_early3 (LK : LinkC) (CK : CheckC) (CL : ClashC) (a : List UInt8) (ha : a.length = 32) (f : Nat) (hf : f < 18446744073709551616) (A A' : Option Addr) (l m : List (List UInt8)) (n n' c c' : Nat) (hn : n = l.length) (hn' : n' = m.length) (_hc : n ≤ c) (_hc' : n' ≤ c') (hl : l.length ≤ 9223372036854775807) (hm : m.length ≤ 9223372036854775807) (h1 : fewL l = true) (h2 : fewL m = true) (h3 : f ≤ 9223372036854775808) (h4 : n = 0) (w : World) (hTab : Tab w) (hA : StSl w A l) (hA' : StSl w A' m) :
    Calls Tryd.prog 7 #[.agg (bys a).toArray, .int .u64 (f : Nat), .slice A n c, .slice A' n' c'] w fun e w' => e = .returned (.bool true) ∧ Below w.heap.size w w' := by
  have hdi := info_digest
  have hdu := Tryd.underlying23
  have hal : (bys a).length = 32 := by rw [bys_length, ha]
  have z3 : (bys z32).length = 32 := by rw [bys_length]; rfl
  have HP := Lib.hid (Has.make w 23 (bys a))
  have HA := Lib.hid (hA.up (up_alloc (Below.refl w.heap.size w) (.cells (bys a).toArray 23)))
  have HA' := Lib.hid (hA'.up (up_alloc (Below.refl w.heap.size w) (.cells (bys a).toArray 23)))
  have B1 := Lib.hid (up_alloc (Below.refl w.heap.size w) (.cells (bys a).toArray 23))
  have HT := Lib.hid (fun W (hb : Below w.heap.size w W) => tab_up hTab hb)
  have L9 := Lib.hid (fun w hT => linked_any LK CK CL w hT)
  have f1 := fun w hA => few_any A l n c hn hl w hA
  have f2 := fun w hA => few_any A' m n' c' hn' hm w hA
  rw [h1] at f1
  rw [h2] at f2
  have F1 := Lib.hid f1
  have F2 := Lib.hid f2
  have d0 : decide ((f : Int) > 9223372036854775808) = false := by simp; omega
  have d1 : decide ((9223372036854775808 : Int) < (f : Int)) = false := by simp; omega
  have g1 : ((n : Int) == 0) = true := by simp; omega
  have g2 : ((n : Int) != 0) = false := by simp; omega
  clear f1 f2 hn hn' _hc _hc' hl hm hA hA' LK CK CL ha hTab h1 h2 h3 h4
  go_enter Tryd.func7, Tryd.ntmps7
  go_wp2_with fail
  refine (F1.out _ HA.out).mono ?_; rintro e w1 ⟨rfl, rfl⟩
  go_wp2_with fail
  refine (F2.out _ HA'.out).mono ?_; rintro e w1 ⟨rfl, rfl⟩
  go_wp2_with fail
  refine (L9.out _ (HT.out _ B1.out)).mono ?_; rintro e wz ⟨rfl, bz⟩
  go_wp2_with fail
  go_ret
  exact ⟨rfl, up_trans B1.out bz⟩

set_option maxHeartbeats 4000000 in
set_option maxRecDepth 100000 in
theorem tells_early4 (LK : LinkC) (CK : CheckC) (CL : ClashC) (a : List UInt8) (ha : a.length = 32) (f : Nat) (hf : f < 18446744073709551616) (A A' : Option Addr) (l m : List (List UInt8)) (n n' c c' : Nat) (hn : n = l.length) (hn' : n' = m.length) (_hc : n ≤ c) (_hc' : n' ≤ c') (hl : l.length ≤ 9223372036854775807) (hm : m.length ≤ 9223372036854775807) (h1 : fewL l = true) (h2 : fewL m = true) (h3 : f ≤ 9223372036854775808) (h4 : n ≠ 0) (h5 : n' = 0) (w : World) (hTab : Tab w) (hA : StSl w A l) (hA' : StSl w A' m) :
    Calls Tryd.prog 7 #[.agg (bys a).toArray, .int .u64 (f : Nat), .slice A n c, .slice A' n' c'] w fun e w' => e = .returned (.bool true) ∧ Below w.heap.size w w' := by
  have hdi := info_digest
  have hdu := Tryd.underlying23
  have hal : (bys a).length = 32 := by rw [bys_length, ha]
  have z3 : (bys z32).length = 32 := by rw [bys_length]; rfl
  have HP := Lib.hid (Has.make w 23 (bys a))
  have HA := Lib.hid (hA.up (up_alloc (Below.refl w.heap.size w) (.cells (bys a).toArray 23)))
  have HA' := Lib.hid (hA'.up (up_alloc (Below.refl w.heap.size w) (.cells (bys a).toArray 23)))
  have B1 := Lib.hid (up_alloc (Below.refl w.heap.size w) (.cells (bys a).toArray 23))
  have HT := Lib.hid (fun W (hb : Below w.heap.size w W) => tab_up hTab hb)
  have L9 := Lib.hid (fun w hT => linked_any LK CK CL w hT)
  have f1 := fun w hA => few_any A l n c hn hl w hA
  have f2 := fun w hA => few_any A' m n' c' hn' hm w hA
  rw [h1] at f1
  rw [h2] at f2
  have F1 := Lib.hid f1
  have F2 := Lib.hid f2
  have d0 : decide ((f : Int) > 9223372036854775808) = false := by simp; omega
  have d1 : decide ((9223372036854775808 : Int) < (f : Int)) = false := by simp; omega
  have g1 : ((n : Int) == 0) = false := by simp; omega
  have g2 : ((n : Int) != 0) = true := by simp; omega
  have k1 : ((n' : Int) == 0) = true := by simp; omega
  have k2 : ((n' : Int) != 0) = false := by simp; omega
  clear f1 f2 hn hn' _hc _hc' hl hm hA hA' LK CK CL ha hTab h1 h2 h3 h4 h5
  go_enter Tryd.func7, Tryd.ntmps7
  go_wp2_with fail
  refine (F1.out _ HA.out).mono ?_; rintro e w1 ⟨rfl, rfl⟩
  go_wp2_with fail
  refine (F2.out _ HA'.out).mono ?_; rintro e w1 ⟨rfl, rfl⟩
  go_wp2_with fail
  refine (L9.out _ (HT.out _ B1.out)).mono ?_; rintro e wz ⟨rfl, bz⟩
  go_wp2_with fail
  go_ret
  exact ⟨rfl, up_trans B1.out bz⟩

set_option maxHeartbeats 4000000 in
set_option maxRecDepth 100000 in
theorem tells_bad1 (LK : LinkC) (CK : CheckC) (CL : ClashC) (a : List UInt8) (ha : a.length = 32) (f : Nat) (hf : f < 18446744073709551616) (A A' : Option Addr) (l m : List (List UInt8)) (n n' c c' : Nat) (hn : n = l.length) (hn' : n' = m.length) (hc : n ≤ c) (hc' : n' ≤ c') (hl : l.length ≤ 9223372036854775807) (hm : m.length ≤ 9223372036854775807) (h1 : fewL l = true) (h2 : fewL m = true) (h3 : f ≤ 9223372036854775808) (h4 : n ≠ 0) (h5 : n' ≠ 0) (E1 E2 : List Ev) (x y : List UInt8) (r s : Nat) (hx : x.length = 32) (hy : y.length = 32) (hE : E1.length ≤ 100000) (e1 : chk hsh a f l = (E1, x, r)) (e2 : chk hsh a f m = (E2, y, s)) (hr : r ≠ 0) (w : World) (hTab : Tab w) (hA : StSl w A l) (hA' : StSl w A' m) :
    Calls Tryd.prog 7 #[.agg (bys a).toArray, .int .u64 (f : Nat), .slice A n c, .slice A' n' c'] w fun e w' => e = .returned (.bool true) ∧ Below w.heap.size w w' := by
  have hdi := info_digest
  have hdu := Tryd.underlying23
  have hal : (bys a).length = 32 := by rw [bys_length, ha]
  have z3 : (bys z32).length = 32 := by rw [bys_length]; rfl
  have HP := Lib.hid (Has.make w 23 (bys a))
  have HA := Lib.hid (hA.up (up_alloc (Below.refl w.heap.size w) (.cells (bys a).toArray 23)))
  have HA' := Lib.hid (hA'.up (up_alloc (Below.refl w.heap.size w) (.cells (bys a).toArray 23)))
  have B1 := Lib.hid (up_alloc (Below.refl w.heap.size w) (.cells (bys a).toArray 23))
  have HT := Lib.hid (fun W (hb : Below w.heap.size w W) => tab_up hTab hb)
  have L9 := Lib.hid (fun w hT => linked_any LK CK CL w hT)
  have f1 := fun w hA => few_any A l n c hn hl w hA
  have f2 := fun w hA => few_any A' m n' c' hn' hm w hA
  rw [h1] at f1
  rw [h2] at f2
  have F1 := Lib.hid f1
  have F2 := Lib.hid f2
  have hlk := (fewL_yes h1).1
  have hls : ∀ s ∈ l, s.length ≤ 100000 := fun s hs => by have := fewL_len h1 hs; omega
  have hmk := (fewL_yes h2).1
  have hms : ∀ s ∈ m, s.length ≤ 100000 := fun s hs => by have := fewL_len h2 hs; omega
  have c1 := fun w hT hA => CK a f A l n c w hT ha hf hn hc (by omega) hls hA
  have c2 := fun w hT hA => CK a f A' m n' c' w hT ha hf hn' hc' (by omega) hms hA
  rw [e1] at c1
  rw [e2] at c2
  have C1 := Lib.hid c1
  have C2 := Lib.hid c2
  have hxl : (bys x).length = 32 := by rw [bys_length, hx]
  have hxo := bys_one x
  have hyl : (bys y).length = 32 := by rw [bys_length, hy]
  have hyo := bys_one y
  have HEL := Lib.hid hE
  have d0 : decide ((f : Int) > 9223372036854775808) = false := by simp; omega
  have d1 : decide ((9223372036854775808 : Int) < (f : Int)) = false := by simp; omega
  have g1 : ((n : Int) == 0) = false := by simp; omega
  have g2 : ((n : Int) != 0) = true := by simp; omega
  have k1 : ((n' : Int) == 0) = false := by simp; omega
  have k2 : ((n' : Int) != 0) = true := by simp; omega
  have p1 : ((r : Int) == 0) = false := by simp; omega
  have p2 : ((r : Int) != 0) = true := by simp; omega
  clear f1 f2 hn hn' hc hc' hl hm hA hA' LK CK CL ha hTab h1 h2 h3 h4 h5 e1 e2 c1 c2 hlk hls hmk hms hx hy hE hr
  go_enter Tryd.func7, Tryd.ntmps7
  go_wp2_with fail
  refine (F1.out _ HA.out).mono ?_; rintro e w1 ⟨rfl, rfl⟩
  go_wp2_with fail
  refine (F2.out _ HA'.out).mono ?_; rintro e w1 ⟨rfl, rfl⟩
  go_wp2_with (refine wpList_load_row rfl 23 _ rfl w.heap.size (by rfl) _ _ _ _ HP.out hdu rfl (by rw [hdi, List.size_toArray, hal]) ?_)
  refine (C1.out _ (HT.out _ B1.out) HA.out).mono ?_; rintro e w2 ⟨v, rfl, hO, b2⟩
  obtain ⟨A1, n1, k1, rfl, hn1, hk1, hE1⟩ := hO.opened
  have HN1 := Lib.hid hn1
  have HK1 := Lib.hid hk1
  have HE1 := Lib.hid hE1
  clear hO hn1 hk1 hE1
  replace HP := Lib.hid (HP.out.up b2)
  replace HA := Lib.hid (HA.out.up b2)
  replace HA' := Lib.hid (HA'.out.up b2)
  replace B1 := Lib.hid (up_trans B1.out b2)
  clear b2
  go_wp2_with (first | (refine wpList_store_save rfl 23 _ _ rfl w2.heap.size 23 (bys z32) (bys x) (by rfl) (by rfl) (Has.make w2 _ (bys z32)) (by rw [hxl, z3]) (by rw [hdi, hxl]) hxo ?_; intro w3 hF s; have bb := made_up rfl s; replace HP := Lib.hid (HP.out.up bb); replace HA := Lib.hid (HA.out.up bb); replace HA' := Lib.hid (HA'.out.up bb); replace HE1 := Lib.hid (HE1.out.up bb); replace B1 := Lib.hid (up_trans B1.out bb); have HX := Lib.hid hF; clear bb hF s) | (refine wpList_load_row rfl 23 _ rfl w.heap.size (by rfl) _ _ _ _ HP.out hdu rfl (by rw [hdi, List.size_toArray, hal]) ?_))
  refine (C2.out _ (HT.out _ B1.out) HA'.out).mono ?_; rintro e w4 ⟨v, rfl, hO, b4⟩
  obtain ⟨A2, n2, k2, rfl, hn2, hk2, hE2⟩ := hO.opened
  have HN2 := Lib.hid hn2
  have HK2 := Lib.hid hk2
  have HE2 := Lib.hid hE2
  clear hO hn2 hk2 hE2
  replace HP := Lib.hid (HP.out.up b4)
  replace HA := Lib.hid (HA.out.up b4)
  replace HA' := Lib.hid (HA'.out.up b4)
  replace HE1 := Lib.hid (HE1.out.up b4)
  replace HX := Lib.hid (HX.out.up b4)
  replace B1 := Lib.hid (up_trans B1.out b4)
  clear b4
  go_wp2_with (first | (refine wpList_store_save rfl 23 _ _ rfl w4.heap.size 23 (bys z32) (bys y) (by rfl) (by rfl) (Has.make w4 _ (bys z32)) (by rw [hyl, z3]) (by rw [hdi, hyl]) hyo ?_; intro w5 hF s; have bb := made_up rfl s; replace HP := Lib.hid (HP.out.up bb); replace HA := Lib.hid (HA.out.up bb); replace HA' := Lib.hid (HA'.out.up bb); replace HE1 := Lib.hid (HE1.out.up bb); replace HE2 := Lib.hid (HE2.out.up bb); replace HX := Lib.hid (HX.out.up bb); replace B1 := Lib.hid (up_trans B1.out bb); have HY := Lib.hid hF; clear bb hF s) | (refine wpList_load_wanted (by rfl) 23 _ rfl w2.heap.size (by rfl) _ _ _ _ HX.out hdu rfl (by rw [hdi, List.size_toArray, hxl]) ?_) | (refine wpList_load_wanted (by rfl) 23 _ rfl w4.heap.size (by rfl) _ _ _ _ HY.out hdu rfl (by rw [hdi, List.size_toArray, hyl]) ?_))
  refine (L9.out _ (HT.out _ B1.out)).mono ?_; rintro e wz ⟨rfl, bz⟩
  go_wp2_with fail
  go_ret
  exact ⟨rfl, up_trans B1.out bz⟩

set_option maxHeartbeats 4000000 in
set_option maxRecDepth 100000 in
theorem tells_bad2 (LK : LinkC) (CK : CheckC) (CL : ClashC) (a : List UInt8) (ha : a.length = 32) (f : Nat) (hf : f < 18446744073709551616) (A A' : Option Addr) (l m : List (List UInt8)) (n n' c c' : Nat) (hn : n = l.length) (hn' : n' = m.length) (hc : n ≤ c) (hc' : n' ≤ c') (hl : l.length ≤ 9223372036854775807) (hm : m.length ≤ 9223372036854775807) (h1 : fewL l = true) (h2 : fewL m = true) (h3 : f ≤ 9223372036854775808) (h4 : n ≠ 0) (h5 : n' ≠ 0) (E1 E2 : List Ev) (x y : List UInt8) (r s : Nat) (hx : x.length = 32) (hy : y.length = 32) (hE : E1.length ≤ 100000) (e1 : chk hsh a f l = (E1, x, r)) (e2 : chk hsh a f m = (E2, y, s)) (hr : r = 0) (hs : s ≠ 0) (w : World) (hTab : Tab w) (hA : StSl w A l) (hA' : StSl w A' m) :
    Calls Tryd.prog 7 #[.agg (bys a).toArray, .int .u64 (f : Nat), .slice A n c, .slice A' n' c'] w fun e w' => e = .returned (.bool true) ∧ Below w.heap.size w w' := by
  have hdi := info_digest
  have hdu := Tryd.underlying23
  have hal : (bys a).length = 32 := by rw [bys_length, ha]
  have z3 : (bys z32).length = 32 := by rw [bys_length]; rfl
  have HP := Lib.hid (Has.make w 23 (bys a))
  have HA := Lib.hid (hA.up (up_alloc (Below.refl w.heap.size w) (.cells (bys a).toArray 23)))
  have HA' := Lib.hid (hA'.up (up_alloc (Below.refl w.heap.size w) (.cells (bys a).toArray 23)))
  have B1 := Lib.hid (up_alloc (Below.refl w.heap.size w) (.cells (bys a).toArray 23))
  have HT := Lib.hid (fun W (hb : Below w.heap.size w W) => tab_up hTab hb)
  have L9 := Lib.hid (fun w hT => linked_any LK CK CL w hT)
  have f1 := fun w hA => few_any A l n c hn hl w hA
  have f2 := fun w hA => few_any A' m n' c' hn' hm w hA
  rw [h1] at f1
  rw [h2] at f2
  have F1 := Lib.hid f1
  have F2 := Lib.hid f2
  have hlk := (fewL_yes h1).1
  have hls : ∀ s ∈ l, s.length ≤ 100000 := fun s hs => by have := fewL_len h1 hs; omega
  have hmk := (fewL_yes h2).1
  have hms : ∀ s ∈ m, s.length ≤ 100000 := fun s hs => by have := fewL_len h2 hs; omega
  have c1 := fun w hT hA => CK a f A l n c w hT ha hf hn hc (by omega) hls hA
  have c2 := fun w hT hA => CK a f A' m n' c' w hT ha hf hn' hc' (by omega) hms hA
  rw [e1] at c1
  rw [e2] at c2
  have C1 := Lib.hid c1
  have C2 := Lib.hid c2
  have hxl : (bys x).length = 32 := by rw [bys_length, hx]
  have hxo := bys_one x
  have hyl : (bys y).length = 32 := by rw [bys_length, hy]
  have hyo := bys_one y
  have HEL := Lib.hid hE
  have d0 : decide ((f : Int) > 9223372036854775808) = false := by simp; omega
  have d1 : decide ((9223372036854775808 : Int) < (f : Int)) = false := by simp; omega
  have g1 : ((n : Int) == 0) = false := by simp; omega
  have g2 : ((n : Int) != 0) = true := by simp; omega
  have k1 : ((n' : Int) == 0) = false := by simp; omega
  have k2 : ((n' : Int) != 0) = true := by simp; omega
  have p1 : ((r : Int) == 0) = true := by simp; omega
  have p2 : ((r : Int) != 0) = false := by simp; omega
  have q1 : ((s : Int) == 0) = false := by simp; omega
  have q2 : ((s : Int) != 0) = true := by simp; omega
  clear f1 f2 hn hn' hc hc' hl hm hA hA' LK CK CL ha hTab h1 h2 h3 h4 h5 e1 e2 c1 c2 hlk hls hmk hms hx hy hE hr hs
  go_enter Tryd.func7, Tryd.ntmps7
  go_wp2_with fail
  refine (F1.out _ HA.out).mono ?_; rintro e w1 ⟨rfl, rfl⟩
  go_wp2_with fail
  refine (F2.out _ HA'.out).mono ?_; rintro e w1 ⟨rfl, rfl⟩
  go_wp2_with (refine wpList_load_row rfl 23 _ rfl w.heap.size (by rfl) _ _ _ _ HP.out hdu rfl (by rw [hdi, List.size_toArray, hal]) ?_)
  refine (C1.out _ (HT.out _ B1.out) HA.out).mono ?_; rintro e w2 ⟨v, rfl, hO, b2⟩
  obtain ⟨A1, n1, k1, rfl, hn1, hk1, hE1⟩ := hO.opened
  have HN1 := Lib.hid hn1
  have HK1 := Lib.hid hk1
  have HE1 := Lib.hid hE1
  clear hO hn1 hk1 hE1
  replace HP := Lib.hid (HP.out.up b2)
  replace HA := Lib.hid (HA.out.up b2)
  replace HA' := Lib.hid (HA'.out.up b2)
  replace B1 := Lib.hid (up_trans B1.out b2)
  clear b2
  go_wp2_with (first | (refine wpList_store_save rfl 23 _ _ rfl w2.heap.size 23 (bys z32) (bys x) (by rfl) (by rfl) (Has.make w2 _ (bys z32)) (by rw [hxl, z3]) (by rw [hdi, hxl]) hxo ?_; intro w3 hF s; have bb := made_up rfl s; replace HP := Lib.hid (HP.out.up bb); replace HA := Lib.hid (HA.out.up bb); replace HA' := Lib.hid (HA'.out.up bb); replace HE1 := Lib.hid (HE1.out.up bb); replace B1 := Lib.hid (up_trans B1.out bb); have HX := Lib.hid hF; clear bb hF s) | (refine wpList_load_row rfl 23 _ rfl w.heap.size (by rfl) _ _ _ _ HP.out hdu rfl (by rw [hdi, List.size_toArray, hal]) ?_))
  refine (C2.out _ (HT.out _ B1.out) HA'.out).mono ?_; rintro e w4 ⟨v, rfl, hO, b4⟩
  obtain ⟨A2, n2, k2, rfl, hn2, hk2, hE2⟩ := hO.opened
  have HN2 := Lib.hid hn2
  have HK2 := Lib.hid hk2
  have HE2 := Lib.hid hE2
  clear hO hn2 hk2 hE2
  replace HP := Lib.hid (HP.out.up b4)
  replace HA := Lib.hid (HA.out.up b4)
  replace HA' := Lib.hid (HA'.out.up b4)
  replace HE1 := Lib.hid (HE1.out.up b4)
  replace HX := Lib.hid (HX.out.up b4)
  replace B1 := Lib.hid (up_trans B1.out b4)
  clear b4
  go_wp2_with (first | (refine wpList_store_save rfl 23 _ _ rfl w4.heap.size 23 (bys z32) (bys y) (by rfl) (by rfl) (Has.make w4 _ (bys z32)) (by rw [hyl, z3]) (by rw [hdi, hyl]) hyo ?_; intro w5 hF s; have bb := made_up rfl s; replace HP := Lib.hid (HP.out.up bb); replace HA := Lib.hid (HA.out.up bb); replace HA' := Lib.hid (HA'.out.up bb); replace HE1 := Lib.hid (HE1.out.up bb); replace HE2 := Lib.hid (HE2.out.up bb); replace HX := Lib.hid (HX.out.up bb); replace B1 := Lib.hid (up_trans B1.out bb); have HY := Lib.hid hF; clear bb hF s) | (refine wpList_load_wanted (by rfl) 23 _ rfl w2.heap.size (by rfl) _ _ _ _ HX.out hdu rfl (by rw [hdi, List.size_toArray, hxl]) ?_) | (refine wpList_load_wanted (by rfl) 23 _ rfl w4.heap.size (by rfl) _ _ _ _ HY.out hdu rfl (by rw [hdi, List.size_toArray, hyl]) ?_))
  refine (L9.out _ (HT.out _ B1.out)).mono ?_; rintro e wz ⟨rfl, bz⟩
  go_wp2_with fail
  go_ret
  exact ⟨rfl, up_trans B1.out bz⟩

set_option maxHeartbeats 4000000 in
set_option maxRecDepth 100000 in
theorem tells_two (LK : LinkC) (CK : CheckC) (CL : ClashC) (a : List UInt8) (ha : a.length = 32) (f : Nat) (hf : f < 18446744073709551616) (A A' : Option Addr) (l m : List (List UInt8)) (n n' c c' : Nat) (hn : n = l.length) (hn' : n' = m.length) (hc : n ≤ c) (hc' : n' ≤ c') (hl : l.length ≤ 9223372036854775807) (hm : m.length ≤ 9223372036854775807) (h1 : fewL l = true) (h2 : fewL m = true) (h3 : f ≤ 9223372036854775808) (h4 : n ≠ 0) (h5 : n' ≠ 0) (E1 E2 : List Ev) (x y : List UInt8) (r s : Nat) (hx : x.length = 32) (hy : y.length = 32) (hE : E1.length ≤ 100000) (e1 : chk hsh a f l = (E1, x, r)) (e2 : chk hsh a f m = (E2, y, s)) (hr : r = 0) (hs : s = 0) (hxy : x ≠ y) (w : World) (hTab : Tab w) (hA : StSl w A l) (hA' : StSl w A' m) :
    Calls Tryd.prog 7 #[.agg (bys a).toArray, .int .u64 (f : Nat), .slice A n c, .slice A' n' c'] w fun e w' => e = .returned (.bool true) ∧ Below w.heap.size w w' := by
  have hdi := info_digest
  have hdu := Tryd.underlying23
  have hal : (bys a).length = 32 := by rw [bys_length, ha]
  have z3 : (bys z32).length = 32 := by rw [bys_length]; rfl
  have HP := Lib.hid (Has.make w 23 (bys a))
  have HA := Lib.hid (hA.up (up_alloc (Below.refl w.heap.size w) (.cells (bys a).toArray 23)))
  have HA' := Lib.hid (hA'.up (up_alloc (Below.refl w.heap.size w) (.cells (bys a).toArray 23)))
  have B1 := Lib.hid (up_alloc (Below.refl w.heap.size w) (.cells (bys a).toArray 23))
  have HT := Lib.hid (fun W (hb : Below w.heap.size w W) => tab_up hTab hb)
  have L9 := Lib.hid (fun w hT => linked_any LK CK CL w hT)
  have f1 := fun w hA => few_any A l n c hn hl w hA
  have f2 := fun w hA => few_any A' m n' c' hn' hm w hA
  rw [h1] at f1
  rw [h2] at f2
  have F1 := Lib.hid f1
  have F2 := Lib.hid f2
  have hlk := (fewL_yes h1).1
  have hls : ∀ s ∈ l, s.length ≤ 100000 := fun s hs => by have := fewL_len h1 hs; omega
  have hmk := (fewL_yes h2).1
  have hms : ∀ s ∈ m, s.length ≤ 100000 := fun s hs => by have := fewL_len h2 hs; omega
  have c1 := fun w hT hA => CK a f A l n c w hT ha hf hn hc (by omega) hls hA
  have c2 := fun w hT hA => CK a f A' m n' c' w hT ha hf hn' hc' (by omega) hms hA
  rw [e1] at c1
  rw [e2] at c2
  have C1 := Lib.hid c1
  have C2 := Lib.hid c2
  have hxl : (bys x).length = 32 := by rw [bys_length, hx]
  have hxo := bys_one x
  have hyl : (bys y).length = 32 := by rw [bys_length, hy]
  have hyo := bys_one y
  have HEL := Lib.hid hE
  have d0 : decide ((f : Int) > 9223372036854775808) = false := by simp; omega
  have d1 : decide ((9223372036854775808 : Int) < (f : Int)) = false := by simp; omega
  have g1 : ((n : Int) == 0) = false := by simp; omega
  have g2 : ((n : Int) != 0) = true := by simp; omega
  have k1 : ((n' : Int) == 0) = false := by simp; omega
  have k2 : ((n' : Int) != 0) = true := by simp; omega
  have p1 : ((r : Int) == 0) = true := by simp; omega
  have p2 : ((r : Int) != 0) = false := by simp; omega
  have q1 : ((s : Int) == 0) = true := by simp; omega
  have q2 : ((s : Int) != 0) = false := by simp; omega
  have NQ := neq_dig x y hx hy
  rw [decide_eq_false hxy] at NQ
  clear f1 f2 hn hn' hc hc' hl hm hA hA' LK CK CL ha hTab h1 h2 h3 h4 h5 e1 e2 c1 c2 hlk hls hmk hms hx hy hE hr hs hxy
  go_enter Tryd.func7, Tryd.ntmps7
  go_wp2_with fail
  refine (F1.out _ HA.out).mono ?_; rintro e w1 ⟨rfl, rfl⟩
  go_wp2_with fail
  refine (F2.out _ HA'.out).mono ?_; rintro e w1 ⟨rfl, rfl⟩
  go_wp2_with (refine wpList_load_row rfl 23 _ rfl w.heap.size (by rfl) _ _ _ _ HP.out hdu rfl (by rw [hdi, List.size_toArray, hal]) ?_)
  refine (C1.out _ (HT.out _ B1.out) HA.out).mono ?_; rintro e w2 ⟨v, rfl, hO, b2⟩
  obtain ⟨A1, n1, k1, rfl, hn1, hk1, hE1⟩ := hO.opened
  have HN1 := Lib.hid hn1
  have HK1 := Lib.hid hk1
  have HE1 := Lib.hid hE1
  clear hO hn1 hk1 hE1
  replace HP := Lib.hid (HP.out.up b2)
  replace HA := Lib.hid (HA.out.up b2)
  replace HA' := Lib.hid (HA'.out.up b2)
  replace B1 := Lib.hid (up_trans B1.out b2)
  clear b2
  go_wp2_with (first | (refine wpList_store_save rfl 23 _ _ rfl w2.heap.size 23 (bys z32) (bys x) (by rfl) (by rfl) (Has.make w2 _ (bys z32)) (by rw [hxl, z3]) (by rw [hdi, hxl]) hxo ?_; intro w3 hF s; have bb := made_up rfl s; replace HP := Lib.hid (HP.out.up bb); replace HA := Lib.hid (HA.out.up bb); replace HA' := Lib.hid (HA'.out.up bb); replace HE1 := Lib.hid (HE1.out.up bb); replace B1 := Lib.hid (up_trans B1.out bb); have HX := Lib.hid hF; clear bb hF s) | (refine wpList_load_row rfl 23 _ rfl w.heap.size (by rfl) _ _ _ _ HP.out hdu rfl (by rw [hdi, List.size_toArray, hal]) ?_))
  refine (C2.out _ (HT.out _ B1.out) HA'.out).mono ?_; rintro e w4 ⟨v, rfl, hO, b4⟩
  obtain ⟨A2, n2, k2, rfl, hn2, hk2, hE2⟩ := hO.opened
  have HN2 := Lib.hid hn2
  have HK2 := Lib.hid hk2
  have HE2 := Lib.hid hE2
  clear hO hn2 hk2 hE2
  replace HP := Lib.hid (HP.out.up b4)
  replace HA := Lib.hid (HA.out.up b4)
  replace HA' := Lib.hid (HA'.out.up b4)
  replace HE1 := Lib.hid (HE1.out.up b4)
  replace HX := Lib.hid (HX.out.up b4)
  replace B1 := Lib.hid (up_trans B1.out b4)
  clear b4
  go_wp2_with (first | (refine wpList_store_save rfl 23 _ _ rfl w4.heap.size 23 (bys z32) (bys y) (by rfl) (by rfl) (Has.make w4 _ (bys z32)) (by rw [hyl, z3]) (by rw [hdi, hyl]) hyo ?_; intro w5 hF s; have bb := made_up rfl s; replace HP := Lib.hid (HP.out.up bb); replace HA := Lib.hid (HA.out.up bb); replace HA' := Lib.hid (HA'.out.up bb); replace HE1 := Lib.hid (HE1.out.up bb); replace HE2 := Lib.hid (HE2.out.up bb); replace HX := Lib.hid (HX.out.up bb); replace B1 := Lib.hid (up_trans B1.out bb); have HY := Lib.hid hF; clear bb hF s) | (refine wpList_load_wanted (by rfl) 23 _ rfl w2.heap.size (by rfl) _ _ _ _ HX.out hdu rfl (by rw [hdi, List.size_toArray, hxl]) ?_) | (refine wpList_load_wanted (by rfl) 23 _ rfl w4.heap.size (by rfl) _ _ _ _ HY.out hdu rfl (by rw [hdi, List.size_toArray, hyl]) ?_))
  refine (L9.out _ (HT.out _ B1.out)).mono ?_; rintro e wz ⟨rfl, bz⟩
  go_wp2_with fail
  go_ret
  exact ⟨rfl, up_trans B1.out bz⟩

set_option maxHeartbeats 4000000 in
set_option maxRecDepth 100000 in
theorem tells_same (LK : LinkC) (CK : CheckC) (CL : ClashC) (a : List UInt8) (ha : a.length = 32) (f : Nat) (hf : f < 18446744073709551616) (A A' : Option Addr) (l m : List (List UInt8)) (n n' c c' : Nat) (hn : n = l.length) (hn' : n' = m.length) (hc : n ≤ c) (hc' : n' ≤ c') (hl : l.length ≤ 9223372036854775807) (hm : m.length ≤ 9223372036854775807) (h1 : fewL l = true) (h2 : fewL m = true) (h3 : f ≤ 9223372036854775808) (h4 : n ≠ 0) (h5 : n' ≠ 0) (E1 E2 : List Ev) (x y : List UInt8) (r s : Nat) (hx : x.length = 32) (hy : y.length = 32) (hE : E1.length ≤ 100000) (e1 : chk hsh a f l = (E1, x, r)) (e2 : chk hsh a f m = (E2, y, s)) (hr : r = 0) (hs : s = 0) (hxy : x = y) (hlm : l = m) (w : World) (hTab : Tab w) (hA : StSl w A l) (hA' : StSl w A' m) :
    Calls Tryd.prog 7 #[.agg (bys a).toArray, .int .u64 (f : Nat), .slice A n c, .slice A' n' c'] w fun e w' => e = .returned (.bool true) ∧ Below w.heap.size w w' := by
  have hdi := info_digest
  have hdu := Tryd.underlying23
  have hal : (bys a).length = 32 := by rw [bys_length, ha]
  have z3 : (bys z32).length = 32 := by rw [bys_length]; rfl
  have HP := Lib.hid (Has.make w 23 (bys a))
  have HA := Lib.hid (hA.up (up_alloc (Below.refl w.heap.size w) (.cells (bys a).toArray 23)))
  have HA' := Lib.hid (hA'.up (up_alloc (Below.refl w.heap.size w) (.cells (bys a).toArray 23)))
  have B1 := Lib.hid (up_alloc (Below.refl w.heap.size w) (.cells (bys a).toArray 23))
  have HT := Lib.hid (fun W (hb : Below w.heap.size w W) => tab_up hTab hb)
  have L9 := Lib.hid (fun w hT => linked_any LK CK CL w hT)
  have f1 := fun w hA => few_any A l n c hn hl w hA
  have f2 := fun w hA => few_any A' m n' c' hn' hm w hA
  rw [h1] at f1
  rw [h2] at f2
  have F1 := Lib.hid f1
  have F2 := Lib.hid f2
  have hlk := (fewL_yes h1).1
  have hls : ∀ s ∈ l, s.length ≤ 100000 := fun s hs => by have := fewL_len h1 hs; omega
  have hmk := (fewL_yes h2).1
  have hms : ∀ s ∈ m, s.length ≤ 100000 := fun s hs => by have := fewL_len h2 hs; omega
  have c1 := fun w hT hA => CK a f A l n c w hT ha hf hn hc (by omega) hls hA
  have c2 := fun w hT hA => CK a f A' m n' c' w hT ha hf hn' hc' (by omega) hms hA
  rw [e1] at c1
  rw [e2] at c2
  have C1 := Lib.hid c1
  have C2 := Lib.hid c2
  have hxl : (bys x).length = 32 := by rw [bys_length, hx]
  have hxo := bys_one x
  have hyl : (bys y).length = 32 := by rw [bys_length, hy]
  have hyo := bys_one y
  have HEL := Lib.hid hE
  have d0 : decide ((f : Int) > 9223372036854775808) = false := by simp; omega
  have d1 : decide ((9223372036854775808 : Int) < (f : Int)) = false := by simp; omega
  have g1 : ((n : Int) == 0) = false := by simp; omega
  have g2 : ((n : Int) != 0) = true := by simp; omega
  have k1 : ((n' : Int) == 0) = false := by simp; omega
  have k2 : ((n' : Int) != 0) = true := by simp; omega
  have p1 : ((r : Int) == 0) = true := by simp; omega
  have p2 : ((r : Int) != 0) = false := by simp; omega
  have q1 : ((s : Int) == 0) = true := by simp; omega
  have q2 : ((s : Int) != 0) = false := by simp; omega
  have NQ := neq_dig x y hx hy
  rw [decide_eq_true hxy] at NQ
  have k9 := fun w hT hA hA' => CL A A' l m n n' c c' w hT hn hn' hc hc' (by omega) (by omega) hls hms hA hA'
  have s9 := fun w hA hA' => same9_any A A' l m n n' c c' hn hn' hl w hA hA'
  rw [decide_eq_true hlm] at s9
  have hk : (clash hsh l m).2.2 = false := by rw [hlm]; exact clash_self m
  rw [hk] at k9
  have K9 := Lib.hid k9
  have S9 := Lib.hid s9
  generalize (⟨(clash hsh l m).1.toArray⟩ : ByteArray) = X at *
  generalize (⟨(clash hsh l m).2.1.toArray⟩ : ByteArray) = Y at *
  have hEE : E1 = E2 := by
    rw [hlm, e2] at e1
    exact (congrArg Prod.fst e1).symm
  have HEE := Lib.hid hEE
  clear f1 f2 hn hn' hc hc' hl hm hA hA' LK CK CL ha hTab h1 h2 h3 h4 h5 e1 e2 c1 c2 hlk hls hmk hms hx hy hE hr hs hxy hlm hk k9 s9 hEE
  go_enter Tryd.func7, Tryd.ntmps7
  go_wp2_with fail
  refine (F1.out _ HA.out).mono ?_; rintro e w1 ⟨rfl, rfl⟩
  go_wp2_with fail
  refine (F2.out _ HA'.out).mono ?_; rintro e w1 ⟨rfl, rfl⟩
  go_wp2_with (refine wpList_load_row rfl 23 _ rfl w.heap.size (by rfl) _ _ _ _ HP.out hdu rfl (by rw [hdi, List.size_toArray, hal]) ?_)
  refine (C1.out _ (HT.out _ B1.out) HA.out).mono ?_; rintro e w2 ⟨v, rfl, hO, b2⟩
  obtain ⟨A1, n1, k1, rfl, hn1, hk1, hE1⟩ := hO.opened
  have HN1 := Lib.hid hn1
  have HK1 := Lib.hid hk1
  have HE1 := Lib.hid hE1
  clear hO hn1 hk1 hE1
  replace HP := Lib.hid (HP.out.up b2)
  replace HA := Lib.hid (HA.out.up b2)
  replace HA' := Lib.hid (HA'.out.up b2)
  replace B1 := Lib.hid (up_trans B1.out b2)
  clear b2
  go_wp2_with (first | (refine wpList_store_save rfl 23 _ _ rfl w2.heap.size 23 (bys z32) (bys x) (by rfl) (by rfl) (Has.make w2 _ (bys z32)) (by rw [hxl, z3]) (by rw [hdi, hxl]) hxo ?_; intro w3 hF s; have bb := made_up rfl s; replace HP := Lib.hid (HP.out.up bb); replace HA := Lib.hid (HA.out.up bb); replace HA' := Lib.hid (HA'.out.up bb); replace HE1 := Lib.hid (HE1.out.up bb); replace B1 := Lib.hid (up_trans B1.out bb); have HX := Lib.hid hF; clear bb hF s) | (refine wpList_load_row rfl 23 _ rfl w.heap.size (by rfl) _ _ _ _ HP.out hdu rfl (by rw [hdi, List.size_toArray, hal]) ?_))
  refine (C2.out _ (HT.out _ B1.out) HA'.out).mono ?_; rintro e w4 ⟨v, rfl, hO, b4⟩
  obtain ⟨A2, n2, k2, rfl, hn2, hk2, hE2⟩ := hO.opened
  have HN2 := Lib.hid hn2
  have HK2 := Lib.hid hk2
  have HE2 := Lib.hid hE2
  clear hO hn2 hk2 hE2
  replace HP := Lib.hid (HP.out.up b4)
  replace HA := Lib.hid (HA.out.up b4)
  replace HA' := Lib.hid (HA'.out.up b4)
  replace HE1 := Lib.hid (HE1.out.up b4)
  replace HX := Lib.hid (HX.out.up b4)
  replace B1 := Lib.hid (up_trans B1.out b4)
  clear b4
  go_wp2_with (first | (refine wpList_store_save rfl 23 _ _ rfl w4.heap.size 23 (bys z32) (bys y) (by rfl) (by rfl) (Has.make w4 _ (bys z32)) (by rw [hyl, z3]) (by rw [hdi, hyl]) hyo ?_; intro w5 hF s; have bb := made_up rfl s; replace HP := Lib.hid (HP.out.up bb); replace HA := Lib.hid (HA.out.up bb); replace HA' := Lib.hid (HA'.out.up bb); replace HE1 := Lib.hid (HE1.out.up bb); replace HE2 := Lib.hid (HE2.out.up bb); replace HX := Lib.hid (HX.out.up bb); replace B1 := Lib.hid (up_trans B1.out bb); have HY := Lib.hid hF; clear bb hF s) | (refine wpList_load_wanted (by rfl) 23 _ rfl w2.heap.size (by rfl) _ _ _ _ HX.out hdu rfl (by rw [hdi, List.size_toArray, hxl]) ?_) | (refine wpList_load_wanted (by rfl) 23 _ rfl w4.heap.size (by rfl) _ _ _ _ HY.out hdu rfl (by rw [hdi, List.size_toArray, hyl]) ?_))
  refine (K9.out _ (HT.out _ B1.out) HA.out HA'.out).mono ?_; rintro e w6 ⟨rfl, b6⟩
  replace HA := Lib.hid (HA.out.up b6)
  replace HA' := Lib.hid (HA'.out.up b6)
  replace HE1 := Lib.hid (HE1.out.up b6)
  replace HE2 := Lib.hid (HE2.out.up b6)
  replace B1 := Lib.hid (up_trans B1.out b6)
  clear b6
  go_wp2_with fail
  refine (S9.out _ HA.out HA'.out).mono ?_; rintro e w7 ⟨rfl, b7⟩
  replace HE1 := Lib.hid (HE1.out.up b7)
  replace HE2 := Lib.hid (HE2.out.up b7)
  replace B1 := Lib.hid (up_trans B1.out b7)
  clear b7
  go_wp2_with fail
  refine (L9.out _ (HT.out _ B1.out)).mono ?_; rintro e wz ⟨rfl, bz⟩
  replace HE1 := Lib.hid (HE1.out.up bz)
  replace HE2 := Lib.hid (HE2.out.up bz)
  go_wp2_with fail
  obtain rfl := HN1.out
  obtain rfl := HEE.out
  obtain rfl := HN2.out
  refine (esame_any A1 A2 E1 _ k1 k2 rfl HK1.out HK2.out HEL.out _ HE1.out HE2.out).mono ?_; rintro e wy ⟨rfl, by_⟩
  go_wp2_with fail
  go_ret
  exact ⟨rfl, up_trans (up_trans B1.out bz) by_⟩

set_option maxHeartbeats 4000000 in
set_option maxRecDepth 100000 in
theorem tells_told (LK : LinkC) (CK : CheckC) (CL : ClashC) (a : List UInt8) (ha : a.length = 32) (f : Nat) (hf : f < 18446744073709551616) (A A' : Option Addr) (l m : List (List UInt8)) (n n' c c' : Nat) (hn : n = l.length) (hn' : n' = m.length) (hc : n ≤ c) (hc' : n' ≤ c') (hl : l.length ≤ 9223372036854775807) (hm : m.length ≤ 9223372036854775807) (h1 : fewL l = true) (h2 : fewL m = true) (h3 : f ≤ 9223372036854775808) (h4 : n ≠ 0) (h5 : n' ≠ 0) (E1 E2 : List Ev) (x y : List UInt8) (r s : Nat) (hx : x.length = 32) (hy : y.length = 32) (hE : E1.length ≤ 100000) (e1 : chk hsh a f l = (E1, x, r)) (e2 : chk hsh a f m = (E2, y, s)) (hr : r = 0) (hs : s = 0) (hxy : x = y) (hlm : l ≠ m) (w : World) (hTab : Tab w) (hA : StSl w A l) (hA' : StSl w A' m) :
    Calls Tryd.prog 7 #[.agg (bys a).toArray, .int .u64 (f : Nat), .slice A n c, .slice A' n' c'] w fun e w' => e = .returned (.bool true) ∧ Below w.heap.size w w' := by
  have hdi := info_digest
  have hdu := Tryd.underlying23
  have hal : (bys a).length = 32 := by rw [bys_length, ha]
  have z3 : (bys z32).length = 32 := by rw [bys_length]; rfl
  have HP := Lib.hid (Has.make w 23 (bys a))
  have HA := Lib.hid (hA.up (up_alloc (Below.refl w.heap.size w) (.cells (bys a).toArray 23)))
  have HA' := Lib.hid (hA'.up (up_alloc (Below.refl w.heap.size w) (.cells (bys a).toArray 23)))
  have B1 := Lib.hid (up_alloc (Below.refl w.heap.size w) (.cells (bys a).toArray 23))
  have HT := Lib.hid (fun W (hb : Below w.heap.size w W) => tab_up hTab hb)
  have L9 := Lib.hid (fun w hT => linked_any LK CK CL w hT)
  have f1 := fun w hA => few_any A l n c hn hl w hA
  have f2 := fun w hA => few_any A' m n' c' hn' hm w hA
  rw [h1] at f1
  rw [h2] at f2
  have F1 := Lib.hid f1
  have F2 := Lib.hid f2
  have hlk := (fewL_yes h1).1
  have hls : ∀ s ∈ l, s.length ≤ 100000 := fun s hs => by have := fewL_len h1 hs; omega
  have hmk := (fewL_yes h2).1
  have hms : ∀ s ∈ m, s.length ≤ 100000 := fun s hs => by have := fewL_len h2 hs; omega
  have c1 := fun w hT hA => CK a f A l n c w hT ha hf hn hc (by omega) hls hA
  have c2 := fun w hT hA => CK a f A' m n' c' w hT ha hf hn' hc' (by omega) hms hA
  rw [e1] at c1
  rw [e2] at c2
  have C1 := Lib.hid c1
  have C2 := Lib.hid c2
  have hxl : (bys x).length = 32 := by rw [bys_length, hx]
  have hxo := bys_one x
  have hyl : (bys y).length = 32 := by rw [bys_length, hy]
  have hyo := bys_one y
  have HEL := Lib.hid hE
  have d0 : decide ((f : Int) > 9223372036854775808) = false := by simp; omega
  have d1 : decide ((9223372036854775808 : Int) < (f : Int)) = false := by simp; omega
  have g1 : ((n : Int) == 0) = false := by simp; omega
  have g2 : ((n : Int) != 0) = true := by simp; omega
  have k1 : ((n' : Int) == 0) = false := by simp; omega
  have k2 : ((n' : Int) != 0) = true := by simp; omega
  have p1 : ((r : Int) == 0) = true := by simp; omega
  have p2 : ((r : Int) != 0) = false := by simp; omega
  have q1 : ((s : Int) == 0) = true := by simp; omega
  have q2 : ((s : Int) != 0) = false := by simp; omega
  have NQ := neq_dig x y hx hy
  rw [decide_eq_true hxy] at NQ
  have k9 := fun w hT hA hA' => CL A A' l m n n' c c' w hT hn hn' hc hc' (by omega) (by omega) hls hms hA hA'
  have s9 := fun w hA hA' => same9_any A A' l m n n' c c' hn hn' hl w hA hA'
  rw [decide_eq_false hlm] at s9
  obtain ⟨u, v, hk, huv, hh, hu, hv⟩ := told_two hf (by rw [← hn]; omega) (by rw [← hn']; omega) (by omega) (by omega) e1 e2 hr hs hxy hlm
  rw [hk] at k9
  have oU := fun w hT => hof_any u (hls u hu) w hT
  have oV := fun w hT => hof_any v (hms v hv) w hT
  rw [← hh] at oV
  have EQ := fun w => eql_dig (hsh u) (hsh u) (hsh_len _) (hsh_len _) w
  rw [decide_eq_true (rfl : hsh u = hsh u)] at EQ
  have hUV : ¬ (⟨u.toArray⟩ : ByteArray).toList = (⟨v.toArray⟩ : ByteArray).toList := by
    rw [ByteArray.toList_eq, ByteArray.toList_eq]
    exact huv
  simp only at k9
  have K9 := Lib.hid k9
  have S9 := Lib.hid s9
  have OU := Lib.hid oU
  have OV := Lib.hid oV
  clear k9 s9 oU oV hk hu hv
  generalize hsh u = d at *
  generalize (⟨u.toArray⟩ : ByteArray) = X at *
  generalize (⟨v.toArray⟩ : ByteArray) = Y at *
  have NE := hUV
  clear f1 f2 hn hn' hc hc' hl hm hA hA' LK CK CL ha hTab h1 h2 h3 h4 h5 e1 e2 c1 c2 hlk hls hmk hms hx hy hE hr hs hxy hlm huv hUV hh
  go_enter Tryd.func7, Tryd.ntmps7
  go_wp2_with fail
  refine (F1.out _ HA.out).mono ?_; rintro e w1 ⟨rfl, rfl⟩
  go_wp2_with fail
  refine (F2.out _ HA'.out).mono ?_; rintro e w1 ⟨rfl, rfl⟩
  go_wp2_with (refine wpList_load_row rfl 23 _ rfl w.heap.size (by rfl) _ _ _ _ HP.out hdu rfl (by rw [hdi, List.size_toArray, hal]) ?_)
  refine (C1.out _ (HT.out _ B1.out) HA.out).mono ?_; rintro e w2 ⟨v, rfl, hO, b2⟩
  obtain ⟨A1, n1, k1, rfl, hn1, hk1, hE1⟩ := hO.opened
  have HN1 := Lib.hid hn1
  have HK1 := Lib.hid hk1
  have HE1 := Lib.hid hE1
  clear hO hn1 hk1 hE1
  replace HP := Lib.hid (HP.out.up b2)
  replace HA := Lib.hid (HA.out.up b2)
  replace HA' := Lib.hid (HA'.out.up b2)
  replace B1 := Lib.hid (up_trans B1.out b2)
  clear b2
  go_wp2_with (first | (refine wpList_store_save rfl 23 _ _ rfl w2.heap.size 23 (bys z32) (bys x) (by rfl) (by rfl) (Has.make w2 _ (bys z32)) (by rw [hxl, z3]) (by rw [hdi, hxl]) hxo ?_; intro w3 hF s; have bb := made_up rfl s; replace HP := Lib.hid (HP.out.up bb); replace HA := Lib.hid (HA.out.up bb); replace HA' := Lib.hid (HA'.out.up bb); replace HE1 := Lib.hid (HE1.out.up bb); replace B1 := Lib.hid (up_trans B1.out bb); have HX := Lib.hid hF; clear bb hF s) | (refine wpList_load_row rfl 23 _ rfl w.heap.size (by rfl) _ _ _ _ HP.out hdu rfl (by rw [hdi, List.size_toArray, hal]) ?_))
  refine (C2.out _ (HT.out _ B1.out) HA'.out).mono ?_; rintro e w4 ⟨v, rfl, hO, b4⟩
  obtain ⟨A2, n2, k2, rfl, hn2, hk2, hE2⟩ := hO.opened
  have HN2 := Lib.hid hn2
  have HK2 := Lib.hid hk2
  have HE2 := Lib.hid hE2
  clear hO hn2 hk2 hE2
  replace HP := Lib.hid (HP.out.up b4)
  replace HA := Lib.hid (HA.out.up b4)
  replace HA' := Lib.hid (HA'.out.up b4)
  replace HE1 := Lib.hid (HE1.out.up b4)
  replace HX := Lib.hid (HX.out.up b4)
  replace B1 := Lib.hid (up_trans B1.out b4)
  clear b4
  go_wp2_with (first | (refine wpList_store_save rfl 23 _ _ rfl w4.heap.size 23 (bys z32) (bys y) (by rfl) (by rfl) (Has.make w4 _ (bys z32)) (by rw [hyl, z3]) (by rw [hdi, hyl]) hyo ?_; intro w5 hF s; have bb := made_up rfl s; replace HP := Lib.hid (HP.out.up bb); replace HA := Lib.hid (HA.out.up bb); replace HA' := Lib.hid (HA'.out.up bb); replace HE1 := Lib.hid (HE1.out.up bb); replace HE2 := Lib.hid (HE2.out.up bb); replace HX := Lib.hid (HX.out.up bb); replace B1 := Lib.hid (up_trans B1.out bb); have HY := Lib.hid hF; clear bb hF s) | (refine wpList_load_wanted (by rfl) 23 _ rfl w2.heap.size (by rfl) _ _ _ _ HX.out hdu rfl (by rw [hdi, List.size_toArray, hxl]) ?_) | (refine wpList_load_wanted (by rfl) 23 _ rfl w4.heap.size (by rfl) _ _ _ _ HY.out hdu rfl (by rw [hdi, List.size_toArray, hyl]) ?_))
  refine (K9.out _ (HT.out _ B1.out) HA.out HA'.out).mono ?_; rintro e w6 ⟨rfl, b6⟩
  replace HA := Lib.hid (HA.out.up b6)
  replace HA' := Lib.hid (HA'.out.up b6)
  replace HE1 := Lib.hid (HE1.out.up b6)
  replace HE2 := Lib.hid (HE2.out.up b6)
  replace B1 := Lib.hid (up_trans B1.out b6)
  clear b6
  go_wp2_with fail
  refine (S9.out _ HA.out HA'.out).mono ?_; rintro e w7 ⟨rfl, b7⟩
  replace HE1 := Lib.hid (HE1.out.up b7)
  replace HE2 := Lib.hid (HE2.out.up b7)
  replace B1 := Lib.hid (up_trans B1.out b7)
  clear b7
  go_wp2_with fail
  refine (L9.out _ (HT.out _ B1.out)).mono ?_; rintro e wz ⟨rfl, bz⟩
  replace B1 := Lib.hid (up_trans B1.out bz)
  clear bz
  go_wp2_with fail
  refine (OU.out _ (HT.out _ B1.out)).mono ?_; rintro e wy ⟨rfl, b8⟩
  replace B1 := Lib.hid (up_trans B1.out b8)
  clear b8
  go_wp2_with fail
  refine (OV.out _ (HT.out _ B1.out)).mono ?_; rintro e wx ⟨rfl, b9⟩
  go_wp2_with fail
  go_ret
  refine ⟨?_, up_trans B1.out b9⟩
  show Ending.returned (.bool (!(X.toList == Y.toList))) = _
  rw [show (X.toList == Y.toList) = false from beq_eq_false_iff_ne.2 NE]
  rfl

theorem ChainTells_core (LK : LinkC) (CK : CheckC) (CL : ClashC) (a : List UInt8) (ha : a.length = 32) (f : Nat) (hf : f < 18446744073709551616) (A A' : Option Addr) (l m : List (List UInt8)) (n n' c c' : Nat) (hn : n = l.length) (hn' : n' = m.length) (hc : n ≤ c) (hc' : n' ≤ c') (hl : l.length ≤ 9223372036854775807) (hm : m.length ≤ 9223372036854775807) (w : World) (hTab : Tab w) (hA : StSl w A l) (hA' : StSl w A' m) :
    Calls Tryd.prog 7 #[.agg (bys a).toArray, .int .u64 (f : Nat), .slice A n c, .slice A' n' c'] w fun e w' => e = .returned (.bool true) ∧ Below w.heap.size w w' := by
  cases h1 : fewL l with
  | false => exact tells_early0 LK CK CL a ha f hf A A' l m n n' c c' hn hn' hc hc' hl hm h1 w hTab hA hA'
  | true =>
    cases h2 : fewL m with
    | false => exact tells_early1 LK CK CL a ha f hf A A' l m n n' c c' hn hn' hc hc' hl hm h1 h2 w hTab hA hA'
    | true =>
      by_cases h3 : f ≤ 9223372036854775808
      · by_cases h4 : n = 0
        · exact tells_early3 LK CK CL a ha f hf A A' l m n n' c c' hn hn' hc hc' hl hm h1 h2 h3 h4 w hTab hA hA'
        · by_cases h5 : n' = 0
          · exact tells_early4 LK CK CL a ha f hf A A' l m n n' c c' hn hn' hc hc' hl hm h1 h2 h3 h4 h5 w hTab hA hA'
          · have hE := chk_few a hf l
            have hlk := (fewL_yes h1).1
            have hx := chk_len ha f l
            have hy := chk_len ha f m
            obtain ⟨E1, x, r, e1⟩ : ∃ E x r, chk hsh a f l = (E, x, r) := ⟨_, _, _, rfl⟩
            obtain ⟨E2, y, s, e2⟩ : ∃ E x r, chk hsh a f m = (E, x, r) := ⟨_, _, _, rfl⟩
            rw [e1] at hE hx
            rw [e2] at hy
            have hE' : E1.length ≤ 100000 := by have : E1.length ≤ 256 * l.length := hE; omega
            by_cases hr : r = 0
            · by_cases hs : s = 0
              · by_cases hxy : x = y
                · by_cases hlm : l = m
                  · exact tells_same LK CK CL a ha f hf A A' l m n n' c c' hn hn' hc hc' hl hm h1 h2 h3 h4 h5 E1 E2 x y r s hx hy hE' e1 e2 hr hs hxy hlm w hTab hA hA'
                  · exact tells_told LK CK CL a ha f hf A A' l m n n' c c' hn hn' hc hc' hl hm h1 h2 h3 h4 h5 E1 E2 x y r s hx hy hE' e1 e2 hr hs hxy hlm w hTab hA hA'
                · exact tells_two LK CK CL a ha f hf A A' l m n n' c c' hn hn' hc hc' hl hm h1 h2 h3 h4 h5 E1 E2 x y r s hx hy hE' e1 e2 hr hs hxy w hTab hA hA'
              · exact tells_bad2 LK CK CL a ha f hf A A' l m n n' c c' hn hn' hc hc' hl hm h1 h2 h3 h4 h5 E1 E2 x y r s hx hy hE' e1 e2 hr hs w hTab hA hA'
            · exact tells_bad1 LK CK CL a ha f hf A A' l m n n' c c' hn hn' hc hc' hl hm h1 h2 h3 h4 h5 E1 E2 x y r s hx hy hE' e1 e2 hr w hTab hA hA'
      · exact tells_early2 LK CK CL a ha f hf A A' l m n n' c c' hn hn' hc hc' hl hm h1 h2 h3 w hTab hA hA'

end Go.Proofs.YthhcopeejhhpgaaDoor
