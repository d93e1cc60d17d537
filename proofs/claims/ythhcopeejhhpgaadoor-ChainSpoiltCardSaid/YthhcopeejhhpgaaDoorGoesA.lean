/- Rows that are linked are checked, and each beginning of them: the law's walk. -/
import Derived.Test.YthhcopeejhhpgaaDoorChRows
namespace Go.Proofs.YthhcopeejhhpgaaDoor
open Go.RowKit Wire Evt Bat Chn

theorem chk_ok {a : List UInt8} {f : Nat} {l : List (List UInt8)} (h : (run hsh l ⟨[], a, f⟩).2 = 0) : chk hsh a f l = ((run hsh l ⟨[], a, f⟩).1.acc, (run hsh l ⟨[], a, f⟩).1.a, 0) := by
  unfold chk
  rw [if_pos h]

theorem take_two {α : Type} {x y l : List α} {j : Nat} (h : x ++ y = l.take j) (hj : j ≤ l.length) : x = l.take x.length ∧ x ++ y = l.take (x.length + y.length) := by
  have hl : x.length + y.length = j := by
    have := congrArg List.length h
    rw [List.length_append, List.length_take] at this
    omega
  refine ⟨?_, by rw [hl]; exact h⟩
  have := congrArg (List.take x.length) h
  rw [List.take_left, List.take_take, Nat.min_eq_left (by omega)] at this
  exact this

/-- What a row that was linked is checked to, whole, and in two pieces. -/
theorem goes_told {a : List UInt8} (ha : a.length = 32) {evs : List Ev} (zs : List Int) (hr : runL evs = true) (hs : ∀ x ∈ evs, x.seq < 18446744073709551616) (hl : evs.length ≤ 256) (hne : evs ≠ []) (hl0 : rws hsh a evs zs ≠ []) (k : Nat) :
    ∃ (E E1 E2 : List Ev) (mid sum : List UInt8) (s : List UInt8), chk hsh a (headSeq evs) (rws hsh a evs zs) = (E, sum, 0) ∧ chk hsh a (headSeq evs) ((rws hsh a evs zs).take k) = (E1, mid, 0) ∧ chk hsh mid ((headSeq evs + E1.length) % 18446744073709551616) ((rws hsh a evs zs).drop k) = (E2, sum, 0) ∧
      E = E1 ++ E2 ∧ E = evs.take E.length ∧ E1 = evs.take E1.length ∧ E.length ≤ evs.length ∧ mid.length = 32 ∧ sum.length = 32 ∧ sum = hsh s ∧ (rws hsh a evs zs)[(rws hsh a evs zs).length - 1]? = some s ∧ headSeq evs < 18446744073709551616 ∧ (k < (rws hsh a evs zs).length → 0 < E2.length) := by
  have hf : headSeq evs < 18446744073709551616 := by
    cases evs with
    | nil => exact absurd rfl hne
    | cons x m => exact hs x (by simp)
  obtain ⟨h1, j, hj, h2⟩ := goes (H := hsh) hsh_len zs evs [] a (headSeq evs) hr hs hl ha (fun _ => rfl)
  generalize rws hsh a evs zs = l at *
  obtain ⟨p1, p2, p3, p4⟩ := run_parts (H := hsh) hf h1 k
  rw [List.nil_append] at h2
  have hm : (run hsh (l.take k) ⟨[], a, headSeq evs⟩).1.a.length = 32 := run_len32 (H := hsh) hsh_len _ ha
  have hS : (run hsh l ⟨[], a, headSeq evs⟩).1.a.length = 32 := run_len32 (H := hsh) hsh_len _ ha
  rw [p4] at h2
  obtain ⟨t1, t2⟩ := take_two h2 hj
  obtain ⟨q, s, rfl⟩ : ∃ q s, l = q ++ [s] := by
    rcases row_cases l with h | h
    · exact absurd h hl0
    · exact h
  obtain ⟨j2, _, q2, q3, _⟩ := run_num (H := hsh) (c := ⟨[], (run hsh ((q ++ [s]).take k) ⟨[], a, headSeq evs⟩).1.a, (headSeq evs + (run hsh ((q ++ [s]).take k) ⟨[], a, headSeq evs⟩).1.acc.length) % 18446744073709551616⟩) (Nat.mod_lt _ (by decide)) p2
  refine ⟨_, _, _, _, _, s, chk_ok h1, chk_ok p1, ?_, p4, ?_, t1, ?_, hm, hS, run_last h1, by simp, hf, fun hk => ?_⟩
  · rw [chk_ok p2, p3]
  · rw [p4, List.length_append]
    exact t2
  · rw [p4, List.length_append]
    have := congrArg List.length h2
    rw [List.length_append, List.length_take] at this
    omega
  · rw [q2]
    rw [List.length_drop] at q3
    simp only [List.length_nil]
    omega

theorem EvSl.front {w : World} {A : Option Addr} {l E : List Ev} {j : Nat} (h : EvSl w A l) (hE : E = l.take j) : EvSl w A E := by
  subst hE
  intro hp
  obtain ⟨g, o, hA, hev⟩ := h (by rw [List.length_take] at hp; omega)
  refine ⟨g, o, hA, ?_⟩
  have := EvAt.part hev 0 j
  simpa using this
theorem EvSl.back {w : World} {g o : Nat} {E E1 E2 : List Ev} (h : EvSl w (some ⟨g, o, none⟩) E) (hE : E = E1 ++ E2) : EvSl w (some ⟨g, o + E1.length * 6, none⟩) E2 := by
  intro hp
  obtain ⟨g', o', hA, hev⟩ := h (by rw [hE, List.length_append]; omega)
  cases hA
  refine ⟨g, o + E1.length * 6, rfl, ?_⟩
  have := EvAt.part hev E1.length E2.length
  rw [hE, List.drop_left, List.take_length] at this
  exact this

/-- Where a check's answer lies. -/
structure Fx (wb w4 : World) (g : Nat) (x : List UInt8) (v : Value) (E : List Ev) : Prop where
  has : Has w4 g 23 (bys x)
  own : OwnE wb.heap.size v E w4
  below : Below wb.heap.size wb w4
  far : wb.heap.size ≤ g

theorem cut_rest {P G : Prop} (h1 : P → G) (h2 : P) : G := h1 h2

theorem OwnE.told {B : Nat} {v : Value} {E : List Ev} {W : World} (h : OwnE B v E W) : ∃ A c, v = .slice A E.length c ∧ E.length ≤ c := by
  obtain ⟨A, n, c, rfl, rfl, h2, _⟩ := h.opened
  exact ⟨A, c, rfl, h2⟩

theorem rws_len (H : List UInt8 → List UInt8) : ∀ (zs : List Int) (a : List UInt8) (evs : List Ev), (rws H a evs zs).length ≤ zs.length
  | [], _, _ => Nat.le_refl _
  | z :: zs, a, evs => by
    rw [rws]
    split
    · simp
    · split
      · rw [List.length_cons, List.length_cons]
        exact Nat.succ_le_succ (rws_len H zs _ _)
      · simp

theorem rws_short (hH : ∀ t, (hsh t).length = 32) : ∀ (zs : List Int) (a : List UInt8) (evs : List Ev), a.length = 32 → (∀ x ∈ evs, x.seq < 18446744073709551616) → ∀ t ∈ rws hsh a evs zs, t.length ≤ 100000
  | [], _, _, _, _, t, h => by simp [rws] at h
  | z :: zs, a, evs, ha, hs, t, h => by
    rw [rws] at h
    split at h
    · cases h
    · split at h
      · next hB =>
        generalize min (max z 1).toNat evs.length = n at *
        rcases List.mem_cons.1 h with rfl | h
        · have h2 : ∀ x ∈ evs.take n, x.seq < 18446744073709551616 := fun x hx => hs x (List.mem_of_mem_take hx)
          have h3 : headSeq (evs.take n) < 18446744073709551616 := by
            cases h : evs.take n with
            | nil => decide
            | cons y l => rw [h] at h2; exact h2 y (List.mem_cons_self ..)
          rw [whole_len]
          have := body_len (b := lnk a (evs.take n)) ⟨h3, ha, h2⟩ hB
          omega
        · exact rws_short hH zs _ _ (hH _) (fun x hx => hs x (List.mem_of_mem_drop hx)) t h
      · cases h

theorem chk_call (CK : CheckC) {a : List UInt8} (ha : a.length = 32) {f : Nat} (hf : f < 18446744073709551616) {l : List (List UInt8)} {E : List Ev} {x : List UInt8} (e : chk hsh a f l = (E, x, 0)) {n nE : Nat} (hn : n = l.length) (hE : nE = E.length) (hl : l.length ≤ 1000) (hls : ∀ s ∈ l, s.length ≤ 100000)
    (AL : Option Addr) (cap : Nat) (hc : n ≤ cap) (W : World) (hT : Tab W) (hV : StSl W AL l) :
    Calls Tryd.prog 14 #[.agg (bys a).toArray, .int .u64 (f : Nat), .slice AL n cap] W fun e w' => ∃ A' c', e = .returned (.tuple #[.slice A' nE c', .agg (bys x).toArray, .int .i64 0]) ∧ nE ≤ c' ∧ OwnE W.heap.size (.slice A' nE c') E w' ∧ Below W.heap.size W w' := by
  have c := CK a f AL l n cap W hT ha hf hn hc hl hls hV
  rw [e] at c
  refine c.mono ?_
  rintro e w' ⟨v, rfl, hO, b⟩
  obtain ⟨A', c', rfl, h⟩ := hO.told
  subst hE
  exact ⟨A', c', rfl, h, hO, b⟩

set_option maxHeartbeats 4000000 in
set_option maxRecDepth 100000 in
theorem goes_early0 (LK : LinkC) (CK : CheckC) (CL : ClashC) (a : List UInt8) (ha : a.length = 32) (evs : List Ev) (_hs : ∀ x ∈ evs, x.seq < 18446744073709551616) (A : Option Addr) (n c : Nat) (hn : n = evs.length) (_hc : n ≤ c) (zs : List Int) (Z : Option Addr) (m d : Nat) (_hm : m = zs.length) (k : Int) (h1 : 200 < n) (w : World) (hTab : Tab w) (hA : EvSl w A evs) (hZ : ZSl w Z zs) :
    Calls Tryd.prog 6 #[.agg (bys a).toArray, .slice A n c, .slice Z m d, .int .i64 k] w fun e w' => e = .returned (.bool true) ∧ Below w.heap.size w w' := by
  have hdi := info_digest
  have hdu := Tryd.underlying23
  have hal : (bys a).length = 32 := by rw [bys_length, ha]
  have HP := Lib.hid (Has.make w 23 (bys a))
  have B1 := Lib.hid (up_alloc (Below.refl w.heap.size w) (.cells (bys a).toArray 23))
  have HA := Lib.hid (fun W (b : Below w.heap.size w W) => hA.up b)
  have HZ := Lib.hid (fun W (b : Below w.heap.size w W) => hZ.up b)
  have HT := Lib.hid (fun W (b : Below w.heap.size w W) => tab_up hTab b)
  have L9 := Lib.hid (fun w hT => linked_any LK CK CL w hT)
  have d1 : decide ((n : Int) > 200) = true := by simp; omega
  have d2 : decide ((200 : Int) < (n : Int)) = true := by simp; omega
  clear hTab hA hZ LK CK CL ha _hs hn _hc _hm h1
  go_enter Tryd.func6, Tryd.ntmps6
  go_wp2_with fail
  refine (L9.out _ (HT.out _ B1.out)).mono ?_; rintro e wz ⟨rfl, bz⟩
  go_wp2_with fail
  go_ret
  exact ⟨rfl, up_trans B1.out bz⟩

set_option maxHeartbeats 4000000 in
set_option maxRecDepth 100000 in
theorem goes_early1 (LK : LinkC) (CK : CheckC) (CL : ClashC) (a : List UInt8) (ha : a.length = 32) (evs : List Ev) (_hs : ∀ x ∈ evs, x.seq < 18446744073709551616) (A : Option Addr) (n c : Nat) (hn : n = evs.length) (_hc : n ≤ c) (zs : List Int) (Z : Option Addr) (m d : Nat) (hm : m = zs.length) (k : Int) (h1 : n ≤ 200) (h2 : 30 < m) (w : World) (hTab : Tab w) (hA : EvSl w A evs) (hZ : ZSl w Z zs) :
    Calls Tryd.prog 6 #[.agg (bys a).toArray, .slice A n c, .slice Z m d, .int .i64 k] w fun e w' => e = .returned (.bool true) ∧ Below w.heap.size w w' := by
  have hdi := info_digest
  have hdu := Tryd.underlying23
  have hal : (bys a).length = 32 := by rw [bys_length, ha]
  have HP := Lib.hid (Has.make w 23 (bys a))
  have B1 := Lib.hid (up_alloc (Below.refl w.heap.size w) (.cells (bys a).toArray 23))
  have HA := Lib.hid (fun W (b : Below w.heap.size w W) => hA.up b)
  have HZ := Lib.hid (fun W (b : Below w.heap.size w W) => hZ.up b)
  have HT := Lib.hid (fun W (b : Below w.heap.size w W) => tab_up hTab b)
  have L9 := Lib.hid (fun w hT => linked_any LK CK CL w hT)
  have d1 : decide ((n : Int) > 200) = false := by simp; omega
  have d2 : decide ((200 : Int) < (n : Int)) = false := by simp; omega
  have g1 : decide ((m : Int) > 30) = true := by simp; omega
  have g2 : decide ((30 : Int) < (m : Int)) = true := by simp; omega
  clear hTab hA hZ LK CK CL ha _hs hn _hc hm h1 h2
  go_enter Tryd.func6, Tryd.ntmps6
  go_wp2_with fail
  refine (L9.out _ (HT.out _ B1.out)).mono ?_; rintro e wz ⟨rfl, bz⟩
  go_wp2_with fail
  go_ret
  exact ⟨rfl, up_trans B1.out bz⟩

set_option maxHeartbeats 4000000 in
set_option maxRecDepth 100000 in
theorem goes_early2 (LK : LinkC) (CK : CheckC) (CL : ClashC) (a : List UInt8) (ha : a.length = 32) (evs : List Ev) (_hs : ∀ x ∈ evs, x.seq < 18446744073709551616) (A : Option Addr) (n c : Nat) (hn : n = evs.length) (_hc : n ≤ c) (zs : List Int) (Z : Option Addr) (m d : Nat) (hm : m = zs.length) (k : Int) (_h1 : n ≤ 200) (h2 : m ≤ 30) (h3 : n = 0) (w : World) (hTab : Tab w) (hA : EvSl w A evs) (hZ : ZSl w Z zs) :
    Calls Tryd.prog 6 #[.agg (bys a).toArray, .slice A n c, .slice Z m d, .int .i64 k] w fun e w' => e = .returned (.bool true) ∧ Below w.heap.size w w' := by
  have hdi := info_digest
  have hdu := Tryd.underlying23
  have hal : (bys a).length = 32 := by rw [bys_length, ha]
  have HP := Lib.hid (Has.make w 23 (bys a))
  have B1 := Lib.hid (up_alloc (Below.refl w.heap.size w) (.cells (bys a).toArray 23))
  have HA := Lib.hid (fun W (b : Below w.heap.size w W) => hA.up b)
  have HZ := Lib.hid (fun W (b : Below w.heap.size w W) => hZ.up b)
  have HT := Lib.hid (fun W (b : Below w.heap.size w W) => tab_up hTab b)
  have L9 := Lib.hid (fun w hT => linked_any LK CK CL w hT)
  have d1 : decide ((n : Int) > 200) = false := by simp; omega
  have d2 : decide ((200 : Int) < (n : Int)) = false := by simp; omega
  have g1 : decide ((m : Int) > 30) = false := by simp; omega
  have g2 : decide ((30 : Int) < (m : Int)) = false := by simp; omega
  have p1 : ((n : Int) == 0) = true := by simp; omega
  have p2 : ((n : Int) != 0) = false := by simp; omega
  clear hTab hA hZ LK CK CL ha _hs hn _hc hm _h1 h2 h3
  go_enter Tryd.func6, Tryd.ntmps6
  go_wp2_with fail
  refine (L9.out _ (HT.out _ B1.out)).mono ?_; rintro e wz ⟨rfl, bz⟩
  go_wp2_with fail
  go_ret
  exact ⟨rfl, up_trans B1.out bz⟩

set_option maxHeartbeats 4000000 in
set_option maxRecDepth 100000 in
theorem goes_early3 (LK : LinkC) (CK : CheckC) (CL : ClashC) (a : List UInt8) (ha : a.length = 32) (evs : List Ev) (hs : ∀ x ∈ evs, x.seq < 18446744073709551616) (A : Option Addr) (n c : Nat) (hn : n = evs.length) (hc : n ≤ c) (zs : List Int) (Z : Option Addr) (m d : Nat) (_hm : m = zs.length) (k : Int) (h1 : n ≤ 200) (h2 : m ≤ 30) (h3 : n ≠ 0) (h4 : runL evs = false) (w : World) (hTab : Tab w) (hA : EvSl w A evs) (hZ : ZSl w Z zs) :
    Calls Tryd.prog 6 #[.agg (bys a).toArray, .slice A n c, .slice Z m d, .int .i64 k] w fun e w' => e = .returned (.bool true) ∧ Below w.heap.size w w' := by
  have hdi := info_digest
  have hdu := Tryd.underlying23
  have hal : (bys a).length = 32 := by rw [bys_length, ha]
  have HP := Lib.hid (Has.make w 23 (bys a))
  have B1 := Lib.hid (up_alloc (Below.refl w.heap.size w) (.cells (bys a).toArray 23))
  have HA := Lib.hid (fun W (b : Below w.heap.size w W) => hA.up b)
  have HZ := Lib.hid (fun W (b : Below w.heap.size w W) => hZ.up b)
  have HT := Lib.hid (fun W (b : Below w.heap.size w W) => tab_up hTab b)
  have L9 := Lib.hid (fun w hT => linked_any LK CK CL w hT)
  have d1 : decide ((n : Int) > 200) = false := by simp; omega
  have d2 : decide ((200 : Int) < (n : Int)) = false := by simp; omega
  have g1 : decide ((m : Int) > 30) = false := by simp; omega
  have g2 : decide ((30 : Int) < (m : Int)) = false := by simp; omega
  have p1 : ((n : Int) == 0) = false := by simp; omega
  have p2 : ((n : Int) != 0) = true := by simp; omega
  have rn := fun w hA => run_len A evs n c hn (by omega) (by omega) hs w hA
  rw [h4] at rn
  have RN := Lib.hid rn
  clear hTab hA hZ LK CK CL ha hs hn hc _hm h1 h2 h3 h4 rn
  go_enter Tryd.func6, Tryd.ntmps6
  go_wp2_with fail
  refine (RN.out _ (HA.out _ B1.out)).mono ?_; rintro e wr ⟨rfl, br⟩
  replace HP := Lib.hid (HP.out.up br)
  replace B1 := Lib.hid (up_trans B1.out br)
  clear br
  go_wp2_with fail
  refine (L9.out _ (HT.out _ B1.out)).mono ?_; rintro e wz ⟨rfl, bz⟩
  go_wp2_with fail
  go_ret
  exact ⟨rfl, up_trans B1.out bz⟩

set_option maxHeartbeats 4000000 in
set_option maxRecDepth 100000 in
theorem goes_early4 (LK : LinkC) (CK : CheckC) (CL : ClashC) (a : List UInt8) (ha : a.length = 32) (evs : List Ev) (hs : ∀ x ∈ evs, x.seq < 18446744073709551616) (A : Option Addr) (n c : Nat) (hn : n = evs.length) (hc : n ≤ c) (zs : List Int) (Z : Option Addr) (m d : Nat) (hm : m = zs.length) (k : Int) (h1 : n ≤ 200) (h2 : m ≤ 30) (h3 : n ≠ 0) (h4 : runL evs = true) (h5 : rws hsh a evs zs = []) (w : World) (hTab : Tab w) (hA : EvSl w A evs) (hZ : ZSl w Z zs) :
    Calls Tryd.prog 6 #[.agg (bys a).toArray, .slice A n c, .slice Z m d, .int .i64 k] w fun e w' => e = .returned (.bool true) ∧ Below w.heap.size w w' := by
  have hdi := info_digest
  have hdu := Tryd.underlying23
  have hal : (bys a).length = 32 := by rw [bys_length, ha]
  have HP := Lib.hid (Has.make w 23 (bys a))
  have B1 := Lib.hid (up_alloc (Below.refl w.heap.size w) (.cells (bys a).toArray 23))
  have HA := Lib.hid (fun W (b : Below w.heap.size w W) => hA.up b)
  have HZ := Lib.hid (fun W (b : Below w.heap.size w W) => hZ.up b)
  have HT := Lib.hid (fun W (b : Below w.heap.size w W) => tab_up hTab b)
  have L9 := Lib.hid (fun w hT => linked_any LK CK CL w hT)
  have d1 : decide ((n : Int) > 200) = false := by simp; omega
  have d2 : decide ((200 : Int) < (n : Int)) = false := by simp; omega
  have g1 : decide ((m : Int) > 30) = false := by simp; omega
  have g2 : decide ((30 : Int) < (m : Int)) = false := by simp; omega
  have p1 : ((n : Int) == 0) = false := by simp; omega
  have p2 : ((n : Int) != 0) = true := by simp; omega
  have rn := fun w hA => run_len A evs n c hn (by omega) (by omega) hs w hA
  rw [h4] at rn
  have RN := Lib.hid rn
  have RW := Lib.hid (fun W hT hA hZ => rows_any LK a ha evs hs zs A Z n c m d hn hc hm (by omega) (by omega) W hT hA hZ)
  rw [h5] at RW
  clear hTab hA hZ LK CK CL ha hs hn hc hm h1 h2 h3 h4 h5 rn
  go_enter Tryd.func6, Tryd.ntmps6
  go_wp2_with fail
  refine (RN.out _ (HA.out _ B1.out)).mono ?_; rintro e wr ⟨rfl, br⟩
  replace HP := Lib.hid (HP.out.up br)
  replace B1 := Lib.hid (up_trans B1.out br)
  clear br
  go_wp2_with (refine wpList_load_row rfl 23 _ rfl w.heap.size (by rfl) _ _ _ _ HP.out hdu rfl (by rw [hdi, List.size_toArray, hal]) ?_)
  refine (RW.out _ (HT.out _ B1.out) (HA.out _ B1.out) (HZ.out _ B1.out)).mono ?_; rintro e w2 ⟨v, rfl, hO, b2⟩
  obtain ⟨AL, cL, rfl, hcL, hSL⟩ := hO.opened
  replace B1 := Lib.hid (up_trans B1.out b2)
  clear hO hSL b2 hcL
  go_wp2_with fail
  refine (L9.out _ (HT.out _ B1.out)).mono ?_; rintro e wz ⟨rfl, bz⟩
  go_wp2_with fail
  go_ret
  exact ⟨rfl, up_trans B1.out bz⟩

set_option maxHeartbeats 4000000 in
set_option maxRecDepth 100000 in
theorem goes_all (LK : LinkC) (CK : CheckC) (CL : ClashC) (a : List UInt8) (ha : a.length = 32) (evs : List Ev) (hs : ∀ x ∈ evs, x.seq < 18446744073709551616) (A : Option Addr) (n c : Nat) (hn : n = evs.length) (hc : n ≤ c) (zs : List Int) (Z : Option Addr) (m d : Nat) (hm : m = zs.length) (k : Int) (h1 : n ≤ 200) (h2 : m ≤ 30) (h3 : n ≠ 0) (h4 : runL evs = true) (h5 : rws hsh a evs zs ≠ []) (kk : Nat) (hkk : min (max k 0) ((rws hsh a evs zs).length : Int) = (kk : Int)) (hkN : kk = (rws hsh a evs zs).length) (w : World) (hTab : Tab w) (hA : EvSl w A evs) (hZ : ZSl w Z zs) :
    Calls Tryd.prog 6 #[.agg (bys a).toArray, .slice A n c, .slice Z m d, .int .i64 k] w fun e w' => e = .returned (.bool true) ∧ Below w.heap.size w w' := by
  have hdi := info_digest
  have hdu := Tryd.underlying23
  have hal : (bys a).length = 32 := by rw [bys_length, ha]
  have HP := Lib.hid (Has.make w 23 (bys a))
  have B1 := Lib.hid (up_alloc (Below.refl w.heap.size w) (.cells (bys a).toArray 23))
  have HA := Lib.hid (fun W (b : Below w.heap.size w W) => hA.up b)
  have HZ := Lib.hid (fun W (b : Below w.heap.size w W) => hZ.up b)
  have HT := Lib.hid (fun W (b : Below w.heap.size w W) => tab_up hTab b)
  have L9 := Lib.hid (fun w hT => linked_any LK CK CL w hT)
  obtain ⟨E, E1, E2, mid, sum, s, k1, k2, k3, kE, kE0, kE1, kEl, hmid, hsum, hss, hlast, hf64, hE2p⟩ := goes_told ha zs h4 hs (by omega) (fun h => h3 (by rw [hn, h]; rfl)) h5 kk
  have hll := rws_len hsh zs a evs
  have hlb := rws_short hsh_len zs a evs ha hs
  have hNN : 0 < (rws hsh a evs zs).length := List.length_pos_iff.2 h5
  have rn := fun w hA => run_len A evs n c hn (by omega) (by omega) hs w hA
  rw [h4] at rn
  have RN := Lib.hid rn
  have RW := Lib.hid (fun W hT hA hZ => rows_any LK a ha evs hs zs A Z n c m d hn hc hm (by omega) (by omega) W hT hA hZ)
  generalize rws hsh a evs zs = l at *
  obtain ⟨f, hf⟩ : ∃ f, f = headSeq evs := ⟨_, rfl⟩
  have hseq : ∀ W, EvSl W A evs → ∃ g o, A = some ⟨g, o, none⟩ ∧ W.cell? ⟨g, o, none⟩ = some (.int .u64 (f : Nat)) := fun W h => by
    obtain ⟨g, o, rfl, hev⟩ := h (by omega)
    refine ⟨g, o, rfl, ?_⟩
    cases hcs : evs with
    | nil => rw [hcs] at hn; simp at hn; omega
    | cons x q =>
      rw [hcs] at hev hf
      rw [hf]
      show W.cell? _ = some (.int .u64 (x.seq : Nat))
      simpa using hev 0 x rfl 0 (.int .u64 (x.seq : Nat)) rfl
  rw [← hf] at k1 k2 k3 hf64
  obtain ⟨ge, oe, rfl, _⟩ := hseq w hA
  have HQ : Hid (∀ W, Below w.heap.size w W → W.cell? ⟨ge, oe, none⟩ = some (.int .u64 (f : Nat))) := Lib.hid fun W b => by
    obtain ⟨g, o, e, h⟩ := hseq W (hA.up b)
    cases e
    exact h
  obtain ⟨N, hN⟩ : ∃ N, N = l.length := ⟨_, rfl⟩
  obtain ⟨nE, hnE⟩ : ∃ nE, nE = E.length := ⟨_, rfl⟩
  obtain ⟨nB, hnB⟩ : ∃ nB, nB = E1.length := ⟨_, rfl⟩
  rw [← hN] at hkk hNN hkN hlast hll
  have hnEn : nE ≤ n := by omega
  have hnBE : nB ≤ nE := by rw [hnE, kE, List.length_append]; omega
  have C1 := Lib.hid (fun AL cap hc W hT hV => chk_call CK ha hf64 k1 hN hnE (by omega) hlb AL cap hc W hT hV)
  have C2 := Lib.hid (fun AL cap hc W hT hV => chk_call CK ha hf64 k2 (n := kk) (by rw [List.length_take]; omega) hnB (by rw [List.length_take]; omega) (fun s hs => hlb s (List.mem_of_mem_take hs)) AL cap hc W hT hV)
  subst kk
  have hmidl : (bys mid).length = 32 := by rw [bys_length, hmid]
  have hmido := bys_one mid
  have hsuml : (bys sum).length = 32 := by rw [bys_length, hsum]
  have hsumo := bys_one sum
  have z3 : (bys z32).length = 32 := by rw [bys_length]; rfl
  have OF := Lib.hid (fun W hT => hof_any s (hlb s (List.mem_of_getElem? hlast)) W hT)
  rw [← hss] at OF
  have EQ := eql_dig sum sum hsum hsum
  rw [decide_eq_true rfl] at EQ
  have d1 : decide ((n : Int) > 200) = false := by simp; omega
  have d2 : decide ((200 : Int) < (n : Int)) = false := by simp; omega
  have g1 : decide ((m : Int) > 30) = false := by simp; omega
  have g2 : decide ((30 : Int) < (m : Int)) = false := by simp; omega
  have p1 : ((n : Int) == 0) = false := by simp; omega
  have p2 : ((n : Int) != 0) = true := by simp; omega
  have q1 : ((N : Int) == 0) = false := by simp; omega
  have q2 : ((N : Int) != 0) = true := by simp; omega
  have e1 : decide ((nE : Int) > (n : Int)) = false := by simp; omega
  have e2 : decide (((n : Int) : Int) < (nE : Int)) = false := by simp; omega
  have u1 : decide ((nB : Int) > (nE : Int)) = false := by simp; omega
  have u2 : decide (((nE : Int) : Int) < (nB : Int)) = false := by simp; omega
  obtain ⟨NL, hNL⟩ : ∃ NL, NL + 1 = N := ⟨N - 1, by omega⟩
  have hN1 : (N : Int) - 1 = (NL : Int) := by omega
  have hN2 : IntKind.i64.wrap (NL : Int) = (NL : Int) := by simp [IntKind.wrap, IntKind.bits, IntKind.signed]; omega
  have hN3 : IntKind.i64.wrap ((N : Int) - 1) = (NL : Int) := by rw [hN1, hN2]
  have hN4 : NL < N := by omega
  have hN5 : (NL : Int) < (N : Int) := by omega
  rw [show N - 1 = NL by omega] at hlast
  have hidx : (0 : Int) < (n : Int) := by omega
  have hidn : 0 < n := by omega
  have N1 : (N : Int) ≤ (N : Int) := by omega
  have lk1 : decide ((N : Int) < (N : Int)) = false := by simp
  have HL := Lib.hid hlast
  have HN := Lib.hid hN
  have HNE := Lib.hid hnE
  have HNB := Lib.hid hnB
  have HKE := Lib.hid kE
  have HK0 := Lib.hid kE0
  have HK1 := Lib.hid kE1
  have HCN := Lib.hid hc
  have H200 := Lib.hid (show nE ≤ 200 ∧ nB ≤ 200 by omega)
  clear hTab hA hZ LK CK CL ha hs hn hc hm h1 h2 h3 h4 h5 rn k1 k2 k3 hss hlast hf hf64 hseq hmid hsum hN hnE hnB kE kE0 kE1 kEl hll hlb hE2p
  go_enter Tryd.func6, Tryd.ntmps6
  go_wp2_with fail
  refine (RN.out _ (HA.out _ B1.out)).mono ?_; rintro e wr ⟨rfl, br⟩
  replace HP := Lib.hid (HP.out.up br)
  replace B1 := Lib.hid (up_trans B1.out br)
  clear br
  go_wp2_with (refine wpList_load_row rfl 23 _ rfl w.heap.size (by rfl) _ _ _ _ HP.out hdu rfl (by rw [hdi, List.size_toArray, hal]) ?_)
  refine (RW.out _ (HT.out _ B1.out) (HA.out _ B1.out) (HZ.out _ B1.out)).mono ?_; rintro e w2 ⟨v, rfl, hO, b2⟩
  obtain ⟨AL, cL, rfl, hcL, hSL⟩ := hO.opened
  have SL := Lib.hid (fun W (b : Below w2.heap.size w2 W) => hSL.up b)
  have P2 := Lib.hid (fun W (b : Below w2.heap.size w2 W) => (HP.out.up b2).up b)
  have B2 := Lib.hid (up_trans B1.out b2)
  have Q2 := Lib.hid (fun W (b : Below w2.heap.size w2 W) => HQ.out W (up_trans B2.out b))
  have T2 := Lib.hid (fun W (b : Below w2.heap.size w2 W) => HT.out W (up_trans B2.out b))
  have A2 := Lib.hid (fun W (b : Below w2.heap.size w2 W) => HA.out W (up_trans B2.out b))
  rw [← HN.out] at hcL ⊢
  obtain ⟨gl, ol, rfl, _⟩ := hSL.out (by rw [← HN.out]; omega)
  have X2 : Hid (∀ W, Below w2.heap.size w2 W → W.cell? ⟨gl, ol + NL, none⟩ = some (.string ⟨s.toArray⟩)) := Lib.hid fun W b => by
    obtain ⟨g, o, e, h⟩ := (SL.out W b).out (by rw [← HN.out]; omega)
    cases e
    exact h _ _ HL.out
  have D1 := Lib.hid (fun W (b : Below w2.heap.size w2 W) => C1.out _ cL hcL W (T2.out W b) (SL.out W b))
  have D2 := Lib.hid (fun W (b : Below w2.heap.size w2 W) => C2.out _ cL (show N ≤ cL by omega) W (T2.out W b) (SL.out W b).take)
  have b22 := Lib.hid (Below.refl w2.heap.size w2)
  clear hO hSL b2 HZ HP HQ RN RW B1 HT C1 C2
  go_wp2_with fail
  apply cut_rest
  case h1 =>
    intro REST
    refine wp_region_held_drew (S := fun W => W.rangeAt w.heap.size 0 (bys a) ∧ W.cell? ⟨ge, oe, none⟩ = some (.int .u64 (f : Nat))) (by kernel_rfl) (⟨(P2.out _ b22.out.drew).whole, Q2.out _ b22.out.drew⟩) (fun hHeld => ?_)
    refine wpAnyH_take (i := 0) rfl (by kernel_rfl) (by kernel_rfl) (by kernel_rfl) (fun _ _ _ h => h) (yieldsIf_load_mid (by rfl) _ _ rfl w.heap.size 0 rfl (bys a) _ (fun W h => h.1) hdu rfl (by rw [hdi, hal])) (by assumption) ?_
    try simp only [Act.put, List.getElem_toArray, List.getElem_cons_zero, List.setIfInBounds_toArray, List.set_cons_zero, List.set_cons_succ]
    refine wpAnyH_take (i := 1) (v := ?_) rfl (by kernel_rfl) (by kernel_rfl) (by kernel_rfl) (fun _ _ _ h => h) (Or.inl ⟨by rfl, ?_⟩) (by assumption) ?_
    rotate_left
    · intro w hSw; (try dsimp only at hSw); go_simp; try with_reducible rfl
    try simp only [Act.put, List.getElem_toArray, List.getElem_cons_zero, List.getElem_cons_succ, List.setIfInBounds_toArray, List.set_cons_zero, List.set_cons_succ]
    refine wpAnyH_take (i := 2) (v := ?_) rfl (by kernel_rfl) (by kernel_rfl) (by kernel_rfl) (fun _ _ _ h => h) (Or.inl ⟨by rfl, ?_⟩) (by assumption) ?_
    rotate_left
    · intro w hSw; (try dsimp only at hSw); go_simp; try with_reducible rfl
    try simp only [Act.put, List.getElem_toArray, List.getElem_cons_zero, List.getElem_cons_succ, List.setIfInBounds_toArray, List.set_cons_zero, List.set_cons_succ]
    refine wpAnyH_take (i := 3) (v := ?_) rfl (by kernel_rfl) (by kernel_rfl) (by kernel_rfl) (fun _ _ _ h => h) (Or.inl ⟨by rfl, ?_⟩) (by assumption) ?_
    rotate_left
    · intro w hSw; (try dsimp only at hSw); go_simp; try with_reducible rfl
    try simp only [Act.put, List.getElem_toArray, List.getElem_cons_zero, List.getElem_cons_succ, List.setIfInBounds_toArray, List.set_cons_zero, List.set_cons_succ]
    refine wpAnyH_take (i := 4) (v := ?_) rfl (by kernel_rfl) (by kernel_rfl) (by kernel_rfl) (fun _ _ _ h => h) (Or.inl ⟨by rfl, ?_⟩) (by assumption) ?_
    rotate_left
    · intro w hSw; (try dsimp only at hSw); go_simp; try with_reducible rfl
    try simp only [Act.put, List.getElem_toArray, List.getElem_cons_zero, List.getElem_cons_succ, List.setIfInBounds_toArray, List.set_cons_zero, List.set_cons_succ]
    refine wpAnyH_take (i := 5) (v := ?_) rfl (by kernel_rfl) (by kernel_rfl) (by kernel_rfl) (fun _ _ _ h => h) (Or.inl ⟨by rfl, ?_⟩) (by assumption) ?_
    rotate_left
    · intro w hSw; (try dsimp only at hSw); go_simp; try with_reducible rfl
    try simp only [Act.put, List.getElem_toArray, List.getElem_cons_zero, List.getElem_cons_succ, List.setIfInBounds_toArray, List.set_cons_zero, List.set_cons_succ]
    refine wpAnyH_ready (rs := [6, 11]) (by kernel_rfl) (by simp) (AllReadyH.cons rfl (fun K hK => ?_) (AllReadyH.cons rfl (fun K hK => ?_) AllReadyH.nil))
    · skip
      go_simp
      refine (D1.out _ (up_trans b22.out (Below.refl _ _).drew)).mono ?_; rintro e wn ⟨Aa, ca, rfl, hc', hO', hbn'⟩
      have hbn : Below w2.heap.size w2 wn := up_trans (Below.refl _ _).drew hbn'
      have HO : Hid (OwnE w2.heap.size (.slice Aa nE ca) E wn) := Lib.hid (hO'.mono_base (Below.size (B := w2.heap.size) (Below.refl _ _).drew))
      have HC := Lib.hid hc'
      try replace HG := Lib.hid (HG.out.up hbn')
      clear hO' hbn' hc'
      go_wp2_with fail
      refine hK.out _ _ (⟨(P2.out _ (up_trans b22.out hbn)).whole, Q2.out _ (up_trans b22.out hbn)⟩) (fun hHeld => ?_)
      clear hK K
      try simp only [Act.put, List.getElem_toArray, List.getElem_cons_zero, List.getElem_cons_succ, List.setIfInBounds_toArray, List.set_cons_zero, List.set_cons_succ]
      refine wpAnyH_take (i := 7) (v := ?_) rfl (by kernel_rfl) (by kernel_rfl) (by kernel_rfl) (fun _ _ _ h => h) (Or.inl ⟨by rfl, ?_⟩) (by assumption) ?_
      rotate_left
      · intro w hSw; (try dsimp only at hSw); go_simp; try with_reducible rfl
      try simp only [Act.put, List.getElem_toArray, List.getElem_cons_zero, List.getElem_cons_succ, List.setIfInBounds_toArray, List.set_cons_zero, List.set_cons_succ]
      refine wpAnyH_take (i := 8) (v := ?_) rfl (by kernel_rfl) (by kernel_rfl) (by kernel_rfl) (fun _ _ _ h => h) (Or.inl ⟨by rfl, ?_⟩) (by assumption) ?_
      rotate_left
      · intro w hSw; (try dsimp only at hSw); go_simp; try with_reducible rfl
      try simp only [Act.put, List.getElem_toArray, List.getElem_cons_zero, List.getElem_cons_succ, List.setIfInBounds_toArray, List.set_cons_zero, List.set_cons_succ]
      refine wpAnyH_take (i := 9) (v := ?_) rfl (by kernel_rfl) (by kernel_rfl) (by kernel_rfl) (fun _ _ _ h => h) (Or.inl ⟨by rfl, ?_⟩) (by assumption) ?_
      rotate_left
      · intro w hSw; (try dsimp only at hSw); go_simp; try with_reducible rfl
      try simp only [Act.put, List.getElem_toArray, List.getElem_cons_zero, List.getElem_cons_succ, List.setIfInBounds_toArray, List.set_cons_zero, List.set_cons_succ]
      refine wpAnyH_take (i := 10) (v := ?_) rfl (by kernel_rfl) (by kernel_rfl) (by kernel_rfl) (fun _ _ _ h => h) (Or.inl ⟨by rfl, ?_⟩) (by assumption) ?_
      rotate_left
      · intro w hSw; (try dsimp only at hSw); go_simp; try with_reducible rfl
      try simp only [Act.put, List.getElem_toArray, List.getElem_cons_zero, List.getElem_cons_succ, List.setIfInBounds_toArray, List.set_cons_zero, List.set_cons_succ]
      refine wpAnyH_ready (rs := [11]) (by kernel_rfl) (by simp) (AllReadyH.cons rfl (fun K hK => ?_) AllReadyH.nil)
      go_simp
      refine hK.out _ _ (⟨(P2.out _ (up_trans b22.out (up_alloc hbn _))).whole, Q2.out _ (up_trans b22.out (up_alloc hbn _))⟩) (fun hHeld => ?_)
      clear hK K
      try simp only [Act.put, List.getElem_toArray, List.getElem_cons_zero, List.getElem_cons_succ, List.setIfInBounds_toArray, List.set_cons_zero, List.set_cons_succ]
      obtain ⟨GG, hGG⟩ : ∃ GG, GG = wn.heap.size := ⟨_, rfl⟩
      have HG : Hid (Has (wn.alloc (.cells (bys z32).toArray 23)) GG 23 (bys z32)) := Lib.hid (by rw [hGG]; exact Has.make wn 23 (bys z32))
      have hge : w2.heap.size ≤ GG := by rw [hGG]; exact hbn.size
      rw [← hGG]
      clear hGG
      replace hbn : Below w2.heap.size w2 (wn.alloc (.cells (bys z32).toArray 23)) := up_alloc hbn _
      replace HO := Lib.hid (HO.out.alloc (.cells (bys z32).toArray 23))
      refine wpAnyH_take (i := 12) (v := ?_) rfl (by kernel_rfl) (by kernel_rfl) (by kernel_rfl) (fun _ _ _ h => h) (Or.inl ⟨by rfl, ?_⟩) (by assumption) ?_
      rotate_left
      · intro w hSw; (try dsimp only at hSw); go_simp; try with_reducible rfl
      try simp only [Act.put, List.getElem_toArray, List.getElem_cons_zero, List.getElem_cons_succ, List.setIfInBounds_toArray, List.set_cons_zero, List.set_cons_succ]
      refine wpAnyH_ready (rs := [13]) (by kernel_rfl) (by simp) (AllReadyH.cons rfl (fun K hK => ?_) AllReadyH.nil)
      refine wp_store_save 23 _ _ rfl GG 23 (bys z32) (bys sum) (by rfl) (by rfl) HG.out (by rw [hsuml, z3]) (by rw [hdi, hsuml]) hsumo ?_; intro wa hF4 s4; have FA : Hid (Fx w2 wa GG sum (.slice Aa nE ca) E ∧ nE ≤ ca) := Lib.hid ⟨⟨hF4, HO.out.save s4 (fun k hk e => Typ.ne HG.out (by decide) (e ▸ hk)), hbn.trans (s4.below (fun k e => by omega) hbn.size), hge⟩, HC.out⟩; clear hF4 s4
      refine hK.out _ _ (⟨(P2.out _ (up_trans b22.out FA.out.1.below)).whole, Q2.out _ (up_trans b22.out FA.out.1.below)⟩) (fun hHeld => ?_)
      clear hK K
      try simp only [Act.put, List.getElem_toArray, List.getElem_cons_zero, List.getElem_cons_succ]
      refine wpAnyH_take (i := 14) (v := ?_) rfl (by kernel_rfl) (by kernel_rfl) (by kernel_rfl) (fun _ _ _ h => h) (Or.inl ⟨by rfl, ?_⟩) (by assumption) ?_
      rotate_left
      · intro w hSw; (try dsimp only at hSw); go_simp; try with_reducible rfl
      try simp only [Act.put, List.getElem_toArray, List.getElem_cons_zero, List.getElem_cons_succ, List.setIfInBounds_toArray, List.set_cons_zero, List.set_cons_succ]
      refine wpAnyH_done (by kernel_rfl) ?_ _
      clear hHeld hbn HG HO HC hge
      revert FA
      revert ca
      revert Aa
      revert wa
      revert GG
      exact REST
    · skip
      go_simp
      refine hK.out _ _ (⟨(P2.out _ (up_trans b22.out (up_alloc (Below.refl _ _).drew _))).whole, Q2.out _ (up_trans b22.out (up_alloc (Below.refl _ _).drew _))⟩) (fun hHeld => ?_)
      clear hK K
      try simp only [Act.put, List.getElem_toArray, List.getElem_cons_zero, List.getElem_cons_succ, List.setIfInBounds_toArray, List.set_cons_zero, List.set_cons_succ]
      obtain ⟨GG, hGG⟩ : ∃ GG, GG = w2.heap.size := ⟨_, rfl⟩
      have HG : Hid (Has (w2.drew.alloc (.cells (bys z32).toArray 23)) GG 23 (bys z32)) := Lib.hid (by rw [hGG]; exact Has.make w2.drew 23 (bys z32))
      have hge : w2.heap.size ≤ GG := by rw [hGG]; exact Nat.le_refl _
      rw [← hGG]
      clear hGG
      refine wpAnyH_ready (rs := [6]) (by kernel_rfl) (by simp) (AllReadyH.cons rfl (fun K hK => ?_) AllReadyH.nil)
      go_simp
      refine (D1.out _ (up_trans b22.out (up_alloc (Below.refl _ _).drew _))).mono ?_; rintro e wn ⟨Aa, ca, rfl, hc', hO', hbn'⟩
      have hbn : Below w2.heap.size w2 wn := up_trans (up_alloc (Below.refl _ _).drew _) hbn'
      have HO : Hid (OwnE w2.heap.size (.slice Aa nE ca) E wn) := Lib.hid (hO'.mono_base (Below.size (B := w2.heap.size) (up_alloc (Below.refl _ _).drew _)))
      have HC := Lib.hid hc'
      try replace HG := Lib.hid (HG.out.up hbn')
      clear hO' hbn' hc'
      go_wp2_with fail
      refine hK.out _ _ (⟨(P2.out _ (up_trans b22.out hbn)).whole, Q2.out _ (up_trans b22.out hbn)⟩) (fun hHeld => ?_)
      clear hK K
      try simp only [Act.put, List.getElem_toArray, List.getElem_cons_zero, List.getElem_cons_succ, List.setIfInBounds_toArray, List.set_cons_zero, List.set_cons_succ]
      refine wpAnyH_take (i := 7) (v := ?_) rfl (by kernel_rfl) (by kernel_rfl) (by kernel_rfl) (fun _ _ _ h => h) (Or.inl ⟨by rfl, ?_⟩) (by assumption) ?_
      rotate_left
      · intro w hSw; (try dsimp only at hSw); go_simp; try with_reducible rfl
      try simp only [Act.put, List.getElem_toArray, List.getElem_cons_zero, List.getElem_cons_succ, List.setIfInBounds_toArray, List.set_cons_zero, List.set_cons_succ]
      refine wpAnyH_take (i := 8) (v := ?_) rfl (by kernel_rfl) (by kernel_rfl) (by kernel_rfl) (fun _ _ _ h => h) (Or.inl ⟨by rfl, ?_⟩) (by assumption) ?_
      rotate_left
      · intro w hSw; (try dsimp only at hSw); go_simp; try with_reducible rfl
      try simp only [Act.put, List.getElem_toArray, List.getElem_cons_zero, List.getElem_cons_succ, List.setIfInBounds_toArray, List.set_cons_zero, List.set_cons_succ]
      refine wpAnyH_take (i := 9) (v := ?_) rfl (by kernel_rfl) (by kernel_rfl) (by kernel_rfl) (fun _ _ _ h => h) (Or.inl ⟨by rfl, ?_⟩) (by assumption) ?_
      rotate_left
      · intro w hSw; (try dsimp only at hSw); go_simp; try with_reducible rfl
      try simp only [Act.put, List.getElem_toArray, List.getElem_cons_zero, List.getElem_cons_succ, List.setIfInBounds_toArray, List.set_cons_zero, List.set_cons_succ]
      refine wpAnyH_take (i := 10) (v := ?_) rfl (by kernel_rfl) (by kernel_rfl) (by kernel_rfl) (fun _ _ _ h => h) (Or.inl ⟨by rfl, ?_⟩) (by assumption) ?_
      rotate_left
      · intro w hSw; (try dsimp only at hSw); go_simp; try with_reducible rfl
      try simp only [Act.put, List.getElem_toArray, List.getElem_cons_zero, List.getElem_cons_succ, List.setIfInBounds_toArray, List.set_cons_zero, List.set_cons_succ]
      refine wpAnyH_take (i := 12) (v := ?_) rfl (by kernel_rfl) (by kernel_rfl) (by kernel_rfl) (fun _ _ _ h => h) (Or.inl ⟨by rfl, ?_⟩) (by assumption) ?_
      rotate_left
      · intro w hSw; (try dsimp only at hSw); go_simp; try with_reducible rfl
      try simp only [Act.put, List.getElem_toArray, List.getElem_cons_zero, List.getElem_cons_succ, List.setIfInBounds_toArray, List.set_cons_zero, List.set_cons_succ]
      refine wpAnyH_ready (rs := [13]) (by kernel_rfl) (by simp) (AllReadyH.cons rfl (fun K hK => ?_) AllReadyH.nil)
      refine wp_store_save 23 _ _ rfl GG 23 (bys z32) (bys sum) (by rfl) (by rfl) HG.out (by rw [hsuml, z3]) (by rw [hdi, hsuml]) hsumo ?_; intro wa hF4 s4; have FA : Hid (Fx w2 wa GG sum (.slice Aa nE ca) E ∧ nE ≤ ca) := Lib.hid ⟨⟨hF4, HO.out.save s4 (fun k hk e => Typ.ne HG.out (by decide) (e ▸ hk)), hbn.trans (s4.below (fun k e => by omega) hbn.size), hge⟩, HC.out⟩; clear hF4 s4
      refine hK.out _ _ (⟨(P2.out _ (up_trans b22.out FA.out.1.below)).whole, Q2.out _ (up_trans b22.out FA.out.1.below)⟩) (fun hHeld => ?_)
      clear hK K
      try simp only [Act.put, List.getElem_toArray, List.getElem_cons_zero, List.getElem_cons_succ]
      refine wpAnyH_take (i := 14) (v := ?_) rfl (by kernel_rfl) (by kernel_rfl) (by kernel_rfl) (fun _ _ _ h => h) (Or.inl ⟨by rfl, ?_⟩) (by assumption) ?_
      rotate_left
      · intro w hSw; (try dsimp only at hSw); go_simp; try with_reducible rfl
      try simp only [Act.put, List.getElem_toArray, List.getElem_cons_zero, List.getElem_cons_succ, List.setIfInBounds_toArray, List.set_cons_zero, List.set_cons_succ]
      refine wpAnyH_done (by kernel_rfl) ?_ _
      clear hHeld hbn HG HO HC hge
      revert FA
      revert ca
      revert Aa
      revert wa
      revert GG
      exact REST
  case h2 =>
    intro G1 wa Aa ca FA
    have ba := FA.out.1.below
    have Ba := Lib.hid ba
    clear ba
    go_wp2_with fail
    apply cut_rest
    case h1 =>
      intro REST
      refine wp_region_held_drew (S := fun W => W.rangeAt w.heap.size 0 (bys a) ∧ W.cell? ⟨ge, oe, none⟩ = some (.int .u64 (f : Nat))) (by kernel_rfl) (⟨(P2.out _ Ba.out.drew).whole, Q2.out _ Ba.out.drew⟩) (fun hHeld => ?_)
      refine wpAnyH_take (i := 0) rfl (by kernel_rfl) (by kernel_rfl) (by kernel_rfl) (fun _ _ _ h => h) (yieldsIf_load_mid (by rfl) _ _ rfl w.heap.size 0 rfl (bys a) _ (fun W h => h.1) hdu rfl (by rw [hdi, hal])) (by assumption) ?_
      try simp only [Act.put, List.getElem_toArray, List.getElem_cons_zero, List.setIfInBounds_toArray, List.set_cons_zero, List.set_cons_succ]
      refine wpAnyH_take (i := 1) (v := ?_) rfl (by kernel_rfl) (by kernel_rfl) (by kernel_rfl) (fun _ _ _ h => h) (Or.inl ⟨by rfl, ?_⟩) (by assumption) ?_
      rotate_left
      · intro w hSw; (try dsimp only at hSw); go_simp; try with_reducible rfl
      try simp only [Act.put, List.getElem_toArray, List.getElem_cons_zero, List.getElem_cons_succ, List.setIfInBounds_toArray, List.set_cons_zero, List.set_cons_succ]
      refine wpAnyH_take (i := 2) (v := ?_) rfl (by kernel_rfl) (by kernel_rfl) (by kernel_rfl) (fun _ _ _ h => h) (Or.inl ⟨by rfl, ?_⟩) (by assumption) ?_
      rotate_left
      · intro w hSw; (try dsimp only at hSw); go_simp; try with_reducible rfl
      try simp only [Act.put, List.getElem_toArray, List.getElem_cons_zero, List.getElem_cons_succ, List.setIfInBounds_toArray, List.set_cons_zero, List.set_cons_succ]
      refine wpAnyH_take (i := 3) (v := ?_) rfl (by kernel_rfl) (by kernel_rfl) (by kernel_rfl) (fun _ _ _ h => h) (Or.inl ⟨by rfl, ?_⟩) (by assumption) ?_
      rotate_left
      · intro w hSw; (try dsimp only at hSw); go_simp; try with_reducible rfl
      try simp only [Act.put, List.getElem_toArray, List.getElem_cons_zero, List.getElem_cons_succ, List.setIfInBounds_toArray, List.set_cons_zero, List.set_cons_succ]
      refine wpAnyH_take (i := 4) (v := ?_) rfl (by kernel_rfl) (by kernel_rfl) (by kernel_rfl) (fun _ _ _ h => h) (Or.inl ⟨by rfl, ?_⟩) (by assumption) ?_
      rotate_left
      · intro w hSw; (try dsimp only at hSw); go_simp; try with_reducible rfl
      try simp only [Act.put, List.getElem_toArray, List.getElem_cons_zero, List.getElem_cons_succ, List.setIfInBounds_toArray, List.set_cons_zero, List.set_cons_succ]
      refine wpAnyH_take (i := 5) (v := ?_) rfl (by kernel_rfl) (by kernel_rfl) (by kernel_rfl) (fun _ _ _ h => h) (Or.inl ⟨by rfl, ?_⟩) (by assumption) ?_
      rotate_left
      · intro w hSw; (try dsimp only at hSw); go_simp; try with_reducible rfl
      try simp only [Act.put, List.getElem_toArray, List.getElem_cons_zero, List.getElem_cons_succ, List.setIfInBounds_toArray, List.set_cons_zero, List.set_cons_succ]
      refine wpAnyH_take (i := 6) (v := ?_) rfl (by kernel_rfl) (by kernel_rfl) (by kernel_rfl) (fun _ _ _ h => h) (Or.inl ⟨by rfl, ?_⟩) (by assumption) ?_
      rotate_left
      · intro w hSw; (try dsimp only at hSw); go_simp; try with_reducible rfl
      try simp only [Act.put, List.getElem_toArray, List.getElem_cons_zero, List.getElem_cons_succ, List.setIfInBounds_toArray, List.set_cons_zero, List.set_cons_succ]
      refine wpAnyH_take (i := 7) (v := ?_) rfl (by kernel_rfl) (by kernel_rfl) (by kernel_rfl) (fun _ _ _ h => h) (Or.inl ⟨by rfl, ?_⟩) (by assumption) ?_
      rotate_left
      · intro w hSw; (try dsimp only at hSw); go_simp; try with_reducible rfl
      try simp only [Act.put, List.getElem_toArray, List.getElem_cons_zero, List.getElem_cons_succ, List.setIfInBounds_toArray, List.set_cons_zero, List.set_cons_succ]
      refine wpAnyH_ready (rs := [8, 13]) (by kernel_rfl) (by simp) (AllReadyH.cons rfl (fun K hK => ?_) (AllReadyH.cons rfl (fun K hK => ?_) AllReadyH.nil))
      · skip
        go_simp
        refine (D2.out _ (up_trans Ba.out (Below.refl _ _).drew)).mono ?_; rintro e wn ⟨Ab, cb, rfl, hc', hO', hbn'⟩
        have hbn : Below wa.heap.size wa wn := up_trans (Below.refl _ _).drew hbn'
        have HO : Hid (OwnE wa.heap.size (.slice Ab nB cb) E1 wn) := Lib.hid (hO'.mono_base (Below.size (B := wa.heap.size) (Below.refl _ _).drew))
        have HC := Lib.hid hc'
        try replace HG := Lib.hid (HG.out.up hbn')
        clear hO' hbn' hc'
        go_wp2_with fail
        refine hK.out _ _ (⟨(P2.out _ (up_trans Ba.out hbn)).whole, Q2.out _ (up_trans Ba.out hbn)⟩) (fun hHeld => ?_)
        clear hK K
        try simp only [Act.put, List.getElem_toArray, List.getElem_cons_zero, List.getElem_cons_succ, List.setIfInBounds_toArray, List.set_cons_zero, List.set_cons_succ]
        refine wpAnyH_take (i := 9) (v := ?_) rfl (by kernel_rfl) (by kernel_rfl) (by kernel_rfl) (fun _ _ _ h => h) (Or.inl ⟨by rfl, ?_⟩) (by assumption) ?_
        rotate_left
        · intro w hSw; (try dsimp only at hSw); go_simp; try with_reducible rfl
        try simp only [Act.put, List.getElem_toArray, List.getElem_cons_zero, List.getElem_cons_succ, List.setIfInBounds_toArray, List.set_cons_zero, List.set_cons_succ]
        refine wpAnyH_take (i := 10) (v := ?_) rfl (by kernel_rfl) (by kernel_rfl) (by kernel_rfl) (fun _ _ _ h => h) (Or.inl ⟨by rfl, ?_⟩) (by assumption) ?_
        rotate_left
        · intro w hSw; (try dsimp only at hSw); go_simp; try with_reducible rfl
        try simp only [Act.put, List.getElem_toArray, List.getElem_cons_zero, List.getElem_cons_succ, List.setIfInBounds_toArray, List.set_cons_zero, List.set_cons_succ]
        refine wpAnyH_take (i := 11) (v := ?_) rfl (by kernel_rfl) (by kernel_rfl) (by kernel_rfl) (fun _ _ _ h => h) (Or.inl ⟨by rfl, ?_⟩) (by assumption) ?_
        rotate_left
        · intro w hSw; (try dsimp only at hSw); go_simp; try with_reducible rfl
        try simp only [Act.put, List.getElem_toArray, List.getElem_cons_zero, List.getElem_cons_succ, List.setIfInBounds_toArray, List.set_cons_zero, List.set_cons_succ]
        refine wpAnyH_take (i := 12) (v := ?_) rfl (by kernel_rfl) (by kernel_rfl) (by kernel_rfl) (fun _ _ _ h => h) (Or.inl ⟨by rfl, ?_⟩) (by assumption) ?_
        rotate_left
        · intro w hSw; (try dsimp only at hSw); go_simp; try with_reducible rfl
        try simp only [Act.put, List.getElem_toArray, List.getElem_cons_zero, List.getElem_cons_succ, List.setIfInBounds_toArray, List.set_cons_zero, List.set_cons_succ]
        refine wpAnyH_ready (rs := [13]) (by kernel_rfl) (by simp) (AllReadyH.cons rfl (fun K hK => ?_) AllReadyH.nil)
        go_simp
        refine hK.out _ _ (⟨(P2.out _ (up_trans Ba.out (up_alloc hbn _))).whole, Q2.out _ (up_trans Ba.out (up_alloc hbn _))⟩) (fun hHeld => ?_)
        clear hK K
        try simp only [Act.put, List.getElem_toArray, List.getElem_cons_zero, List.getElem_cons_succ, List.setIfInBounds_toArray, List.set_cons_zero, List.set_cons_succ]
        obtain ⟨GG, hGG⟩ : ∃ GG, GG = wn.heap.size := ⟨_, rfl⟩
        have HG : Hid (Has (wn.alloc (.cells (bys z32).toArray 23)) GG 23 (bys z32)) := Lib.hid (by rw [hGG]; exact Has.make wn 23 (bys z32))
        have hge : wa.heap.size ≤ GG := by rw [hGG]; exact hbn.size
        rw [← hGG]
        clear hGG
        replace hbn : Below wa.heap.size wa (wn.alloc (.cells (bys z32).toArray 23)) := up_alloc hbn _
        replace HO := Lib.hid (HO.out.alloc (.cells (bys z32).toArray 23))
        refine wpAnyH_take (i := 14) (v := ?_) rfl (by kernel_rfl) (by kernel_rfl) (by kernel_rfl) (fun _ _ _ h => h) (Or.inl ⟨by rfl, ?_⟩) (by assumption) ?_
        rotate_left
        · intro w hSw; (try dsimp only at hSw); go_simp; try with_reducible rfl
        try simp only [Act.put, List.getElem_toArray, List.getElem_cons_zero, List.getElem_cons_succ, List.setIfInBounds_toArray, List.set_cons_zero, List.set_cons_succ]
        refine wpAnyH_ready (rs := [15]) (by kernel_rfl) (by simp) (AllReadyH.cons rfl (fun K hK => ?_) AllReadyH.nil)
        refine wp_store_save 23 _ _ rfl GG 23 (bys z32) (bys mid) (by rfl) (by rfl) HG.out (by rw [hmidl, z3]) (by rw [hdi, hmidl]) hmido ?_; intro wb hF4 s4; have FB : Hid (Fx wa wb GG mid (.slice Ab nB cb) E1 ∧ nB ≤ cb) := Lib.hid ⟨⟨hF4, HO.out.save s4 (fun k hk e => Typ.ne HG.out (by decide) (e ▸ hk)), hbn.trans (s4.below (fun k e => by omega) hbn.size), hge⟩, HC.out⟩; clear hF4 s4
        refine hK.out _ _ (⟨(P2.out _ (up_trans Ba.out FB.out.1.below)).whole, Q2.out _ (up_trans Ba.out FB.out.1.below)⟩) (fun hHeld => ?_)
        clear hK K
        try simp only [Act.put, List.getElem_toArray, List.getElem_cons_zero, List.getElem_cons_succ]
        refine wpAnyH_take (i := 16) (v := ?_) rfl (by kernel_rfl) (by kernel_rfl) (by kernel_rfl) (fun _ _ _ h => h) (Or.inl ⟨by rfl, ?_⟩) (by assumption) ?_
        rotate_left
        · intro w hSw; (try dsimp only at hSw); go_simp; try with_reducible rfl
        try simp only [Act.put, List.getElem_toArray, List.getElem_cons_zero, List.getElem_cons_succ, List.setIfInBounds_toArray, List.set_cons_zero, List.set_cons_succ]
        refine wpAnyH_done (by kernel_rfl) ?_ _
        clear hHeld hbn HG HO HC hge
        revert FB
        revert cb
        revert Ab
        revert wb
        revert GG
        exact REST
      · skip
        go_simp
        refine hK.out _ _ (⟨(P2.out _ (up_trans Ba.out (up_alloc (Below.refl _ _).drew _))).whole, Q2.out _ (up_trans Ba.out (up_alloc (Below.refl _ _).drew _))⟩) (fun hHeld => ?_)
        clear hK K
        try simp only [Act.put, List.getElem_toArray, List.getElem_cons_zero, List.getElem_cons_succ, List.setIfInBounds_toArray, List.set_cons_zero, List.set_cons_succ]
        obtain ⟨GG, hGG⟩ : ∃ GG, GG = wa.heap.size := ⟨_, rfl⟩
        have HG : Hid (Has (wa.drew.alloc (.cells (bys z32).toArray 23)) GG 23 (bys z32)) := Lib.hid (by rw [hGG]; exact Has.make wa.drew 23 (bys z32))
        have hge : wa.heap.size ≤ GG := by rw [hGG]; exact Nat.le_refl _
        rw [← hGG]
        clear hGG
        refine wpAnyH_ready (rs := [8]) (by kernel_rfl) (by simp) (AllReadyH.cons rfl (fun K hK => ?_) AllReadyH.nil)
        go_simp
        refine (D2.out _ (up_trans Ba.out (up_alloc (Below.refl _ _).drew _))).mono ?_; rintro e wn ⟨Ab, cb, rfl, hc', hO', hbn'⟩
        have hbn : Below wa.heap.size wa wn := up_trans (up_alloc (Below.refl _ _).drew _) hbn'
        have HO : Hid (OwnE wa.heap.size (.slice Ab nB cb) E1 wn) := Lib.hid (hO'.mono_base (Below.size (B := wa.heap.size) (up_alloc (Below.refl _ _).drew _)))
        have HC := Lib.hid hc'
        try replace HG := Lib.hid (HG.out.up hbn')
        clear hO' hbn' hc'
        go_wp2_with fail
        refine hK.out _ _ (⟨(P2.out _ (up_trans Ba.out hbn)).whole, Q2.out _ (up_trans Ba.out hbn)⟩) (fun hHeld => ?_)
        clear hK K
        try simp only [Act.put, List.getElem_toArray, List.getElem_cons_zero, List.getElem_cons_succ, List.setIfInBounds_toArray, List.set_cons_zero, List.set_cons_succ]
        refine wpAnyH_take (i := 9) (v := ?_) rfl (by kernel_rfl) (by kernel_rfl) (by kernel_rfl) (fun _ _ _ h => h) (Or.inl ⟨by rfl, ?_⟩) (by assumption) ?_
        rotate_left
        · intro w hSw; (try dsimp only at hSw); go_simp; try with_reducible rfl
        try simp only [Act.put, List.getElem_toArray, List.getElem_cons_zero, List.getElem_cons_succ, List.setIfInBounds_toArray, List.set_cons_zero, List.set_cons_succ]
        refine wpAnyH_take (i := 10) (v := ?_) rfl (by kernel_rfl) (by kernel_rfl) (by kernel_rfl) (fun _ _ _ h => h) (Or.inl ⟨by rfl, ?_⟩) (by assumption) ?_
        rotate_left
        · intro w hSw; (try dsimp only at hSw); go_simp; try with_reducible rfl
        try simp only [Act.put, List.getElem_toArray, List.getElem_cons_zero, List.getElem_cons_succ, List.setIfInBounds_toArray, List.set_cons_zero, List.set_cons_succ]
        refine wpAnyH_take (i := 11) (v := ?_) rfl (by kernel_rfl) (by kernel_rfl) (by kernel_rfl) (fun _ _ _ h => h) (Or.inl ⟨by rfl, ?_⟩) (by assumption) ?_
        rotate_left
        · intro w hSw; (try dsimp only at hSw); go_simp; try with_reducible rfl
        try simp only [Act.put, List.getElem_toArray, List.getElem_cons_zero, List.getElem_cons_succ, List.setIfInBounds_toArray, List.set_cons_zero, List.set_cons_succ]
        refine wpAnyH_take (i := 12) (v := ?_) rfl (by kernel_rfl) (by kernel_rfl) (by kernel_rfl) (fun _ _ _ h => h) (Or.inl ⟨by rfl, ?_⟩) (by assumption) ?_
        rotate_left
        · intro w hSw; (try dsimp only at hSw); go_simp; try with_reducible rfl
        try simp only [Act.put, List.getElem_toArray, List.getElem_cons_zero, List.getElem_cons_succ, List.setIfInBounds_toArray, List.set_cons_zero, List.set_cons_succ]
        refine wpAnyH_take (i := 14) (v := ?_) rfl (by kernel_rfl) (by kernel_rfl) (by kernel_rfl) (fun _ _ _ h => h) (Or.inl ⟨by rfl, ?_⟩) (by assumption) ?_
        rotate_left
        · intro w hSw; (try dsimp only at hSw); go_simp; try with_reducible rfl
        try simp only [Act.put, List.getElem_toArray, List.getElem_cons_zero, List.getElem_cons_succ, List.setIfInBounds_toArray, List.set_cons_zero, List.set_cons_succ]
        refine wpAnyH_ready (rs := [15]) (by kernel_rfl) (by simp) (AllReadyH.cons rfl (fun K hK => ?_) AllReadyH.nil)
        refine wp_store_save 23 _ _ rfl GG 23 (bys z32) (bys mid) (by rfl) (by rfl) HG.out (by rw [hmidl, z3]) (by rw [hdi, hmidl]) hmido ?_; intro wb hF4 s4; have FB : Hid (Fx wa wb GG mid (.slice Ab nB cb) E1 ∧ nB ≤ cb) := Lib.hid ⟨⟨hF4, HO.out.save s4 (fun k hk e => Typ.ne HG.out (by decide) (e ▸ hk)), hbn.trans (s4.below (fun k e => by omega) hbn.size), hge⟩, HC.out⟩; clear hF4 s4
        refine hK.out _ _ (⟨(P2.out _ (up_trans Ba.out FB.out.1.below)).whole, Q2.out _ (up_trans Ba.out FB.out.1.below)⟩) (fun hHeld => ?_)
        clear hK K
        try simp only [Act.put, List.getElem_toArray, List.getElem_cons_zero, List.getElem_cons_succ]
        refine wpAnyH_take (i := 16) (v := ?_) rfl (by kernel_rfl) (by kernel_rfl) (by kernel_rfl) (fun _ _ _ h => h) (Or.inl ⟨by rfl, ?_⟩) (by assumption) ?_
        rotate_left
        · intro w hSw; (try dsimp only at hSw); go_simp; try with_reducible rfl
        try simp only [Act.put, List.getElem_toArray, List.getElem_cons_zero, List.getElem_cons_succ, List.setIfInBounds_toArray, List.set_cons_zero, List.set_cons_succ]
        refine wpAnyH_done (by kernel_rfl) ?_ _
        clear hHeld hbn HG HO HC hge
        revert FB
        revert cb
        revert Ab
        revert wb
        revert GG
        exact REST
    case h2 =>
      intro G2 wb Ab cb FB
      have Bb := Lib.hid (up_trans Ba.out FB.out.1.below)
      have S1 : Hid (∀ W, Below wb.heap.size wb W → Has W G1 23 (bys sum)) := Lib.hid fun W b => (FA.out.1.has.up FB.out.1.below).up b
      have OA : Hid (∀ W, Below wb.heap.size wb W → EvSl W Aa E) := Lib.hid fun W b => ((FA.out.1.own.up FB.out.1.below).up b).slice.2.2
      have OB : Hid (∀ W, Below wb.heap.size wb W → EvSl W Ab E1) := Lib.hid fun W b => (FB.out.1.own.up b).slice.2.2
      have hEa := FA.out.2
      have hEb := FB.out.2
      have i1 : (nE : Int) ≤ (c : Int) := by have := HCN.out; omega
      have i2 : (nB : Int) ≤ (c : Int) := by have := HCN.out; omega
      replace S1 : Hid (∀ W, Below wb.heap.size wb W → Has W G1 23 (bys sum)) := S1
      have SA := Lib.hid (fun W (b : Below wb.heap.size wb W) => esame_any Aa (some ⟨ge, oe, none⟩) E nE ca c HNE.out hEa (by have := HCN.out; omega) (by rw [← HNE.out]; have := H200.out; omega) W (OA.out W b) ((A2.out W (up_trans Bb.out b)).front HK0.out))
      have SB := Lib.hid (fun W (b : Below wb.heap.size wb W) => esame_any Ab (some ⟨ge, oe, none⟩) E1 nB cb c HNB.out hEb (by have := HCN.out; omega) (by rw [← HNB.out]; have := H200.out; omega) W (OB.out W b) ((A2.out W (up_trans Bb.out b)).front HK1.out))
      replace T2 := Lib.hid (fun W (b : Below wb.heap.size wb W) => T2.out W (up_trans Bb.out b))
      replace X2 := Lib.hid (fun W (b : Below wb.heap.size wb W) => X2.out W (up_trans Bb.out b))
      replace B2 := Lib.hid (up_trans B2.out Bb.out)
      have bbb := Lib.hid (Below.refl wb.heap.size wb)
      go_wp2_with fail
      refine wp_region_held_drew (S := fun W => W.rangeAt G1 0 (bys sum) ∧ W.cell? ⟨gl, ol + NL, none⟩ = some (.string ⟨s.toArray⟩)) (by kernel_rfl) (⟨(S1.out _ bbb.out.drew).whole, X2.out _ bbb.out.drew⟩) (fun hHeld => ?_)
      refine wpAnyH_ready (rs := [0]) (by kernel_rfl) (by simp) (AllReadyH.cons rfl (fun K hK => ?_) AllReadyH.nil)
      go_simp
      refine (L9.out _ (T2.out _ (up_trans bbb.out (Below.refl _ _).drew))).mono ?_; rintro e wn ⟨rfl, hbn'⟩
      have hbn : Below wb.heap.size wb wn := up_trans (Below.refl _ _).drew hbn'
      clear hbn'
      go_wp2_with fail
      refine hK.out _ _ (⟨(S1.out _ (up_trans bbb.out hbn)).whole, X2.out _ (up_trans bbb.out hbn)⟩) (fun hHeld => ?_)
      clear hK K
      try simp only [Act.put, List.getElem_toArray, List.getElem_cons_zero, List.getElem_cons_succ, List.setIfInBounds_toArray, List.set_cons_zero, List.set_cons_succ]
      refine wpAnyH_take (i := 1) (v := ?_) rfl (by kernel_rfl) (by kernel_rfl) (by kernel_rfl) (fun _ _ _ h => h) (Or.inl ⟨by rfl, ?_⟩) (by assumption) ?_
      rotate_left
      · intro w hSw; (try dsimp only at hSw); go_simp; try with_reducible rfl
      try simp only [Act.put, List.getElem_toArray, List.getElem_cons_zero, List.getElem_cons_succ, List.setIfInBounds_toArray, List.set_cons_zero, List.set_cons_succ]
      refine wpAnyH_take (i := 2) (v := ?_) rfl (by kernel_rfl) (by kernel_rfl) (by kernel_rfl) (fun _ _ _ h => h) (Or.inl ⟨by rfl, ?_⟩) (by assumption) ?_
      rotate_left
      · intro w hSw; (try dsimp only at hSw); go_simp; try with_reducible rfl
      try simp only [Act.put, List.getElem_toArray, List.getElem_cons_zero, List.getElem_cons_succ, List.setIfInBounds_toArray, List.set_cons_zero, List.set_cons_succ]
      refine wpAnyH_take (i := 3) (v := ?_) rfl (by kernel_rfl) (by kernel_rfl) (by kernel_rfl) (fun _ _ _ h => h) (Or.inl ⟨by rfl, ?_⟩) (by assumption) ?_
      rotate_left
      · intro w hSw; (try dsimp only at hSw); go_simp; try with_reducible rfl
      try simp only [Act.put, List.getElem_toArray, List.getElem_cons_zero, List.getElem_cons_succ, List.setIfInBounds_toArray, List.set_cons_zero, List.set_cons_succ]
      refine wpAnyH_take (i := 4) (v := ?_) rfl (by kernel_rfl) (by kernel_rfl) (by kernel_rfl) (fun _ _ _ h => h) (Or.inl ⟨by rfl, ?_⟩) (by assumption) ?_
      rotate_left
      · intro w hSw; (try dsimp only at hSw); go_simp; try with_reducible rfl
      try simp only [Act.put, List.getElem_toArray, List.getElem_cons_zero, List.getElem_cons_succ, List.setIfInBounds_toArray, List.set_cons_zero, List.set_cons_succ]
      refine wpAnyH_take (i := 5) (v := ?_) rfl (by kernel_rfl) (by kernel_rfl) (by kernel_rfl) (fun _ _ _ h => h) (Or.inl ⟨by rfl, ?_⟩) (by assumption) ?_
      rotate_left
      · intro w hSw; (try dsimp only at hSw); go_simp; try with_reducible rfl
      try simp only [Act.put, List.getElem_toArray, List.getElem_cons_zero, List.getElem_cons_succ, List.setIfInBounds_toArray, List.set_cons_zero, List.set_cons_succ]
      refine wpAnyH_take (i := 6) (v := ?_) rfl (by kernel_rfl) (by kernel_rfl) (by kernel_rfl) (fun _ _ _ h => h) (Or.inl ⟨by rfl, ?_⟩) (by assumption) ?_
      rotate_left
      · intro w hSw; (try dsimp only at hSw); go_simp; try with_reducible rfl
      try simp only [Act.put, List.getElem_toArray, List.getElem_cons_zero, List.getElem_cons_succ, List.setIfInBounds_toArray, List.set_cons_zero, List.set_cons_succ]
      refine wpAnyH_ready (rs := [7]) (by kernel_rfl) (by simp) (AllReadyH.cons rfl (fun K hK => ?_) AllReadyH.nil)
      go_simp
      refine (SA.out _ (up_trans bbb.out hbn)).mono ?_; rintro e wn ⟨rfl, hbn'⟩
      replace hbn : Below wb.heap.size wb wn := up_trans hbn hbn'
      clear hbn'
      go_wp2_with fail
      refine hK.out _ _ (⟨(S1.out _ (up_trans bbb.out hbn)).whole, X2.out _ (up_trans bbb.out hbn)⟩) (fun hHeld => ?_)
      clear hK K
      try simp only [Act.put, List.getElem_toArray, List.getElem_cons_zero, List.getElem_cons_succ, List.setIfInBounds_toArray, List.set_cons_zero, List.set_cons_succ]
      refine wpAnyH_take (i := 8) (v := ?_) rfl (by kernel_rfl) (by kernel_rfl) (by kernel_rfl) (fun _ _ _ h => h) (Or.inl ⟨by rfl, ?_⟩) (by assumption) ?_
      rotate_left
      · intro w hSw; (try dsimp only at hSw); go_simp; try with_reducible rfl
      try simp only [Act.put, List.getElem_toArray, List.getElem_cons_zero, List.getElem_cons_succ, List.setIfInBounds_toArray, List.set_cons_zero, List.set_cons_succ]
      refine wpAnyH_take (i := 9) (v := ?_) rfl (by kernel_rfl) (by kernel_rfl) (by kernel_rfl) (fun _ _ _ h => h) (Or.inl ⟨by rfl, ?_⟩) (by assumption) ?_
      rotate_left
      · intro w hSw; (try dsimp only at hSw); go_simp; try with_reducible rfl
      try simp only [Act.put, List.getElem_toArray, List.getElem_cons_zero, List.getElem_cons_succ, List.setIfInBounds_toArray, List.set_cons_zero, List.set_cons_succ]
      refine wpAnyH_take (i := 10) (v := ?_) rfl (by kernel_rfl) (by kernel_rfl) (by kernel_rfl) (fun _ _ _ h => h) (Or.inl ⟨by rfl, ?_⟩) (by assumption) ?_
      rotate_left
      · intro w hSw; (try dsimp only at hSw); go_simp; try with_reducible rfl
      try simp only [Act.put, List.getElem_toArray, List.getElem_cons_zero, List.getElem_cons_succ, List.setIfInBounds_toArray, List.set_cons_zero, List.set_cons_succ]
      refine wpAnyH_take (i := 11) (v := ?_) rfl (by kernel_rfl) (by kernel_rfl) (by kernel_rfl) (fun _ _ _ h => h) (Or.inl ⟨by rfl, ?_⟩) (by assumption) ?_
      rotate_left
      · intro w hSw; (try dsimp only at hSw); go_simp; try with_reducible rfl
      try simp only [Act.put, List.getElem_toArray, List.getElem_cons_zero, List.getElem_cons_succ, List.setIfInBounds_toArray, List.set_cons_zero, List.set_cons_succ]
      refine wpAnyH_take (i := 12) (v := ?_) rfl (by kernel_rfl) (by kernel_rfl) (by kernel_rfl) (fun _ _ _ h => h) (Or.inl ⟨by rfl, ?_⟩) (by assumption) ?_
      rotate_left
      · intro w hSw; (try dsimp only at hSw); go_simp; try with_reducible rfl
      try simp only [Act.put, List.getElem_toArray, List.getElem_cons_zero, List.getElem_cons_succ, List.setIfInBounds_toArray, List.set_cons_zero, List.set_cons_succ]
      refine wpAnyH_take (i := 13) (v := ?_) rfl (by kernel_rfl) (by kernel_rfl) (by kernel_rfl) (fun _ _ _ h => h) (Or.inl ⟨by rfl, ?_⟩) (by assumption) ?_
      rotate_left
      · intro w hSw; (try dsimp only at hSw); go_simp; try with_reducible rfl
      try simp only [Act.put, List.getElem_toArray, List.getElem_cons_zero, List.getElem_cons_succ, List.setIfInBounds_toArray, List.set_cons_zero, List.set_cons_succ]
      refine wpAnyH_take (i := 14) (v := ?_) rfl (by kernel_rfl) (by kernel_rfl) (by kernel_rfl) (fun _ _ _ h => h) (Or.inl ⟨by rfl, ?_⟩) (by assumption) ?_
      rotate_left
      · intro w hSw; (try dsimp only at hSw); go_simp; try with_reducible rfl
      try simp only [Act.put, List.getElem_toArray, List.getElem_cons_zero, List.getElem_cons_succ, List.setIfInBounds_toArray, List.set_cons_zero, List.set_cons_succ]
      refine wpAnyH_ready (rs := [15]) (by kernel_rfl) (by simp) (AllReadyH.cons rfl (fun K hK => ?_) AllReadyH.nil)
      go_simp
      refine (SB.out _ (up_trans bbb.out hbn)).mono ?_; rintro e wn ⟨rfl, hbn'⟩
      replace hbn : Below wb.heap.size wb wn := up_trans hbn hbn'
      clear hbn'
      go_wp2_with fail
      refine hK.out _ _ (⟨(S1.out _ (up_trans bbb.out hbn)).whole, X2.out _ (up_trans bbb.out hbn)⟩) (fun hHeld => ?_)
      clear hK K
      try simp only [Act.put, List.getElem_toArray, List.getElem_cons_zero, List.getElem_cons_succ, List.setIfInBounds_toArray, List.set_cons_zero, List.set_cons_succ]
      refine wpAnyH_take (i := 16) (v := ?_) rfl (by kernel_rfl) (by kernel_rfl) (by kernel_rfl) (fun _ _ _ h => h) (Or.inl ⟨by rfl, ?_⟩) (by assumption) ?_
      rotate_left
      · intro w hSw; (try dsimp only at hSw); go_simp; try with_reducible rfl
      try simp only [Act.put, List.getElem_toArray, List.getElem_cons_zero, List.getElem_cons_succ, List.setIfInBounds_toArray, List.set_cons_zero, List.set_cons_succ]
      refine wpAnyH_take (i := 17) (v := ?_) rfl (by kernel_rfl) (by kernel_rfl) (by kernel_rfl) (fun _ _ _ h => h) (Or.inl ⟨by rfl, ?_⟩) (by assumption) ?_
      rotate_left
      · intro w hSw; (try dsimp only at hSw); go_simp; try with_reducible rfl
      try simp only [Act.put, List.getElem_toArray, List.getElem_cons_zero, List.getElem_cons_succ, List.setIfInBounds_toArray, List.set_cons_zero, List.set_cons_succ]
      refine wpAnyH_take (i := 18) rfl (by kernel_rfl) (by kernel_rfl) (by kernel_rfl) (fun _ _ _ h => h) (yieldsIf_load_mid (by rfl) _ _ rfl G1 0 rfl (bys sum) _ (fun W h => h.1) hdu rfl (by rw [hdi, hsuml])) (by assumption) ?_
      try simp only [Act.put, List.getElem_toArray, List.getElem_cons_zero, List.getElem_cons_succ, List.setIfInBounds_toArray, List.set_cons_zero, List.set_cons_succ]
      refine wpAnyH_take (i := 19) (v := ?_) rfl (by kernel_rfl) (by kernel_rfl) (by kernel_rfl) (fun _ _ _ h => h) (Or.inl ⟨by rfl, ?_⟩) (by assumption) ?_
      rotate_left
      · intro w hSw; (try dsimp only at hSw); go_simp; try with_reducible rfl
      try simp only [Act.put, List.getElem_toArray, List.getElem_cons_zero, List.getElem_cons_succ, List.setIfInBounds_toArray, List.set_cons_zero, List.set_cons_succ]
      refine wpAnyH_take (i := 20) (v := ?_) rfl (by kernel_rfl) (by kernel_rfl) (by kernel_rfl) (fun _ _ _ h => h) (Or.inl ⟨by rfl, ?_⟩) (by assumption) ?_
      rotate_left
      · intro w hSw; (try dsimp only at hSw); go_simp; try with_reducible rfl
      try simp only [Act.put, List.getElem_toArray, List.getElem_cons_zero, List.getElem_cons_succ, List.setIfInBounds_toArray, List.set_cons_zero, List.set_cons_succ]
      refine wpAnyH_take (i := 21) (v := ?_) rfl (by kernel_rfl) (by kernel_rfl) (by kernel_rfl) (fun _ _ _ h => h) (Or.inl ⟨by rfl, ?_⟩) (by assumption) ?_
      rotate_left
      · intro w hSw; (try dsimp only at hSw); go_simp; try with_reducible rfl
      try simp only [Act.put, List.getElem_toArray, List.getElem_cons_zero, List.getElem_cons_succ, List.setIfInBounds_toArray, List.set_cons_zero, List.set_cons_succ]
      refine wpAnyH_take (i := 22) (v := ?_) rfl (by kernel_rfl) (by kernel_rfl) (by kernel_rfl) (fun _ _ _ h => h) (Or.inl ⟨by rfl, ?_⟩) (by assumption) ?_
      rotate_left
      · intro w hSw; (try dsimp only at hSw); go_simp; try with_reducible rfl
      try simp only [Act.put, List.getElem_toArray, List.getElem_cons_zero, List.getElem_cons_succ, List.setIfInBounds_toArray, List.set_cons_zero, List.set_cons_succ]
      refine wpAnyH_take (i := 23) (v := ?_) rfl (by kernel_rfl) (by kernel_rfl) (by kernel_rfl) (fun _ _ _ h => h) (Or.inl ⟨by rfl, ?_⟩) (by assumption) ?_
      rotate_left
      · intro w hSw; (try dsimp only at hSw); go_simp; try with_reducible rfl
      try simp only [Act.put, List.getElem_toArray, List.getElem_cons_zero, List.getElem_cons_succ, List.setIfInBounds_toArray, List.set_cons_zero, List.set_cons_succ]
      refine wpAnyH_take (i := 24) (v := ?_) rfl (by kernel_rfl) (by kernel_rfl) (by kernel_rfl) (fun _ _ _ h => h) (Or.inl ⟨by rfl, ?_⟩) (by assumption) ?_
      rotate_left
      · intro w hSw; (try dsimp only at hSw); go_simp; try with_reducible rfl
      try simp only [Act.put, List.getElem_toArray, List.getElem_cons_zero, List.getElem_cons_succ, List.setIfInBounds_toArray, List.set_cons_zero, List.set_cons_succ]
      refine wpAnyH_ready (rs := [25]) (by kernel_rfl) (by simp) (AllReadyH.cons rfl (fun K hK => ?_) AllReadyH.nil)
      go_simp
      refine (OF.out _ (T2.out _ (up_trans bbb.out hbn))).mono ?_; rintro e wn ⟨rfl, hbn'⟩
      replace hbn : Below wb.heap.size wb wn := up_trans hbn hbn'
      clear hbn'
      go_wp2_with fail
      refine hK.out _ _ (⟨(S1.out _ (up_trans bbb.out hbn)).whole, X2.out _ (up_trans bbb.out hbn)⟩) (fun hHeld => ?_)
      clear hK K
      try simp only [Act.put, List.getElem_toArray, List.getElem_cons_zero, List.getElem_cons_succ, List.setIfInBounds_toArray, List.set_cons_zero, List.set_cons_succ]
      refine wpAnyH_take (i := 26) (v := ?_) rfl (by kernel_rfl) (by kernel_rfl) (by kernel_rfl) (fun _ _ _ h => h) (Or.inl ⟨by rfl, ?_⟩) (by assumption) ?_
      rotate_left
      · intro w hSw; (try dsimp only at hSw); go_simp; try with_reducible rfl
      try simp only [Act.put, List.getElem_toArray, List.getElem_cons_zero, List.getElem_cons_succ, List.setIfInBounds_toArray, List.set_cons_zero, List.set_cons_succ]
      refine wpAnyH_take (i := 27) (v := ?_) rfl (by kernel_rfl) (by kernel_rfl) (by kernel_rfl) (fun _ _ _ h => h) (Or.inl ⟨by rfl, ?_⟩) (by assumption) ?_
      rotate_left
      · intro w hSw; (try dsimp only at hSw); go_simp; try with_reducible rfl
      try simp only [Act.put, List.getElem_toArray, List.getElem_cons_zero, List.getElem_cons_succ, List.setIfInBounds_toArray, List.set_cons_zero, List.set_cons_succ]
      refine wpAnyH_take (i := 28) (v := ?_) rfl (by kernel_rfl) (by kernel_rfl) (by kernel_rfl) (fun _ _ _ h => h) (Or.inl ⟨by rfl, ?_⟩) (by assumption) ?_
      rotate_left
      · intro w hSw; (try dsimp only at hSw); go_simp; try with_reducible rfl
      try simp only [Act.put, List.getElem_toArray, List.getElem_cons_zero, List.getElem_cons_succ, List.setIfInBounds_toArray, List.set_cons_zero, List.set_cons_succ]
      refine wpAnyH_done (by kernel_rfl) ?_ _
      skip
      go_wp2_with fail
      go_ret
      exact ⟨rfl, up_trans B2.out (up_trans bbb.out hbn)⟩

end Go.Proofs.YthhcopeejhhpgaaDoor
