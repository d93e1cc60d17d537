/- The law's row of two batches: what it comes to, by the contracts of Link, Check and Clash. -/
import Derived.Test.YthhcopeejhhpgaaDoorLinkedP
import Derived.Test.YthhcopeejhhpgaaDoorChCheck
namespace Go.Proofs.YthhcopeejhhpgaaDoor
open Go.RowKit Wire Evt Bat Chn

/-- What chain.Link is to do: a batch (any cells), the bytes, a number. -/
def LinkC : Prop := ∀ (p : List UInt8) (l : List Ev) (A : Option Addr) (n cap : Nat) (w : World), p.length = 32 → (∀ x ∈ l, x.seq < 18446744073709551616) → n = l.length → n ≤ cap → l.length ≤ 1000 → EvSl w A l →
  Calls Tryd.prog 9 #[.agg (bys p).toArray, .slice A n cap] w fun e w' => (∃ L : List Value, L.length = 34 ∧ (∀ v ∈ L, v.oneCell' = true) ∧ e = .returned (.tuple #[.agg L.toArray, .string ⟨(putB (lnk p l)).1.toArray⟩, .int .i64 ((putB (lnk p l)).2 : Nat)])) ∧ Below w.heap.size w w'
/-- What chain.Check is to do. -/
def CheckC : Prop := ∀ (a : List UInt8) (f : Nat) (A : Option Addr) (l : List (List UInt8)) (n cap : Nat) (w : World), Tab w → a.length = 32 → f < 18446744073709551616 → n = l.length → n ≤ cap → l.length ≤ 1000 → (∀ s ∈ l, s.length ≤ 100000) → StSl w A l →
  Calls Tryd.prog 14 #[.agg (bys a).toArray, .int .u64 (f : Nat), .slice A n cap] w (ChkPost w (chk hsh a f l))
/-- What chain.Clash is to do. -/
def ClashC : Prop := ∀ (A A' : Option Addr) (l m : List (List UInt8)) (n n' c c' : Nat) (w : World), Tab w → n = l.length → n' = m.length → n ≤ c → n' ≤ c' → l.length ≤ 1000 → m.length ≤ 1000 → (∀ s ∈ l, s.length ≤ 100000) → (∀ s ∈ m, s.length ≤ 100000) → StSl w A l → StSl w A' m →
  Calls Tryd.prog 17 #[.slice A n c, .slice A' n' c'] w fun e w' => e = .returned (.tuple #[.string ⟨(clash hsh l m).1.toArray⟩, .string ⟨(clash hsh l m).2.1.toArray⟩, .bool (clash hsh l m).2.2]) ∧ Below w.heap.size w w'

theorem evSl_e {w : World} {g : Nat} {x : Ev} (h : Has w g 47 (evc x)) : EvSl w (some ⟨g, 0, none⟩) [x] := fun _ =>
  ⟨g, 0, rfl, EvAt.of_has (by rw [show [x].flatMap evc = evc x by simp]; exact h)⟩

theorem stSl_one {w : World} {g : Nat} {s : List UInt8} (h0 : w.cell? ⟨g, 0, none⟩ = some (.string ⟨s.toArray⟩)) : StSl w (some ⟨g, 0, none⟩) [s] := ⟨fun _ => ⟨g, 0, rfl, fun i x hx => by
  match i with
  | 0 => cases hx; exact h0
  | i + 1 => simp at hx⟩⟩
theorem stSl_two {w : World} {g : Nat} {s t : List UInt8} (h0 : w.cell? ⟨g, 0, none⟩ = some (.string ⟨s.toArray⟩)) (h1 : w.cell? ⟨g, 1, none⟩ = some (.string ⟨t.toArray⟩)) : StSl w (some ⟨g, 0, none⟩) [s, t] := ⟨fun _ => ⟨g, 0, rfl, fun i x hx => by
  match i with
  | 0 => cases hx; exact h0
  | 1 => cases hx; exact h1
  | i + 2 => simp at hx⟩⟩

theorem lSh : lS.length ≤ 100000 := by decide
theorem lTh : lT.length ≤ 100000 := by decide

theorem lSTh : ∀ s ∈ [lS, lT], s.length ≤ 100000 := by
  intro s hs
  simp at hs
  rcases hs with rfl | rfl
  · exact lSh
  · exact lTh
theorem lTSh : ∀ s ∈ [lT, lS], s.length ≤ 100000 := by
  intro s hs
  simp at hs
  rcases hs with rfl | rfl
  · exact lTh
  · exact lSh

theorem link7 (C : LinkC) (g cap : Nat) (hc : 1 ≤ cap) (w : World) (hA : Has w g 47 (evc e7)) :
    Calls Tryd.prog 9 #[.agg (bys z32).toArray, .slice (some ⟨g, 0, none⟩) 1 cap] w fun e w' => (∃ L : List Value, L.length = 34 ∧ (∀ v ∈ L, v.oneCell' = true) ∧ e = .returned (.tuple #[.agg L.toArray, .string ⟨lS.toArray⟩, .int .i64 0])) ∧ Below w.heap.size w w' := by
  have c := C z32 [e7] _ 1 cap w rfl (by intro x hx; obtain rfl := List.mem_singleton.1 hx; decide) rfl hc (by decide) (evSl_e hA)
  rw [putB_yes (show isB (lnk z32 [e7]).first (lnk z32 [e7]).evs = true from b7), lS_whole] at c
  exact c
theorem link8 (C : LinkC) (g cap : Nat) (hc : 1 ≤ cap) (w : World) (hA : Has w g 47 (evc e8)) :
    Calls Tryd.prog 9 #[.agg (bys hS).toArray, .slice (some ⟨g, 0, none⟩) 1 cap] w fun e w' => (∃ L : List Value, L.length = 34 ∧ (∀ v ∈ L, v.oneCell' = true) ∧ e = .returned (.tuple #[.agg L.toArray, .string ⟨lT.toArray⟩, .int .i64 0])) ∧ Below w.heap.size w w' := by
  have c := C hS [e8] _ 1 cap w rfl (by intro x hx; obtain rfl := List.mem_singleton.1 hx; decide) rfl hc (by decide) (evSl_e hA)
  rw [putB_yes (show isB (lnk hS [e8]).first (lnk hS [e8]).evs = true from b8), lT_whole] at c
  exact c
theorem check78 (C : CheckC) (g cap : Nat) (hc : 2 ≤ cap) (w : World) (hTb : Tab w) (h0 : w.cell? ⟨g, 0, none⟩ = some (.string ⟨lS.toArray⟩)) (h1 : w.cell? ⟨g, 1, none⟩ = some (.string ⟨lT.toArray⟩)) :
    Calls Tryd.prog 14 #[.agg (bys z32).toArray, .int .u64 7, .slice (some ⟨g, 0, none⟩) 2 cap] w fun e w' => ∃ v, e = .returned (.tuple #[v, .agg (bys hT).toArray, .int .i64 0]) ∧ OwnE w.heap.size v [e7, e8] w' ∧ Below w.heap.size w w' := by
  have c := C z32 7 _ [lS, lT] 2 cap w hTb rfl (by decide) rfl hc (by decide) lSTh (stSl_two h0 h1)
  rw [linked_chk] at c
  exact c
theorem check8 (C : CheckC) (g cap : Nat) (hc : 1 ≤ cap) (w : World) (hTb : Tab w) (h0 : w.cell? ⟨g, 0, none⟩ = some (.string ⟨lT.toArray⟩)) :
    Calls Tryd.prog 14 #[.agg (bys z32).toArray, .int .u64 8, .slice (some ⟨g, 0, none⟩) 1 cap] w fun e w' => ∃ v, e = .returned (.tuple #[v, .agg (bys z32).toArray, .int .i64 11]) ∧ OwnE w.heap.size v [] w' ∧ Below w.heap.size w w' := by
  have c := C z32 8 _ [lT] 1 cap w hTb rfl (by decide) rfl hc (by decide) (by intro s hs; obtain rfl := List.mem_singleton.1 hs; exact lTh) (stSl_one h0)
  rw [linked_no] at c
  exact c
theorem clash78 (C : ClashC) (g g' c c' : Nat) (hc : 2 ≤ c) (hc' : 2 ≤ c') (w : World) (hTb : Tab w) (h0 : w.cell? ⟨g, 0, none⟩ = some (.string ⟨lS.toArray⟩)) (h1 : w.cell? ⟨g, 1, none⟩ = some (.string ⟨lT.toArray⟩)) (h2 : w.cell? ⟨g', 0, none⟩ = some (.string ⟨lT.toArray⟩)) (h3 : w.cell? ⟨g', 1, none⟩ = some (.string ⟨lS.toArray⟩)) :
    Calls Tryd.prog 17 #[.slice (some ⟨g, 0, none⟩) 2 c, .slice (some ⟨g', 0, none⟩) 2 c'] w fun e w' => e = .returned (.tuple #[.string ⟨lT.toArray⟩, .string ⟨lS.toArray⟩, .bool false]) ∧ Below w.heap.size w w' := by
  have k := C _ _ [lS, lT] [lT, lS] 2 2 c c' w hTb rfl rfl hc hc' (by decide) (by decide) lSTh lTSh (stSl_two h0 h1) (stSl_two h2 h3)
  rw [linked_clash] at k
  exact k

/-- What the row's calls come to, by plain letters. -/
structure Row9 (S T : ByteArray) (p q : List UInt8) : Prop where
  l7 : ∀ (g : Nat) (w : World), Has w g 47 [.int .u64 7, .int .i64 0, .int .i64 0, .int .i64 1, .int .i64 0, .int .i64 0] →
    Calls Tryd.prog 9 #[.agg (bys z32).toArray, .slice (some ⟨g, 0, none⟩) 1 1] w fun e w' => (∃ L : List Value, L.length = 34 ∧ (∀ v ∈ L, v.oneCell' = true) ∧ e = .returned (.tuple #[.agg L.toArray, .string S, .int .i64 0])) ∧ Below w.heap.size w w'
  l8 : ∀ (g : Nat) (w : World), Has w g 47 [.int .u64 8, .int .i64 0, .int .i64 0, .int .i64 8, .int .i64 0, .int .i64 0] →
    Calls Tryd.prog 9 #[.agg (bys p).toArray, .slice (some ⟨g, 0, none⟩) 1 1] w fun e w' => (∃ L : List Value, L.length = 34 ∧ (∀ v ∈ L, v.oneCell' = true) ∧ e = .returned (.tuple #[.agg L.toArray, .string T, .int .i64 0])) ∧ Below w.heap.size w w'
  k7 : ∀ (g : Nat) (w : World), Tab w → w.cell? ⟨g, 0, none⟩ = some (.string S) → w.cell? ⟨g, 1, none⟩ = some (.string T) →
    Calls Tryd.prog 14 #[.agg (bys z32).toArray, .int .u64 7, .slice (some ⟨g, 0, none⟩) 2 2] w fun e w' => (∃ g' o cap, e = .returned (.tuple #[.slice (some ⟨g', o, none⟩) 2 cap, .agg (bys q).toArray, .int .i64 0]) ∧ w'.cell? ⟨g', o + 6, none⟩ = some (.int .u64 8)) ∧ Below w.heap.size w w'
  k8 : ∀ (g : Nat) (w : World), Tab w → w.cell? ⟨g, 0, none⟩ = some (.string T) →
    Calls Tryd.prog 14 #[.agg (bys z32).toArray, .int .u64 8, .slice (some ⟨g, 0, none⟩) 1 1] w fun e w' => (∃ v, e = .returned (.tuple #[v, .agg (bys z32).toArray, .int .i64 11])) ∧ Below w.heap.size w w'
  c7 : ∀ (g g' : Nat) (w : World), Tab w → w.cell? ⟨g, 0, none⟩ = some (.string S) → w.cell? ⟨g, 1, none⟩ = some (.string T) → w.cell? ⟨g', 0, none⟩ = some (.string T) → w.cell? ⟨g', 1, none⟩ = some (.string S) →
    Calls Tryd.prog 17 #[.slice (some ⟨g, 0, none⟩) 2 2, .slice (some ⟨g', 0, none⟩) 2 2] w fun e w' => e = .returned (.tuple #[.string T, .string S, .bool false]) ∧ Below w.heap.size w w'
  oS : ∀ w : World, Tab w → Calls Tryd.prog 21 #[.string S] w fun e w' => e = .returned (.agg (bys p).toArray) ∧ Below w.heap.size w w'
  oT : ∀ w : World, Tab w → Calls Tryd.prog 21 #[.string T] w fun e w' => e = .returned (.agg (bys q).toArray) ∧ Below w.heap.size w w'

theorem row9 (LK : LinkC) (CK : CheckC) (CL : ClashC) : Row9 ⟨lS.toArray⟩ ⟨lT.toArray⟩ hS hT where
  l7 := fun g w hA => link7 LK g 1 (Nat.le_refl _) w hA
  l8 := fun g w hA => link8 LK g 1 (Nat.le_refl _) w hA
  k7 := fun g w hTb h0 h1 => (check78 CK g 2 (Nat.le_refl _) w hTb h0 h1).mono (by
    rintro e w' ⟨v, rfl, hO, b⟩
    obtain ⟨A, n, cap, rfl, rfl, _, hE⟩ := hO.opened
    obtain ⟨g', o, rfl, hev⟩ := hE (by decide)
    exact ⟨⟨g', o, cap, rfl, by simpa using hev 1 e8 rfl 0 (.int .u64 8) rfl⟩, b⟩)
  k8 := fun g w hTb h0 => (check8 CK g 1 (Nat.le_refl _) w hTb h0).mono (by
    rintro e w' ⟨v, rfl, _, b⟩
    exact ⟨⟨v, rfl⟩, b⟩)
  c7 := fun g g' w hTb h0 h1 h2 h3 => clash78 CL g g' 2 2 (Nat.le_refl _) (Nat.le_refl _) w hTb h0 h1 h2 h3
  oS := fun w hTb => by have := hof_any lS lSh w hTb; rwa [lS_hsh] at this
  oT := fun w hTb => by have := hof_any lT lTh w hTb; rwa [lT_hsh] at this

/-- Where the row stands: its first sum, and the table. -/
structure Lkw (w wr : World) : Prop where
  anc : Has wr w.heap.size 23 (bys z32)
  tab : Tab wr
  below : Below w.heap.size w wr
theorem Lkw.up {w wr w' : World} (h : Lkw w wr) (b : Below wr.heap.size wr w') : Lkw w w' := ⟨h.anc.up b, tab_up h.tab b, up_trans h.below b⟩
theorem Lkw.made {w wr w' : World} {g : Nat} {o : Obj} (h : Lkw w wr) (hg : g = wr.heap.size) (s : Save (fun k => k = g) (wr.alloc o) w') : Lkw w w' := by
  subst hg
  refine h.up ⟨s.os, s.tape, s.output, Nat.le_trans (by simp) s.size, fun k hk => ?_⟩
  rw [s.block k (by simp; omega) (by omega)]
  exact (up_alloc (Below.refl _ wr) o).block k hk

theorem cell_up {w W : World} {p : Addr} {v : Value} (h : w.cell? p = some v) (b : Below w.heap.size w W) : W.cell? p = some v := (b.cell (World.block_lt_of_cell? w _ h)).trans h
theorem made_up {w w' : World} {g : Nat} {o : Obj} (hg : g = w.heap.size) (s : Save (fun k => k = g) (w.alloc o) w') : Below w.heap.size w w' := by
  subst hg
  refine ⟨s.os, s.tape, s.output, Nat.le_trans (by simp) s.size, fun k hk => ?_⟩
  rw [s.block k (by simp; omega) (by omega)]
  exact (up_alloc (Below.refl _ w) o).block k hk

theorem anc_at {w : World} {p : List UInt8} (h : Tab w) : Tab (w.alloc (.cells (bys p).toArray 23)) := tab_up h (up_alloc (Below.refl _ _) _)

set_option maxHeartbeats 4000000 in
set_option maxRecDepth 100000 in
theorem linked_walk (S T : ByteArray) (p q : List UInt8) (hq : q.length = 32) (R : Row9 S T p q) (w : World) (hTab : Tab w) :
    Calls Tryd.prog 11 #[] w fun e w' => e = .returned (.bool true) ∧ Below w.heap.size w w' := by
  have hi := info_batch
  have hu := Tryd.underlying27
  have hdi := info_digest
  have hdu := Tryd.underlying23
  have hz : zbt.length = 34 := btc_length _ _ (by simp)
  have z3 : (bys z32).length = 32 := by rw [bys_length]; rfl
  have hzd := bys_one z32
  have hql : (bys q).length = 32 := by rw [bys_length, hq]
  have hqo := bys_one q
  have HR := Lib.hid R
  have LW : Hid (Lkw w (w.alloc (.cells (bys z32).toArray 23))) := Lib.hid ⟨Has.make w _ _, anc_at hTab, up_alloc (Below.refl _ _) _⟩
  clear hTab R
  go_enter Tryd.func11, Tryd.ntmps11
  go_wp2_with (first | (refine wpList_load_row rfl 23 _ rfl w.heap.size (by rfl) _ _ _ _ LW.out.anc hdu rfl (by rw [hdi, List.size_toArray, z3]) ?_))
  refine (HR.out.l7 (w.heap.size + 1) _ (Has.make2 w _ _ _)).mono ?_; rintro e w1 ⟨⟨L, hL, hLo, rfl⟩, b1⟩
  replace LW := Lib.hid ((LW.out.up (up_alloc (Below.refl _ _) _)).up b1)
  clear b1
  go_wp2_with (refine wpList_store_save rfl 27 _ _ rfl w1.heap.size 27 zbt L (by rfl) (by rfl) (Has.make w1 _ zbt) (by rw [hL, hz]) (by rw [hi, hL]) hLo ?_; intro w2 hF2 s2; replace LW := Lib.hid (LW.out.made rfl s2); clear hF2 s2)
  refine (HR.out.oS _ LW.out.tab).mono ?_; rintro e w3 ⟨rfl, b3⟩
  replace LW := Lib.hid (LW.out.up b3)
  clear b3
  go_wp2_with fail
  refine (HR.out.l8 w3.heap.size _ (Has.make w3 _ _)).mono ?_; rintro e w4 ⟨⟨L2, hL2, hLo2, rfl⟩, b4⟩
  replace LW := Lib.hid ((LW.out.up (up_alloc (Below.refl _ _) _)).up b4)
  clear b4
  go_wp2_with (first | (refine wpList_store_save rfl 27 _ _ rfl w4.heap.size 27 zbt L2 (by rfl) (by rfl) (Has.make w4 _ zbt) (by rw [hL2, hz]) (by rw [hi, hL2]) hLo2 ?_; intro w5 hF5 s5; replace LW := Lib.hid (LW.out.made rfl s5); clear hF5 s5) | (refine wpList_load_row rfl 23 _ rfl w.heap.size (by rfl) _ _ _ _ LW.out.anc hdu rfl (by rw [hdi, List.size_toArray, z3]) ?_))
  refine (HR.out.k7 w5.heap.size _ (LW.out.up (up_alloc (Below.refl _ _) _)).tab ((Has.make w5 _ [.string S, .string T]).at (i := 0) rfl) ((Has.make w5 _ [.string S, .string T]).at (i := 1) rfl)).mono ?_; rintro e w6 ⟨⟨ge, oe, ce, rfl, ev⟩, b6⟩
  replace LW := Lib.hid ((LW.out.up (up_alloc (Below.refl _ _) _)).up b6)
  have EV := Lib.hid ev
  clear b6 ev
  go_wp2_with (first | (refine wpList_store_save rfl 23 _ _ rfl w6.heap.size 23 (bys z32) (bys q) (by rfl) (by rfl) (Has.make w6 _ (bys z32)) (by rw [hql, z3]) (by rw [hdi, hql]) hqo ?_; intro w7 hF7 s7; have HG := Lib.hid hF7; replace EV := Lib.hid (cell_up EV.out (made_up rfl s7)); replace LW := Lib.hid (LW.out.made rfl s7); clear hF7 s7) | (refine wpList_load_row rfl 23 _ rfl w.heap.size (by rfl) _ _ _ _ LW.out.anc hdu rfl (by rw [hdi, List.size_toArray, z3]) ?_))
  refine (HR.out.k8 w7.heap.size _ (LW.out.up (up_alloc (Below.refl _ _) _)).tab ((Has.make w7 _ [.string T]).at (i := 0) rfl)).mono ?_; rintro e w8 ⟨⟨v8, rfl⟩, b8⟩
  replace LW := Lib.hid ((LW.out.up (up_alloc (Below.refl _ _) _)).up b8)
  replace HG := Lib.hid ((HG.out.alloc _).up b8)
  replace EV := Lib.hid (cell_up (cell_up EV.out (up_alloc (Below.refl _ _) _)) b8)
  clear b8
  go_wp2_with (first | (refine wpList_store_save rfl 23 _ _ rfl w8.heap.size 23 (bys z32) (bys z32) (by rfl) (by rfl) (Has.make w8 _ (bys z32)) rfl (by rw [hdi, z3]) hzd ?_; intro w9 hF9 s9; replace HG := Lib.hid (HG.out.up (made_up rfl s9)); replace EV := Lib.hid (cell_up EV.out (made_up rfl s9)); replace LW := Lib.hid (LW.out.made rfl s9); clear hF9 s9))
  refine (HR.out.c7 w9.heap.size (w9.heap.size + 1) _ ((LW.out.up (up_alloc (Below.refl _ _) _)).up (up_alloc (Below.refl _ _) _)).tab (((Has.make w9 _ [.string S, .string T]).alloc _).at (i := 0) rfl) (((Has.make w9 _ [.string S, .string T]).alloc _).at (i := 1) rfl) ((Has.make2 w9 _ _ [.string T, .string S]).at (i := 0) rfl) ((Has.make2 w9 _ _ [.string T, .string S]).at (i := 1) rfl)).mono ?_; rintro e wa ⟨rfl, ba⟩
  replace LW := Lib.hid (((LW.out.up (up_alloc (Below.refl _ _) _)).up (up_alloc (Below.refl _ _) _)).up ba)
  replace HG := Lib.hid (((HG.out.alloc _).alloc _).up ba)
  replace EV := Lib.hid (cell_up (cell_up (cell_up EV.out (up_alloc (Below.refl _ _) _)) (up_alloc (Below.refl _ _) _)) ba)
  clear ba
  have HK := Lib.hid (fun W (hb : Below wa.heap.size wa W) => (show _ ∧ _ from ⟨cell_up EV.out hb, (HG.out.up hb).whole⟩))
  have HT := Lib.hid (fun W (hb : Below wa.heap.size wa W) => tab_up LW.out.tab hb)
  have BW := Lib.hid LW.out.below
  have EQ := fun w => eql_dig q q hq hq w
  rw [decide_eq_true (rfl : q = q)] at EQ
  clear EV HG LW hq hi hu hz z3 hzd hL hLo hL2 hLo2
  generalize w6.heap.size = gs at *
  go_wp2_with fail
  refine wp_region_held_drew (S := fun W => W.cell? ⟨ge, oe + 6, none⟩ = some (.int .u64 8) ∧ W.rangeAt gs 0 (bys q)) (by kernel_rfl) (HK.out _ (Below.refl _ _).drew) (fun hHeld => ?_)
  refine wpAnyH_take (i := 0) (v := ?_) rfl (by kernel_rfl) (by kernel_rfl) (by kernel_rfl) (fun _ _ _ h => h) (Or.inl ⟨by rfl, ?_⟩) (by assumption) ?_
  rotate_left
  · intro w hSw; (try dsimp only at hSw); go_simp; try with_reducible rfl
  try simp only [Act.put, List.getElem_toArray, List.getElem_cons_zero, List.setIfInBounds_toArray, List.set_cons_zero, List.set_cons_succ]
  refine wpAnyH_take (i := 1) (v := ?_) rfl (by kernel_rfl) (by kernel_rfl) (by kernel_rfl) (fun _ _ _ h => h) (Or.inl ⟨by rfl, ?_⟩) (by assumption) ?_
  rotate_left
  · intro w hSw; (try dsimp only at hSw); go_simp; try with_reducible rfl
  try simp only [Act.put, List.getElem_toArray, List.getElem_cons_zero, List.getElem_cons_succ, List.setIfInBounds_toArray, List.set_cons_zero, List.set_cons_succ]
  refine wpAnyH_take (i := 2) (v := ?_) rfl (by kernel_rfl) (by kernel_rfl) (by kernel_rfl) (fun _ _ _ h => h) (Or.inl ⟨by rfl, ?_⟩) (by assumption) ?_
  rotate_left
  · intro w hSw; (try dsimp only at hSw); go_simp; try with_reducible rfl
  try simp only [Act.put, List.getElem_toArray, List.getElem_cons_zero, List.getElem_cons_succ, List.setIfInBounds_toArray, List.set_cons_zero, List.set_cons_succ]
  refine wpAnyH_take (i := 3) (v := ?_) rfl (by kernel_rfl) (by kernel_rfl) (by kernel_rfl) (fun _ _ _ h => h) (Or.inl ⟨by rfl, ?_⟩) (by assumption) ?_
  rotate_left
  · intro w hSw; (try dsimp only at hSw); go_simp; try with_reducible rfl
  try simp only [Act.put, List.getElem_toArray, List.getElem_cons_zero, List.getElem_cons_succ, List.setIfInBounds_toArray, List.set_cons_zero, List.set_cons_succ]
  refine wpAnyH_take (i := 4) (v := ?_) rfl (by kernel_rfl) (by kernel_rfl) (by kernel_rfl) (fun _ _ _ h => h) (Or.inl ⟨by rfl, ?_⟩) (by assumption) ?_
  rotate_left
  · intro w hSw; (try dsimp only at hSw); go_simp; try with_reducible rfl
  try simp only [Act.put, List.getElem_toArray, List.getElem_cons_zero, List.getElem_cons_succ, List.setIfInBounds_toArray, List.set_cons_zero, List.set_cons_succ]
  refine wpAnyH_take (i := 5) (v := ?_) rfl (by kernel_rfl) (by kernel_rfl) (by kernel_rfl) (fun _ _ _ h => h) (Or.inl ⟨by rfl, ?_⟩) (by assumption) ?_
  rotate_left
  · intro w hSw; (try dsimp only at hSw); go_simp; try with_reducible rfl
  try simp only [Act.put, List.getElem_toArray, List.getElem_cons_zero, List.getElem_cons_succ, List.setIfInBounds_toArray, List.set_cons_zero, List.set_cons_succ]
  refine wpAnyH_take (i := 6) (v := ?_) rfl (by kernel_rfl) (by kernel_rfl) (by kernel_rfl) (fun _ _ _ h => h) (Or.inl ⟨by rfl, ?_⟩) (by assumption) ?_
  rotate_left
  · intro w hSw; (try dsimp only at hSw); go_simp; try with_reducible rfl
  try simp only [Act.put, List.getElem_toArray, List.getElem_cons_zero, List.getElem_cons_succ, List.setIfInBounds_toArray, List.set_cons_zero, List.set_cons_succ]
  refine wpAnyH_take (i := 7) (v := ?_) rfl (by kernel_rfl) (by kernel_rfl) (by kernel_rfl) (fun _ _ _ h => h) (Or.inl ⟨by rfl, ?_⟩) (by assumption) ?_
  rotate_left
  · intro w hSw; (try dsimp only at hSw); go_simp; try with_reducible rfl
  try simp only [Act.put, List.getElem_toArray, List.getElem_cons_zero, List.getElem_cons_succ, List.setIfInBounds_toArray, List.set_cons_zero, List.set_cons_succ]
  refine wpAnyH_take (i := 8) (v := ?_) rfl (by kernel_rfl) (by kernel_rfl) (by kernel_rfl) (fun _ _ _ h => h) (Or.inl ⟨by rfl, ?_⟩) (by assumption) ?_
  rotate_left
  · intro w hSw; (try dsimp only at hSw); go_simp; try with_reducible rfl
  try simp only [Act.put, List.getElem_toArray, List.getElem_cons_zero, List.getElem_cons_succ, List.setIfInBounds_toArray, List.set_cons_zero, List.set_cons_succ]
  refine wpAnyH_take (i := 9) (v := ?_) rfl (by kernel_rfl) (by kernel_rfl) (by kernel_rfl) (fun _ _ _ h => h) (Or.inl ⟨by rfl, ?_⟩) (by assumption) ?_
  rotate_left
  · intro w hSw; (try dsimp only at hSw); go_simp; try with_reducible rfl
  try simp only [Act.put, List.getElem_toArray, List.getElem_cons_zero, List.getElem_cons_succ, List.setIfInBounds_toArray, List.set_cons_zero, List.set_cons_succ]
  refine wpAnyH_take (i := 10) (v := ?_) rfl (by kernel_rfl) (by kernel_rfl) (by kernel_rfl) (fun _ _ _ h => h) (Or.inl ⟨by rfl, ?_⟩) (by assumption) ?_
  rotate_left
  · intro w hSw; (try dsimp only at hSw); go_simp; try with_reducible rfl
  try simp only [Act.put, List.getElem_toArray, List.getElem_cons_zero, List.getElem_cons_succ, List.setIfInBounds_toArray, List.set_cons_zero, List.set_cons_succ]
  refine wpAnyH_take (i := 11) (v := ?_) rfl (by kernel_rfl) (by kernel_rfl) (by kernel_rfl) (fun _ _ _ h => h) (Or.inl ⟨by rfl, ?_⟩) (by assumption) ?_
  rotate_left
  · intro w hSw; (try dsimp only at hSw); go_simp; try with_reducible rfl
  try simp only [Act.put, List.getElem_toArray, List.getElem_cons_zero, List.getElem_cons_succ, List.setIfInBounds_toArray, List.set_cons_zero, List.set_cons_succ]
  refine wpAnyH_take (i := 12) (v := ?_) rfl (by kernel_rfl) (by kernel_rfl) (by kernel_rfl) (fun _ _ _ h => h) (Or.inl ⟨by rfl, ?_⟩) (by assumption) ?_
  rotate_left
  · intro w hSw; (try dsimp only at hSw); go_simp; try with_reducible rfl
  try simp only [Act.put, List.getElem_toArray, List.getElem_cons_zero, List.getElem_cons_succ, List.setIfInBounds_toArray, List.set_cons_zero, List.set_cons_succ]
  refine wpAnyH_take (i := 13) (v := ?_) rfl (by kernel_rfl) (by kernel_rfl) (by kernel_rfl) (fun _ _ _ h => h) (Or.inl ⟨by rfl, ?_⟩) (by assumption) ?_
  rotate_left
  · intro w hSw; (try dsimp only at hSw); go_simp; try with_reducible rfl
  try simp only [Act.put, List.getElem_toArray, List.getElem_cons_zero, List.getElem_cons_succ, List.setIfInBounds_toArray, List.set_cons_zero, List.set_cons_succ]
  refine wpAnyH_take (i := 14) (v := ?_) rfl (by kernel_rfl) (by kernel_rfl) (by kernel_rfl) (fun _ _ _ h => h) (Or.inl ⟨by rfl, ?_⟩) (by assumption) ?_
  rotate_left
  · intro w hSw; (try dsimp only at hSw); go_simp; try with_reducible rfl
  try simp only [Act.put, List.getElem_toArray, List.getElem_cons_zero, List.getElem_cons_succ, List.setIfInBounds_toArray, List.set_cons_zero, List.set_cons_succ]
  refine wpAnyH_take (i := 15) (v := ?_) rfl (by kernel_rfl) (by kernel_rfl) (by kernel_rfl) (fun _ _ _ h => h) (Or.inl ⟨by rfl, ?_⟩) (by assumption) ?_
  rotate_left
  · intro w hSw; (try dsimp only at hSw); go_simp; try with_reducible rfl
  try simp only [Act.put, List.getElem_toArray, List.getElem_cons_zero, List.getElem_cons_succ, List.setIfInBounds_toArray, List.set_cons_zero, List.set_cons_succ]
  refine wpAnyH_take (i := 16) (v := ?_) rfl (by kernel_rfl) (by kernel_rfl) (by kernel_rfl) (fun _ _ _ h => h) (Or.inl ⟨by rfl, ?_⟩) (by assumption) ?_
  rotate_left
  · intro w hSw; (try dsimp only at hSw); go_simp; try with_reducible rfl
  try simp only [Act.put, List.getElem_toArray, List.getElem_cons_zero, List.getElem_cons_succ, List.setIfInBounds_toArray, List.set_cons_zero, List.set_cons_succ]
  refine wpAnyH_take (i := 17) (v := ?_) rfl (by kernel_rfl) (by kernel_rfl) (by kernel_rfl) (fun _ _ _ h => h) (Or.inl ⟨by rfl, ?_⟩) (by assumption) ?_
  rotate_left
  · intro w hSw; (try dsimp only at hSw); go_simp; try with_reducible rfl
  try simp only [Act.put, List.getElem_toArray, List.getElem_cons_zero, List.getElem_cons_succ, List.setIfInBounds_toArray, List.set_cons_zero, List.set_cons_succ]
  refine wpAnyH_take (i := 18) (v := ?_) rfl (by kernel_rfl) (by kernel_rfl) (by kernel_rfl) (fun _ _ _ h => h) (Or.inl ⟨by rfl, ?_⟩) (by assumption) ?_
  rotate_left
  · intro w hSw; (try dsimp only at hSw); go_simp; try with_reducible rfl
  try simp only [Act.put, List.getElem_toArray, List.getElem_cons_zero, List.getElem_cons_succ, List.setIfInBounds_toArray, List.set_cons_zero, List.set_cons_succ]
  refine wpAnyH_take (i := 19) (v := ?_) rfl (by kernel_rfl) (by kernel_rfl) (by kernel_rfl) (fun _ _ _ h => h) (Or.inl ⟨by rfl, ?_⟩) (by assumption) ?_
  rotate_left
  · intro w hSw; (try dsimp only at hSw); go_simp; try with_reducible rfl
  try simp only [Act.put, List.getElem_toArray, List.getElem_cons_zero, List.getElem_cons_succ, List.setIfInBounds_toArray, List.set_cons_zero, List.set_cons_succ]
  refine wpAnyH_take (i := 20) (v := ?_) rfl (by kernel_rfl) (by kernel_rfl) (by kernel_rfl) (fun _ _ _ h => h) (Or.inl ⟨by rfl, ?_⟩) (by assumption) ?_
  rotate_left
  · intro w hSw; (try dsimp only at hSw); go_simp; try with_reducible rfl
  try simp only [Act.put, List.getElem_toArray, List.getElem_cons_zero, List.getElem_cons_succ, List.setIfInBounds_toArray, List.set_cons_zero, List.set_cons_succ]
  refine wpAnyH_take (i := 21) (v := ?_) rfl (by kernel_rfl) (by kernel_rfl) (by kernel_rfl) (fun _ _ _ h => h) (Or.inl ⟨by rfl, ?_⟩) (by assumption) ?_
  rotate_left
  · intro w hSw; (try dsimp only at hSw); go_simp; try with_reducible rfl
  try simp only [Act.put, List.getElem_toArray, List.getElem_cons_zero, List.getElem_cons_succ, List.setIfInBounds_toArray, List.set_cons_zero, List.set_cons_succ]
  refine wpAnyH_take (i := 22) (v := ?_) rfl (by kernel_rfl) (by kernel_rfl) (by kernel_rfl) (fun _ _ _ h => h) (Or.inl ⟨by rfl, ?_⟩) (by assumption) ?_
  rotate_left
  · intro w hSw; (try dsimp only at hSw); go_simp; try with_reducible rfl
  try simp only [Act.put, List.getElem_toArray, List.getElem_cons_zero, List.getElem_cons_succ, List.setIfInBounds_toArray, List.set_cons_zero, List.set_cons_succ]
  refine wpAnyH_take (i := 23) (v := ?_) rfl (by kernel_rfl) (by kernel_rfl) (by kernel_rfl) (fun _ _ _ h => h) (Or.inl ⟨by rfl, ?_⟩) (by assumption) ?_
  rotate_left
  · intro w hSw; (try dsimp only at hSw); go_simp; try with_reducible rfl
  try simp only [Act.put, List.getElem_toArray, List.getElem_cons_zero, List.getElem_cons_succ, List.setIfInBounds_toArray, List.set_cons_zero, List.set_cons_succ]
  refine wpAnyH_take (i := 24) (v := ?_) rfl (by kernel_rfl) (by kernel_rfl) (by kernel_rfl) (fun _ _ _ h => h) (Or.inl ⟨by rfl, ?_⟩) (by assumption) ?_
  rotate_left
  · intro w hSw; (try dsimp only at hSw); go_simp; try with_reducible rfl
  try simp only [Act.put, List.getElem_toArray, List.getElem_cons_zero, List.getElem_cons_succ, List.setIfInBounds_toArray, List.set_cons_zero, List.set_cons_succ]
  refine wpAnyH_take (i := 25) rfl (by kernel_rfl) (by kernel_rfl) (by kernel_rfl) (fun _ _ _ h => h) (yieldsIf_load_mid (by rfl) _ _ rfl gs 0 rfl (bys q) _ (fun W h => h.2) hdu rfl (by rw [hdi, hql])) (by assumption) ?_
  try simp only [Act.put, List.getElem_toArray, List.getElem_cons_zero, List.getElem_cons_succ, List.setIfInBounds_toArray, List.set_cons_zero, List.set_cons_succ]
  refine wpAnyH_take (i := 26) (v := ?_) rfl (by kernel_rfl) (by kernel_rfl) (by kernel_rfl) (fun _ _ _ h => h) (Or.inl ⟨by rfl, ?_⟩) (by assumption) ?_
  rotate_left
  · intro w hSw; (try dsimp only at hSw); go_simp; try with_reducible rfl
  try simp only [Act.put, List.getElem_toArray, List.getElem_cons_zero, List.getElem_cons_succ, List.setIfInBounds_toArray, List.set_cons_zero, List.set_cons_succ]
  refine wpAnyH_ready (rs := [27]) (by kernel_rfl) (by simp) (AllReadyH.cons rfl (fun K hK => ?_) AllReadyH.nil)
  go_simp
  refine (HR.out.oT _ (HT.out _ (Below.refl _ _).drew)).mono ?_; rintro e wn ⟨rfl, hbn'⟩
  have hbn : Below wa.heap.size wa wn := up_trans (Below.refl _ _).drew hbn'
  clear hbn'
  go_wp2_with fail
  refine hK.out _ _ (HK.out _ hbn) (fun hHeld => ?_)
  clear hK K
  try simp only [Act.put, List.getElem_toArray, List.getElem_cons_zero, List.getElem_cons_succ, List.setIfInBounds_toArray, List.set_cons_zero, List.set_cons_succ]
  refine wpAnyH_take (i := 28) (v := ?_) rfl (by kernel_rfl) (by kernel_rfl) (by kernel_rfl) (fun _ _ _ h => h) (Or.inl ⟨by rfl, ?_⟩) (by assumption) ?_
  rotate_left
  · intro w hSw; (try dsimp only at hSw); go_simp; try with_reducible rfl
  try simp only [Act.put, List.getElem_toArray, List.getElem_cons_zero, List.getElem_cons_succ, List.setIfInBounds_toArray, List.set_cons_zero, List.set_cons_succ]
  refine wpAnyH_take (i := 29) (v := ?_) rfl (by kernel_rfl) (by kernel_rfl) (by kernel_rfl) (fun _ _ _ h => h) (Or.inl ⟨by rfl, ?_⟩) (by assumption) ?_
  rotate_left
  · intro w hSw; (try dsimp only at hSw); go_simp; try with_reducible rfl
  try simp only [Act.put, List.getElem_toArray, List.getElem_cons_zero, List.getElem_cons_succ, List.setIfInBounds_toArray, List.set_cons_zero, List.set_cons_succ]
  refine wpAnyH_take (i := 30) (v := ?_) rfl (by kernel_rfl) (by kernel_rfl) (by kernel_rfl) (fun _ _ _ h => h) (Or.inl ⟨by rfl, ?_⟩) (by assumption) ?_
  rotate_left
  · intro w hSw; (try dsimp only at hSw); go_simp; try with_reducible rfl
  try simp only [Act.put, List.getElem_toArray, List.getElem_cons_zero, List.getElem_cons_succ, List.setIfInBounds_toArray, List.set_cons_zero, List.set_cons_succ]
  refine wpAnyH_take (i := 31) (v := ?_) rfl (by kernel_rfl) (by kernel_rfl) (by kernel_rfl) (fun _ _ _ h => h) (Or.inl ⟨by rfl, ?_⟩) (by assumption) ?_
  rotate_left
  · intro w hSw; (try dsimp only at hSw); go_simp; try with_reducible rfl
  try simp only [Act.put, List.getElem_toArray, List.getElem_cons_zero, List.getElem_cons_succ, List.setIfInBounds_toArray, List.set_cons_zero, List.set_cons_succ]
  refine wpAnyH_take (i := 32) (v := ?_) rfl (by kernel_rfl) (by kernel_rfl) (by kernel_rfl) (fun _ _ _ h => h) (Or.inl ⟨by rfl, ?_⟩) (by assumption) ?_
  rotate_left
  · intro w hSw; (try dsimp only at hSw); go_simp; try with_reducible rfl
  try simp only [Act.put, List.getElem_toArray, List.getElem_cons_zero, List.getElem_cons_succ, List.setIfInBounds_toArray, List.set_cons_zero, List.set_cons_succ]
  refine wpAnyH_take (i := 33) (v := ?_) rfl (by kernel_rfl) (by kernel_rfl) (by kernel_rfl) (fun _ _ _ h => h) (Or.inl ⟨by rfl, ?_⟩) (by assumption) ?_
  rotate_left
  · intro w hSw; (try dsimp only at hSw); go_simp; try with_reducible rfl
  try simp only [Act.put, List.getElem_toArray, List.getElem_cons_zero, List.getElem_cons_succ, List.setIfInBounds_toArray, List.set_cons_zero, List.set_cons_succ]
  refine wpAnyH_take (i := 34) (v := ?_) rfl (by kernel_rfl) (by kernel_rfl) (by kernel_rfl) (fun _ _ _ h => h) (Or.inl ⟨by rfl, ?_⟩) (by assumption) ?_
  rotate_left
  · intro w hSw; (try dsimp only at hSw); go_simp; try with_reducible rfl
  try simp only [Act.put, List.getElem_toArray, List.getElem_cons_zero, List.getElem_cons_succ, List.setIfInBounds_toArray, List.set_cons_zero, List.set_cons_succ]
  refine wpAnyH_take (i := 35) (v := ?_) rfl (by kernel_rfl) (by kernel_rfl) (by kernel_rfl) (fun _ _ _ h => h) (Or.inl ⟨by rfl, ?_⟩) (by assumption) ?_
  rotate_left
  · intro w hSw; (try dsimp only at hSw); go_simp; try with_reducible rfl
  try simp only [Act.put, List.getElem_toArray, List.getElem_cons_zero, List.getElem_cons_succ, List.setIfInBounds_toArray, List.set_cons_zero, List.set_cons_succ]
  refine wpAnyH_take (i := 36) (v := ?_) rfl (by kernel_rfl) (by kernel_rfl) (by kernel_rfl) (fun _ _ _ h => h) (Or.inl ⟨by rfl, ?_⟩) (by assumption) ?_
  rotate_left
  · intro w hSw; (try dsimp only at hSw); go_simp; try with_reducible rfl
  try simp only [Act.put, List.getElem_toArray, List.getElem_cons_zero, List.getElem_cons_succ, List.setIfInBounds_toArray, List.set_cons_zero, List.set_cons_succ]
  refine wpAnyH_take (i := 37) (v := ?_) rfl (by kernel_rfl) (by kernel_rfl) (by kernel_rfl) (fun _ _ _ h => h) (Or.inl ⟨by rfl, ?_⟩) (by assumption) ?_
  rotate_left
  · intro w hSw; (try dsimp only at hSw); go_simp; try with_reducible rfl
  try simp only [Act.put, List.getElem_toArray, List.getElem_cons_zero, List.getElem_cons_succ, List.setIfInBounds_toArray, List.set_cons_zero, List.set_cons_succ]
  refine wpAnyH_take (i := 38) (v := ?_) rfl (by kernel_rfl) (by kernel_rfl) (by kernel_rfl) (fun _ _ _ h => h) (Or.inl ⟨by rfl, ?_⟩) (by assumption) ?_
  rotate_left
  · intro w hSw; (try dsimp only at hSw); go_simp; try with_reducible rfl
  try simp only [Act.put, List.getElem_toArray, List.getElem_cons_zero, List.getElem_cons_succ, List.setIfInBounds_toArray, List.set_cons_zero, List.set_cons_succ]
  refine wpAnyH_take (i := 39) (v := ?_) rfl (by kernel_rfl) (by kernel_rfl) (by kernel_rfl) (fun _ _ _ h => h) (Or.inl ⟨by rfl, ?_⟩) (by assumption) ?_
  rotate_left
  · intro w hSw; (try dsimp only at hSw); go_simp; try with_reducible rfl
  try simp only [Act.put, List.getElem_toArray, List.getElem_cons_zero, List.getElem_cons_succ, List.setIfInBounds_toArray, List.set_cons_zero, List.set_cons_succ]
  refine wpAnyH_take (i := 40) (v := ?_) rfl (by kernel_rfl) (by kernel_rfl) (by kernel_rfl) (fun _ _ _ h => h) (Or.inl ⟨by rfl, ?_⟩) (by assumption) ?_
  rotate_left
  · intro w hSw; (try dsimp only at hSw); go_simp; try with_reducible rfl
  try simp only [Act.put, List.getElem_toArray, List.getElem_cons_zero, List.getElem_cons_succ, List.setIfInBounds_toArray, List.set_cons_zero, List.set_cons_succ]
  refine wpAnyH_take (i := 41) (v := ?_) rfl (by kernel_rfl) (by kernel_rfl) (by kernel_rfl) (fun _ _ _ h => h) (Or.inl ⟨by rfl, ?_⟩) (by assumption) ?_
  rotate_left
  · intro w hSw; (try dsimp only at hSw); go_simp; try with_reducible rfl
  try simp only [Act.put, List.getElem_toArray, List.getElem_cons_zero, List.getElem_cons_succ, List.setIfInBounds_toArray, List.set_cons_zero, List.set_cons_succ]
  refine wpAnyH_take (i := 42) (v := ?_) rfl (by kernel_rfl) (by kernel_rfl) (by kernel_rfl) (fun _ _ _ h => h) (Or.inl ⟨by rfl, ?_⟩) (by assumption) ?_
  rotate_left
  · intro w hSw; (try dsimp only at hSw); go_simp; try with_reducible rfl
  try simp only [Act.put, List.getElem_toArray, List.getElem_cons_zero, List.getElem_cons_succ, List.setIfInBounds_toArray, List.set_cons_zero, List.set_cons_succ]
  refine wpAnyH_take (i := 43) (v := ?_) rfl (by kernel_rfl) (by kernel_rfl) (by kernel_rfl) (fun _ _ _ h => h) (Or.inl ⟨by rfl, ?_⟩) (by assumption) ?_
  rotate_left
  · intro w hSw; (try dsimp only at hSw); go_simp; try with_reducible rfl
  try simp only [Act.put, List.getElem_toArray, List.getElem_cons_zero, List.getElem_cons_succ, List.setIfInBounds_toArray, List.set_cons_zero, List.set_cons_succ]
  refine wpAnyH_take (i := 44) (v := ?_) rfl (by kernel_rfl) (by kernel_rfl) (by kernel_rfl) (fun _ _ _ h => h) (Or.inl ⟨by rfl, ?_⟩) (by assumption) ?_
  rotate_left
  · intro w hSw; (try dsimp only at hSw); go_simp; try with_reducible rfl
  try simp only [Act.put, List.getElem_toArray, List.getElem_cons_zero, List.getElem_cons_succ, List.setIfInBounds_toArray, List.set_cons_zero, List.set_cons_succ]
  refine wpAnyH_take (i := 45) (v := ?_) rfl (by kernel_rfl) (by kernel_rfl) (by kernel_rfl) (fun _ _ _ h => h) (Or.inl ⟨by rfl, ?_⟩) (by assumption) ?_
  rotate_left
  · intro w hSw; (try dsimp only at hSw); go_simp; try with_reducible rfl
  try simp only [Act.put, List.getElem_toArray, List.getElem_cons_zero, List.getElem_cons_succ, List.setIfInBounds_toArray, List.set_cons_zero, List.set_cons_succ]
  refine wpAnyH_take (i := 46) (v := ?_) rfl (by kernel_rfl) (by kernel_rfl) (by kernel_rfl) (fun _ _ _ h => h) (Or.inl ⟨by rfl, ?_⟩) (by assumption) ?_
  rotate_left
  · intro w hSw; (try dsimp only at hSw); go_simp; try with_reducible rfl
  try simp only [Act.put, List.getElem_toArray, List.getElem_cons_zero, List.getElem_cons_succ, List.setIfInBounds_toArray, List.set_cons_zero, List.set_cons_succ]
  refine wpAnyH_take (i := 47) (v := ?_) rfl (by kernel_rfl) (by kernel_rfl) (by kernel_rfl) (fun _ _ _ h => h) (Or.inl ⟨by rfl, ?_⟩) (by assumption) ?_
  rotate_left
  · intro w hSw; (try dsimp only at hSw); go_simp; try with_reducible rfl
  try simp only [Act.put, List.getElem_toArray, List.getElem_cons_zero, List.getElem_cons_succ, List.setIfInBounds_toArray, List.set_cons_zero, List.set_cons_succ]
  refine wpAnyH_take (i := 48) (v := ?_) rfl (by kernel_rfl) (by kernel_rfl) (by kernel_rfl) (fun _ _ _ h => h) (Or.inl ⟨by rfl, ?_⟩) (by assumption) ?_
  rotate_left
  · intro w hSw; (try dsimp only at hSw); go_simp; try with_reducible rfl
  try simp only [Act.put, List.getElem_toArray, List.getElem_cons_zero, List.getElem_cons_succ, List.setIfInBounds_toArray, List.set_cons_zero]
  refine wpAnyH_done (by kernel_rfl) ?_ _
  skip
  go_wp2_with fail
  go_ret
  exact ⟨rfl, up_trans BW.out hbn⟩

/-- THE ROW comes to true. -/
theorem linked_any (LK : LinkC) (CK : CheckC) (CL : ClashC) (w : World) (hTab : Tab w) :
    Calls Tryd.prog 11 #[] w fun e w' => e = .returned (.bool true) ∧ Below w.heap.size w w' :=
  linked_walk _ _ hS hT rfl (row9 LK CK CL) w hTab

end Go.Proofs.YthhcopeejhhpgaaDoor
