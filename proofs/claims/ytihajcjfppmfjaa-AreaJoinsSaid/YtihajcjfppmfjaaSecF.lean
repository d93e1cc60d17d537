/- A disk's Write. -/
import Derived.Test.YtihajcjfppmfjaaSecE
namespace Go.Proofs.Ytihajcjfppmfjaa
open Go.RowKit Sec

theorem info_wr : (Try.prog.info? 73).map (fun i => (i.zero, i.size, i.bytes)) = some (some .nilFunc, 1, 8) := by kernel_rfl

/-- AN APPEND of one pending write, in a region that draws. -/
theorem step_push_wr {ops : Array Oper} {o : Oper} {a : Act} {w : World} {K : Act → World → Prop} {Q : Exit → Act → World → Prop} {E : Prop} (hgd : o.guard = none) (s x : Operand)
    (ho : o.op = .call { callee := .builtin .append, args := #[s, x], argTypes := #[43, 43] })
    (v : Value) (n : Nat) (fs : List Value) (hs : a.eval s = v) (hown : w.ownsRow 0 73 1 v n fs) (g : Nat) (f : Value) (hx : a.eval x = .slice (some ⟨g, 0, none⟩) 1 1) (hg : Has w g 73 [f]) (h1 : f.oneCell' = true)
    (h63 : n + 1 ≤ 1000000)
    (h : ∀ g' cap w', w'.ownsRow 0 73 1 (.slice (some ⟨g', 0, none⟩) (n + 1) cap) (n + 1) (fs ++ [f]) → w.grownBy w' v.ownBlock → (v.ownBlock = some g' ∨ g' = w.heap.size) → K (a.put o.dst (.slice (some ⟨g', 0, none⟩) (n + 1) cap)) w') :
    if Region.wanted o (yielded ops a.tmps) = true then Oper.wp Try.prog o a w K Q else E := by
  obtain ⟨i0, hi, hz0, hz1, hz2⟩ := info_parts info_wr
  refine step_append_lies w hgd s x 43 ho 0 73 i0 _ 1 8 Try.underlying43 hi hz0 hz1 hz2 rfl (by omega) v n fs hs hown ⟨g, 0, none⟩ 1 1 [f] hx rfl
    (World.news_of_block (cs := #[f]) hg) (by intro u hu; obtain rfl := List.mem_singleton.1 hu; exact h1) (by omega) (by unfold maxLen; omega) (by omega) (Nat.zero_le _) _ rfl ?_
  intro g' cap w1 h1 h2 h3 _
  exact h g' cap w1 h1 h2 h3

theorem DskAt.pushed {F : Nat → Prop} {w : World} {d : Nat} {D : Dk} {T : List (List UInt8)} {gl gt : Nat} {v : Value} {fs : List Value} (h : DskAt F w d D T gl gt v fs) {W w' : World} (b : Below w.heap.size w W) (hg : W.grownBy w' v.ownBlock) :
    w'.cell? ⟨d, 2, none⟩ = some v ∧ w'.frozen? ⟨d, 2, none⟩ = false := by
  have hD := h.hD.up b
  have hD' := (Save.push hg).has hD (fun e => by
    obtain ⟨l, hl⟩ := h.row e
    exact absurd (h.hD.same hl) (by decide))
  exact ⟨hD'.at rfl, hD'.free 2⟩

/-- The pending write is in its row, and the row is the disk's. -/
theorem write_mid {F : Nat → Prop} {w : World} {d : Nat} {D : Dk} {T : List (List UInt8)} {gl gt k q g' cap : Nat} {v : Value} {fs : List Value} {b : List UInt8} {w' : World} {f : Value} {W : World} (hD : DskAt F w d D T gl gt v fs) (hq : q = k * D.size)
    (hW : W = (((w.alloc (.cells #[.int .i64 (q : Nat)] 3)).alloc (.cells #[.string ⟨b.toArray⟩] 9)).alloc (.cells #[f] 73)).drew)
    (hf : f = .func (.func 35) #[] #[.pointer (some ⟨w.heap.size, 0, none⟩), .pointer (some ⟨w.heap.size + 1, 0, none⟩)])
    (ho : w'.ownsRow 0 73 1 (.slice (some ⟨g', 0, none⟩) (D.P.length + 1) cap) (D.P.length + 1) (fs ++ [f])) (hg : W.grownBy w' v.ownBlock) (hat : v.ownBlock = some g' ∨ g' = W.heap.size) :
    DskAt (Grow F w) (w'.setCell ⟨d, 2, none⟩ (.slice (some ⟨g', 0, none⟩) (D.P.length + 1) cap)) d { D with P := D.P ++ [(k, b)] } T gl gt (.slice (some ⟨g', 0, none⟩) (D.P.length + 1) cap) (fs ++ [f]) ∧
    Save F w (w'.setCell ⟨d, 2, none⟩ (.slice (some ⟨g', 0, none⟩) (D.P.length + 1) cap)) := by
  have hb : Below w.heap.size w W := by rw [hW]; exact (up_alloc (up_alloc (up_alloc (Below.refl _ _) _) _) _).drew
  have h1 : DskAt (Grow F w) W d D T gl gt v fs := (hD.up hb).mono fun _ h => Or.inl h
  have hwr : Wr (Grow F w) W D.size gt (k, b) f := by
    refine ⟨w.heap.size, w.heap.size + 1, hf, ?_, ?_, Or.inr (Nat.le_refl _), Or.inr (by omega), ?_⟩
    · rw [hW, hq]; exact ((Has.make w _ [.int .i64 ((k * D.size : Nat) : Int)]).alloc _).alloc _
    · rw [hW]; exact (Has.make2 w _ _ [.string ⟨b.toArray⟩]).alloc _
    · have := hD.hT.lt; omega
  have h2 := h1.push hwr hg ho hat
  refine ⟨h2.mono fun k hk => Grow.grow hb.size hk, ?_⟩
  exact ((Save.up (F := F) hb).grown hg (fun k hk => Or.inl (hD.fv k hk))).setCell (p := ⟨d, 2, none⟩) (Or.inl hD.fd) _

set_option maxHeartbeats 2000000 in
theorem write_raw {F : Nat → Prop} {d gl gt k r : Nat} {D : Dk} {T : List (List UInt8)} {v : Value} {fs : List Value} {b : List UInt8} (hr : r = 0) (hk : k < D.many) (hT : T.length = D.many) (hm : k * D.size ≤ 4194304) (hb : b.length = D.size) (hP : D.P.length < 100000) {w : World}
    (C : Calls Try.prog 29 #[dp d, .int .i64 (k : Nat)] w fun e w' => e = .returned (.int .i64 (r : Nat)) ∧ w = w') (h0 : w.cell? ⟨d, 0, none⟩ = some (.int .i64 (D.size : Nat)))
    (N : Calls Try.prog 26 #[dp d] w fun e w' => e = .returned (.tuple #[]) ∧ DskAt F w' d D T gl gt v fs ∧ Save F w w' ∧ w'.heap.size = w.heap.size) :
    Calls Try.prog 31 #[dp d, .int .i64 (k : Nat), .string ⟨b.toArray⟩] w fun e w' => e = .returned (.int .i64 0) ∧
      (∃ v' fs', DskAt (Grow F w) w' d { D with P := D.P ++ [(k, b)] } (T.set k b) gl gt v' fs') ∧ Save F w w' := by
  subst hr
  have hsz : (⟨b.toArray⟩ : ByteArray).size = D.size := by rw [text_list, hb]
  have hq' : (k : Int) * (D.size : Int) = ((k * D.size : Nat) : Int) := by simp
  have hw1 : IntKind.i64.wrap ((k : Int) * (D.size : Int)) = ((k * D.size : Nat) : Int) := by rw [hq']; exact IntWalk.i64_in _ (by omega)
  have k1 : (k : Int) < (D.many : Int) := by omega
  have HW := Lib.hid hw1
  obtain ⟨q, hq⟩ : ∃ q, q = k * D.size := ⟨_, rfl⟩
  rw [← hq] at hw1 hm
  have HQ := Lib.hid hq
  have K := Lib.hid C
  have L := Lib.hid N
  have HB := Lib.hid hb
  have HP := Lib.hid hP
  have HT := Lib.hid hT
  clear C N hb hq hq' hP hT
  go_enter Try.func31, Try.ntmps31
  go_wp2_with fail
  refine K.out.mono ?_; rintro e w1 ⟨rfl, rfl⟩
  go_wp2_with fail
  refine L.out.mono ?_; rintro e w1 ⟨rfl, hD, hS, hz⟩
  have c0 := hD.hD.at (i := 0) rfl
  have c2 := hD.hD.at (i := 2) rfl
  have c3 := hD.hD.at (i := 3) rfl
  have e1 : ∀ A, (w1.alloc A).cell? ⟨d, 2, none⟩ = some v := fun A => (hD.hD.alloc A).at rfl
  have e2 : ∀ A B, ((w1.alloc A).alloc B).cell? ⟨d, 2, none⟩ = some v := fun A B => ((hD.hD.alloc A).alloc B).at rfl
  have e3 : ∀ A B C, (((w1.alloc A).alloc B).alloc C).cell? ⟨d, 2, none⟩ = some v := fun A B C => (((hD.hD.alloc A).alloc B).alloc C).at rfl
  replace hD := Lib.hid hD
  replace hS := Lib.hid hS
  replace hz := Lib.hid hz
  clear h0
  go_wp2_with fail
  go_region_law (first
    | (refine step_push_wr rfl (.tmp 27) (.tmp 36) rfl v D.P.length fs rfl (((hD.out.own.drew.alloc _).alloc _).alloc _) (w1.heap.size + 1 + 1) _ rfl (Has.make3 w1.drew _ _ _ _) rfl (by have := HP.out; omega) ?_; intro g' cap w' ho hg hat; obtain ⟨p1, p2⟩ := hD.out.pushed (up_alloc (up_alloc (up_alloc (Below.refl _ w1).drew _) _) _) hg; replace ho := Lib.hid ho; replace hg := Lib.hid hg; replace hat := Lib.hid hat)
    | (go_simp; (with_reducible refine (writeOf_any _ _ _).mono ?_); rintro e wn ⟨rfl, rfl⟩; dsimp only))
  all_goals
    obtain ⟨M, S⟩ := write_mid hD.out HQ.out rfl rfl ho.out hg.out hat.out
    clear hg hat p1 p2 e1 e2 e3 c0 c2 c3
    generalize w'.setCell _ _ = w2 at *
    have d3 := M.hD.at (i := 3) rfl
    have t3 := M.hT.at (i := k) (txs_at T (by rw [HT.out]; exact hk))
    have t4 := M.hT.free k
    replace M := Lib.hid M
    replace S := Lib.hid S
    clear ho
    go_wp2_with fail
    go_ret
    refine ⟨rfl, ?_, ?_⟩
    · exact ⟨_, _, (M.out.late k b).mono fun j hj => hj.imp id fun h => by rw [← hz.out]; exact h⟩
    · exact (hS.out.trans (S.out.mono fun _ _ h => Or.inl h)).setCell (p := ⟨gt, k, none⟩) (Or.inl hD.out.ft) _

theorem write_any {F : Nat → Prop} {w : World} {d : Nat} {D : Dk} (h : Dsk F w d D) (hP : D.P.length < 100000) (at' : Int) (b : List UInt8) (hbl : b.length ≤ 16777216) :
    Calls Try.prog 31 #[dp d, .int .i64 at', .string ⟨b.toArray⟩] w fun e w' =>
      e = .returned (.int .i64 ((D.write at' b).2 : Nat)) ∧ Dsk (Grow F w) w' d (D.write at' b).1 ∧ Save F w w' := by
  have C := unfit_any h at'
  have wr := h.ok.write at' b
  unfold Dk.write at wr ⊢
  by_cases hu : D.unfit at' = 0
  · rw [if_pos hu] at wr ⊢
    obtain ⟨hdn, h0, hk⟩ := Dk.unfit_at hu
    obtain ⟨k, rfl⟩ : ∃ k : Nat, at' = k := ⟨at'.toNat, by omega⟩
    rw [Int.toNat_natCast] at hk wr ⊢
    by_cases hb : b.length = D.size
    · rw [if_pos hb] at wr ⊢
      have ok := h.ok
      obtain ⟨_, gl, gt, v, fs, h⟩ := h
      have N := count_any ok hdn h
      have hm := mul_in hk ok.m2 ok.s2
      refine (write_raw (F := F) (D := D.counted) (T := lats D) (r := D.unfit k) (b := b) hu (by rw [D.counted_many]; exact hk) (by rw [lats_len, D.counted_many]) (by rw [D.counted_size]; omega) (by rw [D.counted_size]; exact hb) (by rw [D.counted_P]; exact hP) C
        (by rw [D.counted_size]; exact h.hD.at rfl) N).mono ?_
      rintro e w' ⟨rfl, ⟨v', fs', hq⟩, s⟩
      refine ⟨rfl, ⟨wr, gl, gt, v', fs', ?_⟩, s⟩
      have hl : lats { D.counted with P := D.P ++ [(k, b)] } = (lats D).set k b := by
        have := lats_push D.counted k b
        rw [D.counted_P, lats_count] at this
        exact this.symm
      rw [hl]
      rw [D.counted_P] at hq
      exact hq
    · rw [if_neg hb] at wr ⊢
      have HH := Lib.hid h
      obtain ⟨_, gl, gt, v, fs, hh⟩ := h
      have c0 := hh.hD.at (i := 0) rfl
      have hsz : (⟨b.toArray⟩ : ByteArray).size = b.length := text_list b
      have e1 : ((b.length : Int) == (D.size : Int)) = false := by simp; omega
      have e2 : ((b.length : Int) != (D.size : Int)) = true := by simp; omega
      have e3 : ((b.length) == (D.size)) = false := by simp; omega
      have e4 : ((b.length) != (D.size)) = true := by simp; omega
      have K := Lib.hid C
      have HU := Lib.hid hu
      clear C hu wr hb hh hbl
      go_enter Try.func31, Try.ntmps31
      go_wp2_with fail
      refine K.out.mono ?_; rintro e w1 ⟨rfl, rfl⟩
      rw [HU.out]
      go_wp2_with fail
      go_ret
      exact ⟨rfl, HH.out.mono fun _ h => Or.inl h, Save.refl _ _⟩
  · rw [if_neg hu] at wr ⊢
    have e1 : ((D.unfit at' : Int) == 0) = false := by simp; omega
    have e2 : ((D.unfit at' : Int) != 0) = true := by simp; omega
    have HH := Lib.hid h
    have K := Lib.hid C
    clear h C hu wr
    generalize D.unfit at' = r at *
    go_enter Try.func31, Try.ntmps31
    go_wp2_with fail
    refine K.out.mono ?_; rintro e w1 ⟨rfl, rfl⟩
    go_wp2_with fail
    go_ret
    exact ⟨rfl, HH.out.mono fun _ h => Or.inl h, Save.refl _ _⟩

end Go.Proofs.Ytihajcjfppmfjaa
