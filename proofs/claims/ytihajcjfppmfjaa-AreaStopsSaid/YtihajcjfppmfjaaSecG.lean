/- What of the pending writes is kept; the writes done. -/
import Derived.Test.YtihajcjfppmfjaaSecF
import Derived.StillTailTactics
namespace Go.Proofs.Ytihajcjfppmfjaa
open Go.RowKit Sec

/-- A slice of bools in memory, a nil one too. -/
structure BoSl (W : World) (A : Option Addr) (K : List Bool) : Prop where
  out : 0 < K.length → ∃ g o, A = some ⟨g, o, none⟩ ∧ ∀ (i : Nat) (b : Bool), K[i]? = some b → W.cell? ⟨g, o + i, none⟩ = some (.bool b)

theorem BoSl.save {W W' : World} {A : Option Addr} {K : List Bool} (h : BoSl W A K) {R : Nat → Prop} (s : Save R W W') (hR : ∀ g o, A = some ⟨g, o, none⟩ → ¬ R g) : BoSl W' A K := by
  refine ⟨fun hl => ?_⟩
  obtain ⟨g, o, hA, hc⟩ := h.out hl
  refine ⟨g, o, hA, fun i b hb => ?_⟩
  have h1 := hc i b hb
  exact (World.cell?_of_block (s.block g (World.block_lt_of_cell? W _ h1) (hR g o hA))).trans h1

theorem BoSl.up {W W' : World} {A : Option Addr} {K : List Bool} (h : BoSl W A K) (b : Below W.heap.size W W') : BoSl W' A K := h.save (Save.up (F := fun _ => False) b) (fun _ _ _ h => h)

/-- A slice of pending writes that a call made. -/
structure OwnW (B : Nat) (v : Value) (l : List Value) (W : World) : Prop where
  out : W.ownsRow B 73 1 v l.length l

theorem OwnW.nil (B : Nat) (W : World) : OwnW B (.slice none 0 0) [] W := ⟨World.ownsRow_nil _ _ _ _⟩

/-- AN APPEND of one write. -/
theorem wpList_pushW {ops : Array Oper} {rest : List Oper} {o : Oper} {a : Act} {w : World} {Q : Exit → Act → World → Prop} (hgd : o.guard = none) (s x : Operand)
    (ho : o.op = .call { callee := .builtin .append, args := #[s, x], argTypes := #[43, 43] })
    (B : Nat) (v : Value) (l : List Value) (hs : a.eval s = v) (hown : OwnW B v l w) (g : Nat) (f : Value) (hx : a.eval x = .slice (some ⟨g, 0, none⟩) 1 1) (hg : Has w g 73 [f]) (h1 : f.oneCell' = true)
    (h63 : l.length + 1 ≤ 1000000) (hB : B ≤ w.heap.size)
    (h : ∀ v' w', OwnW B v' (l ++ [f]) w' → Below B w w' → wpList Try.prog ops Q rest (a.put o.dst v') w') : wpList Try.prog ops Q (o :: rest) a w := by
  obtain ⟨i0, hi, hz0, hz1, hz2⟩ := info_parts info_wr
  refine wpList_append_lies w hgd s x 43 ho B 73 i0 _ 1 8 Try.underlying43 hi hz0 hz1 hz2 rfl (by omega) v l.length l hs hown.out ⟨g, 0, none⟩ 1 1 [f] hx rfl
    (World.news_of_block (cs := #[f]) hg) (by intro u hu; obtain rfl := List.mem_singleton.1 hu; exact h1) (by omega) (by unfold maxLen; omega) (by omega) hB _ rfl ?_
  intro g' cap w1 hown1 hgrow hat hlt
  refine h _ w1 ⟨?_⟩ ((Below.refl B w).grown hgrow hB (fun j hj => (hown.out.lt j hj).1))
  rw [List.length_append]
  exact hown1

/-- A row of writes that is read. -/
structure RowW (W : World) (A : Option Addr) (fs : List Value) : Prop where
  out : 0 < fs.length → ∃ g l, A = some ⟨g, 0, none⟩ ∧ Has W g 73 l ∧ ∀ (i : Nat) (f : Value), fs[i]? = some f → l[i]? = some f

theorem RowW.of_own {W : World} {B n : Nat} {v : Value} {fs : List Value} (h : W.ownsRow B 73 1 v n fs) : ∃ A c, v = .slice A n c ∧ RowW W A fs := by
  obtain ⟨h0, ⟨rfl, rfl⟩ | ⟨g, cap, cur, rfl, _, hh, _, _, _, ht⟩⟩ := h
  · exact ⟨none, 0, rfl, ⟨fun hl => by omega⟩⟩
  · refine ⟨_, cap, rfl, ⟨fun _ => ⟨g, cur.toList, rfl, by simpa [Has] using hh, fun i f hf => ?_⟩⟩⟩
    rw [← ht, List.getElem?_take] at hf
    split at hf
    · exact hf
    · cases hf

theorem RowW.save {W W' : World} {A : Option Addr} {fs : List Value} (h : RowW W A fs) {R : Nat → Prop} (s : Save R W W') (hR : ∀ g l, Has W g 73 l → ¬ R g) : RowW W' A fs := by
  refine ⟨fun hl => ?_⟩
  obtain ⟨g, l, hA, hg, hf⟩ := h.out hl
  exact ⟨g, l, hA, s.has hg (hR g l hg), hf⟩

/-- A value that is a write. -/
def IsWr (f : Value) : Prop := ∃ p q, f = .func (.func 35) #[] #[.pointer (some p), .pointer (some q)]

set_option maxHeartbeats 2000000 in
theorem kept_raw (d : Nat) (A A2 : Option Addr) (fs : List Value) (K : List Bool) (c c2 : Nat) (hn : fs.length ≤ 100000) (hK : K.length ≤ 9223372036854775807) (h1 : ∀ f ∈ fs, IsWr f) (w : World) (h2 : w.cell? ⟨d, 2, none⟩ = some (.slice A fs.length c)) (hR : RowW w A fs) (hB : BoSl w A2 K) :
    Calls Try.prog 28 #[dp d, .slice A2 K.length c2] w fun e w' => ∃ v, e = .returned v ∧ OwnW w.heap.size v (kp fs K) w' ∧ Below w.heap.size w w' := by
  have HR := Lib.hid hR
  have HB := Lib.hid hB
  have H1 := Lib.hid h1
  have HK := Lib.hid hK
  clear hR hB h1 hK
  obtain ⟨n, hnn⟩ : ∃ n, n = fs.length := ⟨_, rfl⟩
  rw [← hnn] at hn h2
  have HN := Lib.hid hnn
  clear hnn
  obtain ⟨m, hmm⟩ : ∃ m, m = K.length := ⟨_, rfl⟩
  rw [← hmm] at HK ⊢
  have HM := Lib.hid hmm
  clear hmm
  have HW := Lib.hid (show w = w from rfl)
  go_enter Try.func28, Try.ntmps28
  go_wp2_with fail
  go_loopw [5, 13] (fun v i wr => ∃ k : Nat, k ≤ n ∧ i = .int .i64 (k : Nat) ∧ Hid (OwnW w.heap.size v (kp (fs.take k) K) wr) ∧ Hid (Below w.heap.size w wr)) (fun _ i _ => n - (intOf i).toNat)
  case atStart => exact ⟨0, by omega, rfl, Lib.hid (by rw [List.take_zero]; exact OwnW.nil _ _), Lib.hid (Below.refl _ _)⟩
  case round =>
    obtain ⟨k, hk, rfl, HO, HL⟩ := hrel
    by_cases hlt : k < n
    · have hfl : k < fs.length := by rw [← HN.out]; exact hlt
      obtain ⟨g, l, hA, hg, hf⟩ := HR.out.out (by omega)
      subst hA
      have cf := (hg.up HL.out).at (hf k fs[k] (List.getElem?_eq_getElem hfl))
      have KT := Lib.hid (kp_take k fs K hfl)
      have kl : (kp (fs.take k) K).length ≤ 100000 := by have := kp_len (fs.take k) K; simp at this; omega
      have KL := Lib.hid kl
      have O1 := Lib.hid (H1.out fs[k] (List.getElem_mem hfl))
      generalize fs[k] = f at *
      obtain ⟨p, q, rfl⟩ := O1.out
      have klt : (k : Int) < (n : Int) := by omega
      clear hf kl
      by_cases hkm : k < m
      · have hkl : k < K.length := by rw [← HM.out]; exact hkm
        obtain ⟨g2, o2, hA2, hb⟩ := (HB.out.up HL.out).out (by omega)
        subst hA2
        have cb := hb k K[k] (List.getElem?_eq_getElem hkl)
        rw [List.getElem?_eq_getElem hkl] at KT
        have k2 : (k : Int) < (m : Int) := by omega
        clear hb
        cases hkk : K[k] with
        | false =>
          rw [hkk] at cb KT
          clear hkk
          go_wp2_with fail
          go_roundw
          case rel => exact ⟨k + 1, by omega, by go_num, Lib.hid (by rw [KT.out]; simpa using HO.out), HL⟩
          case measure => simp [intOf]; omega
        | true =>
          rw [hkk] at cb KT
          clear hkk
          have hwz := HL.out.size
          go_wp2_with (refine wpList_pushW rfl (.tmp 28) (.tmp 30) rfl w.heap.size _ (kp (fs.take k) K) rfl ⟨HO.out.out.alloc _⟩ wr.heap.size _ rfl (Has.make wr _ [_]) rfl (by have := KL.out; omega) (by simp; omega) ?_; intro v' w' ho hb; replace ho := Lib.hid ho; replace hb := Lib.hid hb)
          go_roundw
          case rel => exact ⟨k + 1, by omega, by go_num, Lib.hid (by rw [KT.out, if_pos rfl]; exact ho.out), Lib.hid ((HL.out.alloc hwz _).trans hb.out)⟩
          case measure => simp [intOf]; omega
      · have hkl : K[k]? = none := List.getElem?_eq_none (by rw [← HM.out]; omega)
        rw [hkl] at KT
        have k2 : (m : Int) ≤ (k : Int) := by omega
        go_wp2_with fail
        go_roundw
        case rel => exact ⟨k + 1, by omega, by go_num, Lib.hid (by rw [KT.out]; simpa using HO.out), HL⟩
        case measure => simp [intOf]; omega
    · obtain rfl : k = n := by omega
      have ht : fs.take k = fs := List.take_of_length_le (by rw [← HN.out]; exact Nat.le_refl _)
      rw [ht] at HO
      go_wp2_with fail
      go_ret
      exact ⟨_, rfl, HO.out, HL.out⟩

end Go.Proofs.Ytihajcjfppmfjaa
