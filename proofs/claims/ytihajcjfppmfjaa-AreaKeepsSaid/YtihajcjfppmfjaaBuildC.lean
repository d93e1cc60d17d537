/- A builder that a call has made, beside other blocks that are newer than it: which blocks WriteString may change. -/
import Derived.Test.YtihajcjfppmfjaaBuildB
import Derived.Test.YtihajcjfppmfjaaSecA
namespace Go.Proofs.Ytihajcjfppmfjaa
open Go.RowKit

/-- The blocks of which a builder may be made. -/
def BldR (B : Nat) (w : World) (k : Nat) : Prop := B ≤ k ∧ ∃ t l, Has w k t l ∧ (t = 5 ∨ t = 60)

theorem Save.of_below {B : Nat} {w w' : World} (h : Below B w w') : Save (fun k => B ≤ k) w w' :=
  ⟨h.os, h.tape, h.output, h.size, fun k _ hF => h.block k (Nat.lt_of_not_le hF)⟩

theorem BuilderAt_save {B b : Nat} {p : Value} {bs : List Value} {w w' : World} {R : Nat → Prop} (h : Lib.BuilderAt 60 5 B b p bs w) (s : Save R w w') (hR : ∀ k, BldR B w k → ¬ R k) : Lib.BuilderAt 60 5 B b p bs w' := by
  have hlt := h.lt
  obtain ⟨hB, v, hk, hown, hne⟩ := h
  refine ⟨hB, v, (s.block b hlt (hR b ⟨hB, _, [p, v], hk, Or.inr rfl⟩)).trans hk, ?_, hne⟩
  obtain ⟨h0, h1 | ⟨g, cap, cur, hv, hg, hh, hr⟩⟩ := hown
  · exact ⟨h0, Or.inl h1⟩
  · refine ⟨h0, Or.inr ⟨g, cap, cur, hv, hg, (s.block g (lt_of_block hh) (hR g ⟨hg, _, cur.toList, ?_, Or.inl rfl⟩)).trans hh, hr⟩⟩
    simpa [Has] using hh

theorem Bld.save {B b : Nat} {l : List UInt8} {w w' : World} {R : Nat → Prop} (h : Bld B b l w) (s : Save R w w') (hR : ∀ k, BldR B w k → ¬ R k) : Bld B b l w' := by
  refine ⟨?_⟩
  rcases h.out with h1 | h1
  · exact Or.inl (BuilderAt_save h1 s hR)
  · exact Or.inr (BuilderAt_save h1 s hR)

set_option maxHeartbeats 2000000 in
set_option maxRecDepth 100000 in
theorem bwrite_save (B b : Nat) (l : List UInt8) (s : ByteArray) (w : World) (h : Bld B b l w) (hlen : l.length + s.size ≤ 140737488355328) (hBw : B ≤ w.heap.size) :
    Calls Try.prog 22 #[.pointer (some ⟨b, 0, none⟩), .string s] w fun e w' => e = .returned (.tuple #[.int .i64 s.size, .nilIface]) ∧ Bld B b (l ++ s.data.toList) w' ∧ Save (BldR B w) w w' := by
  have hbl : (Lib.byteCells l).length = l.length := Lib.byteCells_length l
  have hout := h.out
  have key : ∀ bs : List Value, bs.length = l.length → Lib.IsBuilder 60 5 B b bs w → Calls Try.prog 22 #[.pointer (some ⟨b, 0, none⟩), .string s] w fun e w' => e = .returned (.tuple #[.int .i64 s.size, .nilIface]) ∧ Lib.BuilderAt 60 5 B b (.pointer (some ⟨b, 0, none⟩)) (bs ++ Lib.strCells s) w' ∧ Save (BldR B w) w w' := by
    intro bs hbs hbl
    have hlen' : bs.length + s.size ≤ 140737488355328 := by omega
    have hRb : BldR B w b := by
      rcases hbl with h | h
      · obtain ⟨hB, v, hk, _⟩ := h; exact ⟨hB, _, [_, v], hk, Or.inr rfl⟩
      · obtain ⟨hB, v, hk, _⟩ := h; exact ⟨hB, _, [_, v], hk, Or.inr rfl⟩
    clear hout h hlen hbs
    have cc : Calls Try.prog 32 #[.pointer (some ⟨b, 0, none⟩)] w fun e w' => e = .returned (.tuple #[]) ∧ (Lib.BuilderAt 60 5 B b (.pointer (some ⟨b, 0, none⟩)) bs w' ∧ Save (fun k => k = b) w w') := by
      rcases hbl with h | h
      · refine (copyCheck_fresh b w h.cell0 h.shape h.frozen0).mono ?_
        rintro e w' ⟨rfl, rfl⟩
        exact ⟨rfl, h.used _, Save.one w b 0 _⟩
      · refine (copyCheck_used b w h.cell0).mono ?_
        rintro e w' ⟨rfl, rfl⟩
        exact ⟨rfl, h, Save.refl _ _⟩
    have CC := Lib.hid cc
    have HRB := Lib.hid hRb
    clear cc hbl hRb
    obtain ⟨i0, hi, hz0, hz1, hz2⟩ := info_parts (show (Try.prog.info? 5).map (fun i => (i.zero, i.size, i.bytes)) = some (some (.int .u8 0), 1, 1) by kernel_rfl)
    go_enter Try.func22, Try.ntmps22
    go_wp2_with (go_at_call 32; refine CC.out.mono ?_)
    rintro e w1 ⟨rfl, h1, s1⟩
    obtain ⟨hB, v, hbk, hown, hne⟩ := h1
    have c0 : w1.cell? ⟨b, 0, none⟩ = some (.pointer (some ⟨b, 0, none⟩)) := by rw [Lib.cell_of_heap hbk]; rfl
    have c1 : w1.cell? ⟨b, 1, none⟩ = some v := by rw [Lib.cell_of_heap hbk]; rfl
    have S1 := Lib.hid s1
    clear s1
    go_wp2_with (refine Lib.wpList_append_own_string _ rfl _ _ 38 9 rfl B 5 i0 Try.underlying38 Try.underlying9 hi hz0 hz1 hz2 _ _ _ rfl hown s rfl ?c3 ?c4 ?c5 ?_)
    case c3 => unfold maxLen; omega
    case c4 => omega
    case c5 => have := S1.out.size; omega
    intro v' w2 hown' hgrow _
    have hlt : b < w1.heap.size := lt_of_block hbk
    have hb2 : w2.heap[b]? = some (.cells #[.pointer (some ⟨b, 0, none⟩), v] 60 (0, 0)) := by
      rw [hgrow.block b hlt (fun e => hne e.symm)]
      exact hbk
    have d0 : w2.cell? ⟨b, 0, none⟩ = some (.pointer (some ⟨b, 0, none⟩)) := by rw [Lib.cell_of_heap hb2]; rfl
    have d1 : w2.cell? ⟨b, 1, none⟩ = some v := by rw [Lib.cell_of_heap hb2]; rfl
    have f1 : w2.frozen? ⟨b, 1, none⟩ = false := Lib.frozen_of_heap hb2 1
    have s2 : Save (BldR B w) w w2 := by
      refine (S1.out.mono fun k _ hk => hk ▸ HRB.out).trans ((Save.push hgrow).mono fun k _ hk => ?_)
      have hk' : v.ownBlock = some k := hk
      obtain ⟨h0, ⟨hv, _⟩ | ⟨g, cap, cur, hv, hg, hh, _⟩⟩ := hown
      · rw [hv] at hk'; cases hk'
      · rw [hv] at hk'
        obtain rfl : g = k := by simpa [Value.ownBlock] using hk'
        have hgb : g ≠ b := fun e => by subst e; exact hne (by rw [hv]; rfl)
        rcases Nat.lt_or_ge g w.heap.size with h' | h'
        · refine Or.inl ⟨hg, _, cur.toList, ?_, Or.inl rfl⟩
          have := (S1.out.block g h' hgb).symm.trans hh
          simpa [Has] using this
        · exact Or.inr h'
    have S2 := Lib.hid s2
    obtain ⟨ao, n', cap, rfl⟩ : ∃ ao n' cap, v' = .slice ao n' cap := by
      rcases hown'.2 with ⟨hv, _⟩ | ⟨g, cap, cur, hv, _⟩
      · exact ⟨_, _, _, hv⟩
      · exact ⟨_, _, _, hv⟩
    clear s2
    go_wp2
    go_ret2
    refine ⟨rfl, ?_, ?_⟩
    · exact Lib.BuilderAt.put (T := 60) (e := 5) hB hb2 (bs' := bs ++ Lib.strCells s) (by simpa [Lib.strCells_length] using hown') (by decide)
    · exact S2.out.setCell (p := ⟨b, 1, none⟩) (Or.inl HRB.out) _
  refine (key _ hbl hout).mono ?_
  rintro e w' ⟨rfl, h1, h2⟩
  rw [Lib.strCells_eq, ← Lib.byteCells_append] at h1
  exact ⟨rfl, ⟨Or.inr h1⟩, h2⟩

end Go.Proofs.Ytihajcjfppmfjaa
