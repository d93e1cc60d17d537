/- Appends onto slices of events and of texts that the call itself made: which blocks they may change. -/
import Derived.Test.YthhcopeejhhpgaaDoorOwnE
import Derived.Test.YthhcopeejhhpgaaDoorSave
import Derived.Test.YthhcopeejhhpgaaDoorStrs
namespace Go.Proofs.YthhcopeejhhpgaaDoor
open Go.RowKit Evt

/-- Blocks from B on that hold cells of a type. -/
def Typ (B : Nat) (t : TypeId) (w : World) (k : Nat) : Prop := B ≤ k ∧ ∃ l, Has w k t l

theorem Typ.ne {B : Nat} {t t' : TypeId} {w : World} {k : Nat} {l : List Value} (h : Has w k t' l) (ht : t' ≠ t) : ¬ Typ B t w k := by
  rintro ⟨_, l', h'⟩
  exact ht (h.same h')

theorem Typ.own {B : Nat} {t : TypeId} {s n : Nat} {v : Value} {xs : List Value} {w w' : World} (h : w.ownsRow B t s v n xs) (hg : w.grownBy w' v.ownBlock) : Save (Typ B t w) w w' := by
  refine (Save.push hg).mono fun k _ hk => ?_
  have hk' : v.ownBlock = some k := hk
  obtain ⟨h0, ⟨rfl, _⟩ | ⟨g, cap, cur, rfl, hb, hh, _⟩⟩ := h
  · cases hk'
  · obtain rfl : g = k := by simpa [Value.ownBlock] using hk'
    exact ⟨hb, cur.toList, by simpa [Has] using hh⟩

/-- AN APPEND of the events of any slice, nil too. -/
theorem wpList_pushEs {ops : Array Oper} {rest : List Oper} {o : Oper} {a : Act} {w : World} {Q : Exit → Act → World → Prop} (hgd : o.guard = none) (s x : Operand)
    (ho : o.op = .call { callee := .builtin .append, args := #[s, x], argTypes := #[24, 24] })
    (B : Nat) (v : Value) (l : List Ev) (hs : a.eval s = v) (hown : OwnE B v l w) (A : Option Addr) (m c : Nat) (news : List Ev) (hx : a.eval x = .slice A m c) (hl : news.length = m) (hA : EvSl w A news) (hc : A = none → c = 0)
    (h63 : l.length + m ≤ 1000000) (hB : B ≤ w.heap.size)
    (h : ∀ v' w', OwnE B v' (l ++ news) w' → Save (Typ B 47 w) w w' → wpList Tryd.prog ops Q rest (a.put o.dst v') w') : wpList Tryd.prog ops Q (o :: rest) a w := by
  obtain ⟨i0, hi, hz0, hz1, hz2⟩ := info_parts info_ev
  cases A with
  | none =>
    have hm : m = 0 := by
      refine Nat.eq_zero_of_not_pos fun hp => ?_
      obtain ⟨g, o, h1, _⟩ := hA (by omega)
      cases h1
    obtain rfl := hc rfl
    subst hm
    obtain rfl : news = [] := List.length_eq_zero_iff.1 hl
    refine wpList_append_own_none hgd s x 24 ho B 47 i0 6 Tryd.underlying24 hi v l.length (l.flatMap evc) hs hown.out hx ?_
    exact h v w (by rw [List.append_nil]; exact hown) (Save.refl _ _)
  | some ad =>
    refine wpList_append_own w hgd s x 24 ho B 47 i0 _ 6 48 Tryd.underlying24 hi hz0 hz1 hz2 rfl (by omega) v l.length (l.flatMap evc) hs hown.out ad m c (news.flatMap evc) hx (by rw [flat_len, hl]) ?_ (flat_one news) (by unfold maxLen; omega) (by omega) hB ?_
    · intro j u hu
      obtain ⟨i, y, r, hy, hr, he⟩ := flat_back news j u hu
      obtain ⟨g, o', h1, hat⟩ := hA (by have := (List.getElem?_eq_some_iff.1 hy).1; omega)
      obtain rfl : ad = ⟨g, o', none⟩ := by injection h1
      rw [ad_add, he, ← Nat.add_assoc]
      exact hat i y hy r u hr
    · intro v' w1 hown1 hgrow _
      refine h v' w1 ⟨?_⟩ (Typ.own hown.out hgrow)
      rw [List.flatMap_append, List.length_append, hl]
      exact hown1

/-- A slice of events of the call's own, behind changes elsewhere. -/
theorem OwnE.save {B : Nat} {v : Value} {l : List Ev} {w w' : World} {R : Nat → Prop} (h : OwnE B v l w) (s : Save R w w') (hR : ∀ k, Typ B 47 w k → ¬ R k) : OwnE B v l w' := by
  refine ⟨s.own h.out fun g hg => hR g ?_⟩
  obtain ⟨h0, ⟨rfl, _⟩ | ⟨g', cap, cur, rfl, hb, hh, _⟩⟩ := h.out
  · cases hg
  · obtain rfl : g' = g := by simpa [Value.ownBlock] using hg
    exact ⟨hb, cur.toList, by simpa [Has] using hh⟩

theorem OwnE.opened2 {B : Nat} {v : Value} {l : List Ev} {W : World} (h : OwnE B v l W) : ∃ A n cap, v = .slice A n cap ∧ n = l.length ∧ l.length ≤ cap ∧ EvSl W A l ∧ (A = none → cap = 0) := by
  obtain ⟨A, n, cap, rfl, h1, h2, h3⟩ := h.opened
  refine ⟨A, n, cap, rfl, h1, h2, h3, fun hA => ?_⟩
  subst hA
  obtain ⟨h0, ⟨hv, hn⟩ | ⟨g, cap', cur, hv, _⟩⟩ := h.out
  · injection hv
  · cases hv

/-- Texts, as cells. -/
def tcs (l : List (List UInt8)) : List Value := l.map fun s => Value.string ⟨s.toArray⟩

theorem tcs_one (l : List (List UInt8)) : ∀ v ∈ tcs l, v.oneCell' = true := by
  intro v hv
  obtain ⟨n, _, rfl⟩ := List.mem_map.1 hv
  rfl

theorem info_txt : (Tryd.prog.info? 9).map (fun i => (i.zero, i.size, i.bytes)) = some (some (.string ⟨#[]⟩), 1, 16) := by kernel_rfl

/-- A slice of texts that the call itself made. -/
structure OwnT (B : Nat) (v : Value) (l : List (List UInt8)) (W : World) : Prop where
  out : W.ownsRow B 9 1 v l.length (tcs l)

theorem OwnT.nil (B : Nat) (W : World) : OwnT B (.slice none 0 0) [] W := ⟨⟨by simp [tcs], Or.inl ⟨rfl, rfl⟩⟩⟩
theorem OwnT.below {B : Nat} {v : Value} {l : List (List UInt8)} {W w1 : World} (h : OwnT B v l W) (hb : Below W.heap.size W w1) : OwnT B v l w1 := ⟨own_below h.out hb⟩
theorem OwnT.alloc {B : Nat} {v : Value} {l : List (List UInt8)} {W : World} (h : OwnT B v l W) (o : Obj) : OwnT B v l (W.alloc o) := ⟨h.out.alloc o⟩
theorem OwnT.save {B : Nat} {v : Value} {l : List (List UInt8)} {w w' : World} {R : Nat → Prop} (h : OwnT B v l w) (s : Save R w w') (hR : ∀ k, Typ B 9 w k → ¬ R k) : OwnT B v l w' := by
  refine ⟨s.own h.out fun g hg => hR g ?_⟩
  obtain ⟨h0, ⟨rfl, _⟩ | ⟨g', cap, cur, rfl, hb, hh, _⟩⟩ := h.out
  · cases hg
  · obtain rfl : g' = g := by simpa [Value.ownBlock] using hg
    exact ⟨hb, cur.toList, by simpa [Has] using hh⟩

/-- .. opened. -/
theorem OwnT.opened {B : Nat} {v : Value} {l : List (List UInt8)} {W : World} (h : OwnT B v l W) : ∃ A cap, v = .slice A l.length cap ∧ l.length ≤ cap ∧ StSl W A l := by
  obtain ⟨h0, ⟨rfl, hn⟩ | ⟨g, cap, cur, rfl, hg, hh, hn, hc, hs, ht⟩⟩ := h.out
  · exact ⟨none, 0, by rw [hn], by omega, ⟨fun hl => by omega⟩⟩
  · refine ⟨some ⟨g, 0, none⟩, cap, rfl, by omega, ⟨fun _ => ⟨g, 0, rfl, fun i s hi => ?_⟩⟩⟩
    have h1 : (tcs l)[i]? = some (.string ⟨s.toArray⟩) := by simp [tcs, hi]
    rw [← ht, List.getElem?_take] at h1
    split at h1
    · have hH : Has W g 9 cur.toList := by simpa [Has] using hh
      rw [Nat.zero_add]
      exact hH.at h1
    · cases h1

/-- AN APPEND of one text. -/
theorem wpList_pushT {ops : Array Oper} {rest : List Oper} {o : Oper} {a : Act} {w : World} {Q : Exit → Act → World → Prop} (hgd : o.guard = none) (s x : Operand)
    (ho : o.op = .call { callee := .builtin .append, args := #[s, x], argTypes := #[34, 34] })
    (B : Nat) (v : Value) (l : List (List UInt8)) (hs : a.eval s = v) (hown : OwnT B v l w) (g : Nat) (t : List UInt8) (hx : a.eval x = .slice (some ⟨g, 0, none⟩) 1 1) (hg : Has w g 9 [.string ⟨t.toArray⟩])
    (h63 : l.length + 1 ≤ 1000000) (hB : B ≤ w.heap.size)
    (h : ∀ v' w', OwnT B v' (l ++ [t]) w' → Save (Typ B 9 w) w w' → wpList Tryd.prog ops Q rest (a.put o.dst v') w') : wpList Tryd.prog ops Q (o :: rest) a w := by
  obtain ⟨i0, hi, hz0, hz1, hz2⟩ := info_parts info_txt
  refine wpList_append_lies w hgd s x 34 ho B 9 i0 _ 1 16 Tryd.underlying34 hi hz0 hz1 hz2 rfl (by omega) v l.length (tcs l) hs hown.out ⟨g, 0, none⟩ 1 1 [.string ⟨t.toArray⟩] hx rfl
    (World.news_of_block (cs := #[.string ⟨t.toArray⟩]) hg) (by intro u hu; obtain rfl := List.mem_singleton.1 hu; rfl) (by omega) (by unfold maxLen; omega) (by omega) hB _ rfl ?_
  intro g' cap w1 hown1 hgrow hat hlt
  refine h _ w1 ⟨?_⟩ (Typ.own hown.out hgrow)
  rw [List.length_append]
  have e : tcs (l ++ [t]) = tcs l ++ [.string ⟨t.toArray⟩] := by simp [tcs]
  rw [e]
  exact hown1

end Go.Proofs.YthhcopeejhhpgaaDoor
