/- What a call may leave of memory, by the blocks that it may write to; a disk in memory. -/
import Derived.Test.YtihajcjfppmfjaaMemory
import Derived.Test.YtihajcjfppmfjaaPureSec
import Derived.Deep.AppendLies
import Derived.Lib.Hide
import Derived.Lib.LazyBuf
import Derived.Lib.SliceRun
namespace Go.Proofs.Ytihajcjfppmfjaa
open Go.RowKit Sec

/-- All blocks that were there are as they were, but those of which F speaks. -/
structure Save (F : Nat → Prop) (w w' : World) : Prop where
  os : w'.os = w.os
  tape : w'.tape = w.tape
  output : w'.output = w.output
  size : w.heap.size ≤ w'.heap.size
  block : ∀ k, k < w.heap.size → ¬ F k → w'.heap[k]? = w.heap[k]?

/-- Blocks of which F speaks, and all new ones. -/
def Grow (F : Nat → Prop) (w : World) (k : Nat) : Prop := F k ∨ w.heap.size ≤ k

theorem Save.refl (F : Nat → Prop) (w : World) : Save F w w := ⟨rfl, rfl, rfl, Nat.le_refl _, fun _ _ _ => rfl⟩
theorem Save.trans {F : Nat → Prop} {a b c : World} (h : Save F a b) (k : Save (Grow F a) b c) : Save F a c :=
  ⟨k.os.trans h.os, k.tape.trans h.tape, k.output.trans h.output, Nat.le_trans h.size k.size, fun i hi hF =>
    (k.block i (Nat.lt_of_lt_of_le hi h.size) (fun hg => by rcases hg with hg | hg; exact hF hg; omega)).trans (h.block i hi hF)⟩
theorem Save.mono {F G : Nat → Prop} {w w' : World} (h : Save F w w') (hFG : ∀ k, k < w.heap.size → F k → G k) : Save G w w' :=
  ⟨h.os, h.tape, h.output, h.size, fun k hk hG => h.block k hk fun hF => hG (hFG k hk hF)⟩
theorem Save.up {F : Nat → Prop} {w w' : World} (h : Below w.heap.size w w') : Save F w w' := ⟨h.os, h.tape, h.output, h.size, fun k hk _ => h.block k hk⟩
theorem Save.below {F : Nat → Prop} {w w' : World} {B : Nat} (h : Save F w w') (hF : ∀ k, F k → B ≤ k) (hB : B ≤ w.heap.size) : Below B w w' :=
  ⟨h.os, h.tape, h.output, h.size, fun k hk => h.block k (Nat.lt_of_lt_of_le hk hB) fun hf => by have := hF k hf; omega⟩
theorem Save.least {w w' : World} (h : Save (fun _ => False) w w') : Below w.heap.size w w' := h.below (fun _ h => h.elim) (Nat.le_refl _)
theorem Save.on {F : Nat → Prop} {a b c : World} (h : Save F a b) (k : Below b.heap.size b c) : Save F a c := h.trans (Save.up k)
theorem Save.has {F : Nat → Prop} {w w' : World} {g : Nat} {t : TypeId} {l : List Value} (h : Save F w w') (hg : Has w g t l) (hF : ¬ F g) : Has w' g t l := (h.block g hg.lt hF).trans hg
theorem Save.alloc {F : Nat → Prop} {a w : World} (h : Save F a w) (o : Obj) : Save F a (w.alloc o) := h.on ((Below.refl _ _).alloc (Nat.le_refl _) o)
theorem Save.drew {F : Nat → Prop} {a w : World} (h : Save F a w) : Save F a w.drew := ⟨h.os, h.tape, h.output, h.size, h.block⟩
theorem Save.drewN {F : Nat → Prop} {a w : World} (h : Save F a w) (n : Nat) : Save F a (w.drewN n) := ⟨h.os, h.tape, h.output, h.size, h.block⟩
theorem Save.setCell {F : Nat → Prop} {a w : World} (h : Save F a w) {p : Addr} (hp : Grow F a p.block) (v : Value) : Save F a (w.setCell p v) :=
  ⟨h.os, h.tape, h.output, by have := h.size; simpa [World.setCell] using this, fun k hk hF => by
    rw [Below.heap_setCell _ _ _ _ (fun e => by subst e; rcases hp with hp | hp; exact hF hp; omega)]
    exact h.block k hk hF⟩
theorem Save.setCells {F : Nat → Prop} {b : Nat} : ∀ (vs : List Value) (o : Nat) {a w : World}, Save F a w → Grow F a b → Save F a (w.setCells b o vs)
  | [], _, _, _, h, _ => h
  | v :: vs, o, a, w, h, hb => by
    rw [World.setCells]
    exact Save.setCells vs (o + 1) (h.setCell (p := ⟨b, o, none⟩) hb v) hb
theorem Save.grown {F : Nat → Prop} {a w w' : World} {row : Option Nat} (h : Save F a w) (hg : w.grownBy w' row) (hr : ∀ k, row = some k → Grow F a k) : Save F a w' :=
  ⟨hg.os.trans h.os, hg.tape.trans h.tape, hg.output.trans h.output, Nat.le_trans h.size hg.size, fun k hk hF =>
    (hg.block k (Nat.lt_of_lt_of_le hk h.size) (fun e => by rcases hr k e.symm with h' | h'; exact hF h'; omega)).trans (h.block k hk hF)⟩

theorem Grow.grow {F : Nat → Prop} {w w' : World} (h : w.heap.size ≤ w'.heap.size) {k : Nat} (hk : Grow (Grow F w) w' k) : Grow F w k := by
  rcases hk with hk | hk
  · exact hk
  · exact Or.inr (Nat.le_trans h hk)

theorem Has.ne {w : World} {g g' : Nat} {t t' : TypeId} {l l' : List Value} (h : Has w g t l) (h' : Has w g' t' l') (ht : t ≠ t') : g ≠ g' := by
  intro e
  subst e
  have h1 : some (Obj.cells l.toArray t (0, 0)) = some (Obj.cells l'.toArray t' (0, 0)) := h.symm.trans h'
  simp at h1
  exact ht h1.2

theorem Has.same {w : World} {g : Nat} {t t' : TypeId} {l l' : List Value} (h : Has w g t l) (h' : Has w g t' l') : t = t' := by
  have h1 : some (Obj.cells l.toArray t (0, 0)) = some (Obj.cells l'.toArray t' (0, 0)) := h.symm.trans h'
  simp at h1
  exact h1.2

theorem Save.one (w : World) (b i : Nat) (v : Value) : Save (fun k => k = b) w (w.setCell ⟨b, i, none⟩ v) := (Save.refl (fun k => k = b) w).setCell (p := ⟨b, i, none⟩) (Or.inl rfl) v
theorem Save.row (w : World) (b o : Nat) (vs : List Value) : Save (fun k => k = b) w (w.setCells b o vs) := (Save.refl _ w).setCells vs o (Or.inl rfl)
theorem Save.push {w w' : World} {row : Option Nat} (h : w.grownBy w' row) : Save (fun k => row = some k) w w' := (Save.refl _ w).grown h (fun _ hk => Or.inl hk)

/-- A row that the call owns, where its block was left alone. -/
theorem Save.own {R : Nat → Prop} {w w' : World} {B e s n : Nat} {v : Value} {xs : List Value} (s' : Save R w w') (h : w.ownsRow B e s v n xs) (hR : ∀ g, v.ownBlock = some g → ¬ R g) : w'.ownsRow B e s v n xs := by
  obtain ⟨h0, h1 | ⟨g, cap, cur, hv, hg, hh, hr⟩⟩ := h
  · exact ⟨h0, Or.inl h1⟩
  · refine ⟨h0, Or.inr ⟨g, cap, cur, hv, hg, ?_, hr⟩⟩
    subst hv
    exact (s'.block g (lt_of_block hh) (hR g rfl)).trans hh

/-- A write that is pending, as a closure over two blocks. -/
def Wr (F : Nat → Prop) (w : World) (n gt : Nat) (p : Nat × List UInt8) (f : Value) : Prop :=
  ∃ bf bs, f = .func (.func 35) #[] #[.pointer (some ⟨bf, 0, none⟩), .pointer (some ⟨bs, 0, none⟩)] ∧ Has w bf 3 [.int .i64 ((p.1 * n : Nat) : Int)] ∧ Has w bs 9 [.string ⟨p.2.toArray⟩] ∧ F bf ∧ F bs ∧ bs ≠ gt

/-- Pending writes, as closures. -/
structure Wrs (F : Nat → Prop) (w : World) (n gt : Nat) (P : List (Nat × List UInt8)) (fs : List Value) : Prop where
  len : fs.length = P.length
  wr : ∀ (i : Nat) (p : Nat × List UInt8) (f : Value), P[i]? = some p → fs[i]? = some f → Wr F w n gt p f

theorem Wr.save {F R : Nat → Prop} {w w' : World} {n gt : Nat} {p : Nat × List UInt8} {f : Value} (h : Wr F w n gt p f) (s : Save R w w') (hR : ∀ k t l, F k → Has w k t l → R k → t ≠ 3 ∧ (t = 9 → k = gt)) : Wr F w' n gt p f := by
  obtain ⟨bf, bs, rfl, h1, h2, h3, h4, h5⟩ := h
  exact ⟨bf, bs, rfl, s.has h1 (fun hr => (hR _ _ _ h3 h1 hr).1 rfl), s.has h2 (fun hr => h5 ((hR _ _ _ h4 h2 hr).2 rfl)), h3, h4, h5⟩

theorem Wr.mono {F G : Nat → Prop} {w : World} {n gt : Nat} {p : Nat × List UInt8} {f : Value} (h : Wr F w n gt p f) (hG : ∀ k, F k → G k) : Wr G w n gt p f := by
  obtain ⟨bf, bs, rfl, h1, h2, h3, h4, h5⟩ := h
  exact ⟨bf, bs, rfl, h1, h2, hG _ h3, hG _ h4, h5⟩

theorem Wrs.save {F R : Nat → Prop} {w w' : World} {n gt : Nat} {P : List (Nat × List UInt8)} {fs : List Value} (h : Wrs F w n gt P fs) (s : Save R w w') (hR : ∀ k t l, F k → Has w k t l → R k → t ≠ 3 ∧ (t = 9 → k = gt)) : Wrs F w' n gt P fs :=
  ⟨h.len, fun i p f hp hf => (h.wr i p f hp hf).save s hR⟩

theorem Wrs.one {F : Nat → Prop} {w w' : World} {n gt b : Nat} {t : TypeId} {l : List Value} {P : List (Nat × List UInt8)} {fs : List Value} (h : Wrs F w n gt P fs) (s : Save (fun k => k = b) w w') (hb : Has w b t l) (ht : t ≠ 3) (ht' : t ≠ 9 ∨ b = gt) : Wrs F w' n gt P fs :=
  h.save s (fun k t' l' _ hk e => by
    have e' : k = b := e
    subst e'
    obtain rfl := hb.same hk
    exact ⟨ht, fun e => by rcases ht' with h | h; exact absurd e h; exact h⟩)

theorem Wrs.push {F : Nat → Prop} {w : World} {n gt : Nat} {P : List (Nat × List UInt8)} {fs : List Value} (h : Wrs F w n gt P fs) {p : Nat × List UInt8} {f : Value} (hf : Wr F w n gt p f) : Wrs F w n gt (P ++ [p]) (fs ++ [f]) := by
  refine ⟨by simp [h.len], fun i q g hq hg => ?_⟩
  have hl := h.len
  rcases Nat.lt_or_ge i P.length with hi | hi
  · rw [List.getElem?_append_left hi] at hq
    rw [List.getElem?_append_left (by omega)] at hg
    exact h.wr i q g hq hg
  · rw [List.getElem?_append_right hi] at hq
    rw [List.getElem?_append_right (by omega)] at hg
    rw [hl] at hg
    cases hj : i - P.length with
    | zero => rw [hj] at hq hg; simp at hq hg; subst hq hg; exact hf
    | succ k => rw [hj] at hq; simp at hq

/-- The cells of a disk. -/
def dcs (D : Dk) (gl gt : Nat) (v : Value) : List Value :=
  [.int .i64 (D.size : Nat), .slice (some ⟨gl, 0, none⟩) (D.many * D.size) (D.many * D.size), v, .slice (some ⟨gt, 0, none⟩) D.many D.many, .bool D.br, .int .i64 (D.left : Nat)]

/-- Texts, as cells. -/
def txs (T : List (List UInt8)) : List Value := T.map fun b => Value.string ⟨b.toArray⟩

theorem txs_at (T : List (List UInt8)) {i : Nat} (h : i < T.length) : (txs T)[i]? = some (.string ⟨T[i].toArray⟩) := by simp [txs, h]
theorem txs_one (T : List (List UInt8)) : ∀ v ∈ txs T, v.oneCell' = true := by
  intro v hv
  obtain ⟨n, _, rfl⟩ := List.mem_map.1 hv
  rfl

/-- A disk in memory, laid open. -/
structure DskAt (F : Nat → Prop) (w : World) (d : Nat) (D : Dk) (T : List (List UInt8)) (gl gt : Nat) (v : Value) (fs : List Value) : Prop where
  hD : Has w d 45 (dcs D gl gt v)
  hL : Has w gl 5 (bys D.L)
  hT : Has w gt 9 (txs T)
  own : w.ownsRow 0 73 1 v D.P.length fs
  hW : Wrs F w D.size gt D.P fs
  fd : F d
  fl : F gl
  ft : F gt
  fv : ∀ g, v.ownBlock = some g → F g

def lats (D : Dk) : List (List UInt8) := (List.range D.many).map (lat D.P)

/-- A disk in memory. -/
structure Dsk (F : Nat → Prop) (w : World) (d : Nat) (D : Dk) : Prop where
  ok : D.Ok
  ex : ∃ gl gt v fs, DskAt F w d D (lats D) gl gt v fs

section
variable {F : Nat → Prop} {w : World} {d : Nat} {D : Dk} {T : List (List UInt8)} {gl gt : Nat} {v : Value} {fs : List Value}

theorem DskAt.row (h : DskAt F w d D T gl gt v fs) {g : Nat} (hg : v.ownBlock = some g) : ∃ l, Has w g 73 l := by
  obtain ⟨h0, ⟨rfl, _⟩ | ⟨g', cap, cur, rfl, _, hh, _⟩⟩ := h.own
  · cases hg
  · obtain rfl : g' = g := by simpa [Value.ownBlock] using hg
    exact ⟨cur.toList, by simpa [Has] using hh⟩

theorem DskAt.lt (h : DskAt F w d D T gl gt v fs) : d < w.heap.size ∧ gl < w.heap.size ∧ gt < w.heap.size ∧ ∀ g, v.ownBlock = some g → g < w.heap.size :=
  ⟨h.hD.lt, h.hL.lt, h.hT.lt, fun _ hg => (h.row hg).elim fun _ hl => hl.lt⟩

/-- A change that does not reach a disk's blocks. -/
theorem DskAt.save (h : DskAt F w d D T gl gt v fs) {R : Nat → Prop} {w' : World} (s : Save R w w') (hR : ∀ k, F k → k < w.heap.size → ¬ R k) : DskAt F w' d D T gl gt v fs :=
  ⟨s.has h.hD (hR _ h.fd h.hD.lt), s.has h.hL (hR _ h.fl h.hL.lt), s.has h.hT (hR _ h.ft h.hT.lt), s.own h.own (fun g hg => hR _ (h.fv g hg) (h.lt.2.2.2 g hg)),
   h.hW.save s (fun k _ _ hF hk hr => absurd hr (hR k hF hk.lt)), h.fd, h.fl, h.ft, h.fv⟩

theorem DskAt.up (h : DskAt F w d D T gl gt v fs) {w' : World} (b : Below w.heap.size w w') : DskAt F w' d D T gl gt v fs :=
  h.save (Save.up (F := fun _ => False) b) (fun _ _ _ h => h)

theorem DskAt.mono (h : DskAt F w d D T gl gt v fs) {G : Nat → Prop} (hG : ∀ k, F k → G k) : DskAt G w d D T gl gt v fs :=
  ⟨h.hD, h.hL, h.hT, h.own, ⟨h.hW.len, fun i p f hp hf => (h.hW.wr i p f hp hf).mono hG⟩, hG _ h.fd, hG _ h.fl, hG _ h.ft, fun g hg => hG _ (h.fv g hg)⟩

/-- A store into the disk's own cells that leaves the pending row. -/
theorem DskAt.flag (h : DskAt F w d D T gl gt v fs) (i : Nat) (u : Value) (D' : Dk) (hD : (dcs D gl gt v).set i u = dcs D' gl gt v) (hL : D'.L = D.L) (hP : D'.P = D.P) (hs : D'.size = D.size) : DskAt F (w.setCell ⟨d, i, none⟩ u) d D' T gl gt v fs := by
  refine ⟨hD ▸ h.hD.set i u, ?_, ?_, ?_, ?_, h.fd, h.fl, h.ft, h.fv⟩
  · rw [hL]; exact (Save.one w d i u).has h.hL (h.hL.ne h.hD (by decide))
  · exact (Save.one w d i u).has h.hT (h.hT.ne h.hD (by decide))
  · rw [hP]; exact (Save.one w d i u).own h.own (fun g hg => by obtain ⟨l, hl⟩ := h.row hg; exact hl.ne h.hD (by decide))
  · rw [hP, hs]; exact h.hW.one (Save.one w d i u) h.hD (by decide) (Or.inl (by decide))

/-- One pending write more. -/
theorem DskAt.push (h : DskAt F w d D T gl gt v fs) {p : Nat × List UInt8} {f : Value} (hf : Wr F w D.size gt p f) {w' : World} {g cap : Nat} (hg : w.grownBy w' v.ownBlock)
    (ho : w'.ownsRow 0 73 1 (.slice (some ⟨g, 0, none⟩) (D.P.length + 1) cap) (D.P.length + 1) (fs ++ [f])) (hat : v.ownBlock = some g ∨ g = w.heap.size) :
    DskAt (Grow F w) (w'.setCell ⟨d, 2, none⟩ (.slice (some ⟨g, 0, none⟩) (D.P.length + 1) cap)) d { D with P := D.P ++ [p] } T gl gt (.slice (some ⟨g, 0, none⟩) (D.P.length + 1) cap) (fs ++ [f]) := by
  have s := Save.push hg
  have hne : ∀ {k : Nat} {t : TypeId} {l : List Value}, Has w k t l → t ≠ 73 → ¬ v.ownBlock = some k := fun hk ht e => by
    obtain ⟨l', hl⟩ := h.row e
    exact ht (hk.same hl)
  have hD := s.has h.hD (hne h.hD (by decide))
  have hL := s.has h.hL (hne h.hL (by decide))
  have hT := s.has h.hT (hne h.hT (by decide))
  have hW : Wrs F w' D.size gt (D.P ++ [p]) (fs ++ [f]) := (h.hW.push hf).save s (fun k t l _ hk e => by
    obtain ⟨l', hl⟩ := h.row e
    obtain rfl := hl.same hk
    exact ⟨by decide, fun e => absurd e (by decide)⟩)
  have s2 := Save.one w' d 2 (.slice (some ⟨g, 0, none⟩) (D.P.length + 1) cap)
  have hgw : ∃ l, Has w' g 73 l := by
    obtain ⟨h0, ⟨e, _⟩ | ⟨g', cap', cur, e, _, hh, _⟩⟩ := ho
    · cases e
    · obtain rfl : g = g' := by
        injection e with e1
        injection e1 with e1
        exact congrArg Addr.block e1
      exact ⟨cur.toList, by simpa [Has] using hh⟩
  obtain ⟨lg, hlg⟩ := hgw
  refine ⟨hD.set 2 _, s2.has hL (hL.ne hD (by decide)), s2.has hT (hT.ne hD (by decide)), ?_, ?_, Or.inl h.fd, Or.inl h.fl, Or.inl h.ft, ?_⟩
  · have := s2.own ho (fun g' hg' => by
      obtain rfl : g = g' := by simpa [Value.ownBlock] using hg'
      exact hlg.ne hD (by decide))
    simpa using this
  · have := (hW.one s2 hD (by decide) (Or.inl (by decide)))
    exact ⟨this.len, fun i q x hq hx => (this.wr i q x hq hx).mono (fun k hk => Or.inl hk)⟩
  · intro g' hg'
    obtain rfl : g = g' := by simpa [Value.ownBlock] using hg'
    rcases hat with hat | hat
    · exact Or.inl (h.fv g hat)
    · exact Or.inr (Nat.le_of_eq hat.symm)

/-- A sector's last pending bytes, written down. -/
theorem DskAt.late (h : DskAt F w d D T gl gt v fs) (i : Nat) (b : List UInt8) : DskAt F (w.setCell ⟨gt, i, none⟩ (.string ⟨b.toArray⟩)) d D (T.set i b) gl gt v fs := by
  have s := Save.one w gt i (.string ⟨b.toArray⟩)
  refine ⟨s.has h.hD (h.hD.ne h.hT (by decide)), s.has h.hL (h.hL.ne h.hT (by decide)), ?_, s.own h.own (fun g hg => by obtain ⟨l, hl⟩ := h.row hg; exact hl.ne h.hT (by decide)), h.hW.one s h.hT (by decide) (Or.inr rfl), h.fd, h.fl, h.ft, h.fv⟩
  have := h.hT.set i (.string ⟨b.toArray⟩)
  rwa [show (txs T).set i (.string ⟨b.toArray⟩) = txs (T.set i b) by simp [txs, List.map_set]] at this

/-- Bytes laid over what lasts. -/
theorem DskAt.laid (h : DskAt F w d D T gl gt v fs) {o : Nat} {b : List UInt8} (ho : o + b.length ≤ D.L.length) : DskAt F (w.setCells gl o (bys b)) d { D with L := lay D.L o b } T gl gt v fs := by
  have s := Save.row w gl o (bys b)
  refine ⟨s.has h.hD (h.hD.ne h.hL (by decide)), ?_, s.has h.hT (h.hT.ne h.hL (by decide)), s.own h.own (fun g hg => by obtain ⟨l, hl⟩ := h.row hg; exact hl.ne h.hL (by decide)), h.hW.one s h.hL (by decide) (Or.inl (by decide)), h.fd, h.fl, h.ft, h.fv⟩
  have := Has.setCells (bys b) o h.hL (by simp [bys_length]; omega)
  rw [bys_length] at this
  rwa [show (bys D.L).take o ++ bys b ++ (bys D.L).drop (o + b.length) = bys (lay D.L o b) by simp [bys, lay]] at this

/-- No write is pending. -/
theorem DskAt.gone (h : DskAt F w d D T gl gt v fs) : DskAt F (w.setCell ⟨d, 2, none⟩ (.slice none 0 0)) d { D with P := [] } T gl gt (.slice none 0 0) [] := by
  have s := Save.one w d 2 (.slice none 0 0)
  exact ⟨h.hD.set 2 _, s.has h.hL (h.hL.ne h.hD (by decide)), s.has h.hT (h.hT.ne h.hD (by decide)), World.ownsRow_nil _ _ _ _, ⟨rfl, fun i p f hp => by simp at hp⟩, h.fd, h.fl, h.ft, fun g hg => by cases hg⟩

/-- No sector has pending bytes. -/
theorem DskAt.cleared (h : DskAt F w d D T gl gt v fs) : DskAt F (w.setCells gt 0 (List.replicate T.length (.string ⟨#[]⟩))) d D (List.replicate T.length []) gl gt v fs := by
  have s := Save.row w gt 0 (List.replicate T.length (.string ⟨#[]⟩))
  refine ⟨s.has h.hD (h.hD.ne h.hT (by decide)), s.has h.hL (h.hL.ne h.hT (by decide)), ?_, s.own h.own (fun g hg => by obtain ⟨l, hl⟩ := h.row hg; exact hl.ne h.hT (by decide)), h.hW.one s h.hT (by decide) (Or.inr rfl), h.fd, h.fl, h.ft, h.fv⟩
  have := h.hT.setWhole (vs := List.replicate T.length (.string ⟨#[]⟩)) (by simp [txs])
  have e : List.replicate T.length (Value.string ⟨#[]⟩) = txs (List.replicate T.length []) := by simp [txs]
  rw [e]
  rwa [e] at this

end

theorem Dsk.save {F R : Nat → Prop} {w w' : World} {d : Nat} {D : Dk} (h : Dsk F w d D) (s : Save R w w') (hR : ∀ k, F k → k < w.heap.size → ¬ R k) : Dsk F w' d D := by
  obtain ⟨ok, gl, gt, v, fs, h⟩ := h
  exact ⟨ok, gl, gt, v, fs, h.save s hR⟩
theorem Dsk.up {F : Nat → Prop} {w w' : World} {d : Nat} {D : Dk} (h : Dsk F w d D) (b : Below w.heap.size w w') : Dsk F w' d D := h.save (Save.up (F := fun _ => False) b) (fun _ _ _ h => h)
theorem Dsk.mono {F G : Nat → Prop} {w : World} {d : Nat} {D : Dk} (h : Dsk F w d D) (hG : ∀ k, F k → G k) : Dsk G w d D := by
  obtain ⟨ok, gl, gt, v, fs, h⟩ := h
  exact ⟨ok, gl, gt, v, fs, h.mono hG⟩

/-- A disk's blocks are those that are there. -/
theorem Dsk.narrow {F : Nat → Prop} {w : World} {d : Nat} {D : Dk} (h : Dsk F w d D) : Dsk (fun k => F k ∧ k < w.heap.size) w d D := by
  obtain ⟨ok, gl, gt, v, fs, h⟩ := h
  refine ⟨ok, gl, gt, v, fs, h.hD, h.hL, h.hT, h.own, ⟨h.hW.len, fun i p f hp hf => ?_⟩, ⟨h.fd, h.hD.lt⟩, ⟨h.fl, h.hL.lt⟩, ⟨h.ft, h.hT.lt⟩, fun g hg => ⟨h.fv g hg, h.lt.2.2.2 g hg⟩⟩
  obtain ⟨bf, bs, e, h1, h2, h3, h4, h5⟩ := h.hW.wr i p f hp hf
  exact ⟨bf, bs, e, h1, h2, ⟨h3, h1.lt⟩, ⟨h4, h2.lt⟩, h5⟩

theorem lats_none {D : Dk} (h : D.P = []) : lats D = List.replicate D.many [] := by
  unfold lats
  rw [h]
  apply List.ext_getElem
  · simp
  · intro i h1 h2
    simp [lat]

theorem lats_len (D : Dk) : (lats D).length = D.many := by simp [lats]

theorem lats_push (D : Dk) (a : Nat) (b : List UInt8) : (lats D).set a b = lats { D with P := D.P ++ [(a, b)] } := by
  apply List.ext_getElem
  · simp [lats]
  · intro i h1 h2
    simp [lats, List.getElem_set, lat_snoc]

theorem lats_count (D : Dk) : lats D.counted = lats D := by unfold lats; rw [Dk.counted_many, Dk.counted_P]

end Go.Proofs.Ytihajcjfppmfjaa
