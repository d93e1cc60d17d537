/- Bytes that lie over several sectors of a disk: their pieces, and what is read and written piece by piece. -/
import Derived.Test.YtihajcjfppmfjaaPureView
namespace Go.Proofs.Ytihajcjfppmfjaa.Sec

/-- A disk, some calls later that write nothing. -/
structure Dk.Up (D E : Dk) : Prop where
  many : E.many = D.many
  size : E.size = D.size
  L : E.L = D.L
  br : E.br = D.br
  left : E.left ≤ D.left
  still : D.br = false → E.left = D.left

theorem Dk.Up.refl (D : Dk) : D.Up D := ⟨rfl, rfl, rfl, rfl, Nat.le_refl _, fun _ => rfl⟩
theorem Dk.Up.trans {D E G : Dk} (h : D.Up E) (k : E.Up G) : D.Up G :=
  ⟨k.many.trans h.many, k.size.trans h.size, k.L.trans h.L, k.br.trans h.br, Nat.le_trans k.left h.left, fun e => (k.still (h.br.trans e)).trans (h.still e)⟩
theorem Dk.Up.counted (D : Dk) : D.Up D.counted := by
  refine ⟨D.counted_many, D.counted_size, D.counted_L, D.counted_br, ?_, ?_⟩
  · unfold Dk.counted; split <;> simp
  · intro h; unfold Dk.counted; rw [if_neg (by simp [h])]
theorem Dk.Up.same {D E : Dk} (h : D.Up E) (hb : D.br = false) (hP : E.P = D.P) : E = D := by
  obtain ⟨a, b, c, d, _, f⟩ := h
  have g := f hb
  clear f
  cases D; cases E
  simp only at a b c d g hP
  subst a b c d g hP
  rfl
theorem Dk.Up.down {D E : Dk} (h : D.Up E) (hb : D.br = false) : E.down = false := by unfold Dk.down; rw [h.br, hb]; rfl

/-- How far the pieces of n bytes from the place o on have got, behind j of them. -/
def pos (s o n j : Nat) : Nat := min (o + n) (max o ((o / s + j) * s))

section
variable {s o n j : Nat}

theorem pos_le : o ≤ pos s o n j ∧ pos s o n j ≤ o + n := by unfold pos; omega

theorem pos_zero : pos s o n 0 = o := by
  have := Nat.div_mul_le_self o s
  unfold pos
  rw [Nat.add_zero]
  omega

theorem pos_mid (hs : 0 < s) (h : pos s o n j < o + n) : pos s o n j / s = o / s + j := by
  cases j with
  | zero => rw [pos_zero, Nat.add_zero]
  | succ j =>
    have h1 : o < (o / s + (j + 1)) * s := by
      have h2 := Nat.div_add_mod o s
      have h3 := Nat.mod_lt o hs
      have h4 : (o / s + (j + 1)) * s = s * (o / s) + (s + j * s) := by rw [Nat.add_mul, Nat.mul_comm (o / s), Nat.add_mul, Nat.one_mul, Nat.add_comm (j * s)]
      omega
    have h2 : pos s o n (j + 1) = (o / s + (j + 1)) * s := by unfold pos at h ⊢; omega
    rw [h2, Nat.mul_div_cancel _ hs]

theorem pos_split (hs : 0 < s) (h : pos s o n j < o + n) : (o / s + j) * s + pos s o n j % s = pos s o n j := by
  have h1 := Nat.div_add_mod (pos s o n j) s
  rw [pos_mid hs h, Nat.mul_comm] at h1
  exact h1

theorem pos_step (hs : 0 < s) (h : pos s o n j < o + n) : pos s o n (j + 1) = pos s o n j + (min s (pos s o n j % s + (o + n) - pos s o n j) - pos s o n j % s) := by
  have h1 := pos_split hs h
  have h2 := Nat.mod_lt (pos s o n j) hs
  have h3 := pos_le (s := s) (o := o) (n := n) (j := j)
  have h4 : (o / s + (j + 1)) * s = (o / s + j) * s + s := by rw [← Nat.add_assoc, Nat.add_mul, Nat.one_mul]
  have h5 : pos s o n (j + 1) = min (o + n) (max o ((o / s + j) * s + s)) := by unfold pos; rw [h4]
  rw [h5]
  omega

theorem pos_more (hs : 0 < s) (h : pos s o n j < o + n) : pos s o n j < pos s o n (j + 1) ∧ pos s o n (j + 1) - pos s o n j ≤ s := by
  have h1 := pos_step hs h
  have h2 := Nat.mod_lt (pos s o n j) hs
  omega

theorem pos_far (hs : 0 < s) (h : pos s o n j < o + n) : j ≤ pos s o n j := by
  have h1 := pos_split hs h
  have h2 : j ≤ (o / s + j) * s := Nat.le_trans (Nat.le_add_left j (o / s)) (Nat.le_mul_of_pos_right _ hs)
  omega

/-- Where it is not at the end, it is at a sector's beginning. -/
theorem pos_even (h : pos s o n (j + 1) < o + n) (hs : 0 < s) : pos s o n (j + 1) % s = 0 := by
  have h1 := pos_split hs h
  have h2 : pos s o n (j + 1) = (o / s + (j + 1)) * s := by
    have h3 := pos_mid hs h
    unfold pos at h ⊢
    have h4 := Nat.mod_lt o hs
    have h5 := Nat.div_add_mod o s
    have h6 : (o / s + (j + 1)) * s = s * (o / s) + (s + j * s) := by rw [Nat.add_mul, Nat.mul_comm (o / s), Nat.add_mul, Nat.one_mul, Nat.add_comm (j * s)]
    omega
  rw [h2, Nat.mul_mod_left]
end

/-- What has been laid behind j pieces. -/
def Dk.part (D : Dk) (f o : Nat) (b : List UInt8) (j : Nat) : List UInt8 := lay D.view (f * D.size + o) (b.take (pos D.size o b.length j - o))

/-- The writes of the first j pieces. -/
def Dk.puts (D : Dk) (f o : Nat) (b : List UInt8) (j : Nat) : List (Nat × List UInt8) :=
  (List.range j).map fun i => (f + (o / D.size + i), Sc D.size (lay D.view (f * D.size + o) b) (f + (o / D.size + i)))

theorem Dk.puts_len (D : Dk) (f o : Nat) (b : List UInt8) (j : Nat) : (D.puts f o b j).length = j := by simp [Dk.puts]
theorem Dk.puts_zero (D : Dk) (f o : Nat) (b : List UInt8) : D.puts f o b 0 = [] := rfl
theorem Dk.puts_snoc (D : Dk) (f o : Nat) (b : List UInt8) (j : Nat) : D.puts f o b (j + 1) = D.puts f o b j ++ [(f + (o / D.size + j), Sc D.size (lay D.view (f * D.size + o) b) (f + (o / D.size + j)))] := by
  simp [Dk.puts, List.range_succ]

theorem take_cut (b : List UInt8) {x y : Nat} (h : x ≤ y) : b.take x ++ (b.drop x).take (y - x) = b.take y := by
  have := List.take_append_drop x (b.take y)
  rw [List.take_take, Nat.min_eq_left h, List.drop_take] at this
  exact this

/-- All that the step of one piece wants. -/
structure Stp (D : Dk) (f o : Nat) (b : List UInt8) (j k lo hi : Nat) (p C : List UInt8) : Prop where
  sec : k < D.many
  low : lo < D.size
  high : hi ≤ D.size
  lt : lo < hi
  len : p.length = hi - lo
  clen : C.length = D.size
  eq : C = lay (Sc D.size (D.part f o b j) k) lo p
  laid : lay (D.part f o b j) (k * D.size) C = D.part f o b (j + 1)
  is : C = Sc D.size (lay D.view (f * D.size + o) b) k
  seven : (b.drop (pos D.size o b.length j - o)).drop (hi - lo) = b.drop (pos D.size o b.length (j + 1) - o)

theorem Dk.part_len {D : Dk} (ok : D.Ok) {f o : Nat} {b : List UInt8} (hr : f * D.size + o + b.length ≤ D.many * D.size) (j : Nat) : (D.part f o b j).length = D.many * D.size := by
  have hv := Dk.view_len ok
  unfold Dk.part
  rw [lay_len (by rw [List.length_take]; omega)]
  exact hv

theorem Dk.step {D : Dk} (ok : D.Ok) {f o : Nat} {b : List UInt8} (hr : f * D.size + o + b.length ≤ D.many * D.size) {j : Nat} (h : pos D.size o b.length j < o + b.length) :
    Stp D f o b j (f + (o / D.size + j)) (pos D.size o b.length j % D.size) (min D.size (pos D.size o b.length j % D.size + (o + b.length) - pos D.size o b.length j))
      ((b.drop (pos D.size o b.length j - o)).take (min D.size (pos D.size o b.length j % D.size + (o + b.length) - pos D.size o b.length j) - pos D.size o b.length j % D.size))
      (lay (Sc D.size (D.part f o b j) (f + (o / D.size + j))) (pos D.size o b.length j % D.size) ((b.drop (pos D.size o b.length j - o)).take (min D.size (pos D.size o b.length j % D.size + (o + b.length) - pos D.size o b.length j) - pos D.size o b.length j % D.size))) := by
  have hs : 0 < D.size := by have := ok.s1; omega
  have hv := Dk.view_len ok
  have h1 := pos_split hs h
  have h2 := Nat.mod_lt (pos D.size o b.length j) hs
  have h3 := pos_le (s := D.size) (o := o) (n := b.length) (j := j)
  have h4 := pos_step hs h
  have h5 := pos_le (s := D.size) (o := o) (n := b.length) (j := j + 1)
  have hpl := Dk.part_len ok hr j
  have hpe := fun hh => pos_even (s := D.size) (o := o) (n := b.length) (j := j) hh hs
  have hps := fun hh => pos_split (s := D.size) (o := o) (n := b.length) (j := j + 1) hs hh
  have hk2 : (f + (o / D.size + j)) * D.size = f * D.size + (o / D.size + j) * D.size := Nat.add_mul _ _ _
  have hk : f + (o / D.size + j) < D.many := by
    apply Nat.lt_of_mul_lt_mul_right (a := D.size)
    omega
  generalize hp0 : pos D.size o b.length j = p at *
  generalize hp1 : pos D.size o b.length (j + 1) = p' at *
  generalize hlo : p % D.size = lo at *
  generalize hhi : min D.size (lo + (o + b.length) - p) = hi at *
  have hhl : lo < hi ∧ hi ≤ D.size ∧ hi - lo ≤ o + b.length - p := by omega
  generalize hkk : f + (o / D.size + j) = k at *
  have hpc : ((b.drop (p - o)).take (hi - lo)).length = hi - lo := by rw [List.length_take, List.length_drop]; omega
  have hsl : (Sc D.size (D.part f o b j) k).length = D.size := Sc_len hpl hk
  generalize hpp : (b.drop (p - o)).take (hi - lo) = pc at *
  have hcl : (lay (Sc D.size (D.part f o b j) k) lo pc).length = D.size := by rw [lay_len (by omega)]; exact hsl
  have hld : lay (D.part f o b j) (k * D.size) (lay (Sc D.size (D.part f o b j) k) lo pc) = D.part f o b (j + 1) := by
    rw [lay_part hpl hk (by omega)]
    unfold Dk.part
    rw [hp0, hp1, show k * D.size + lo = f * D.size + o + (b.take (p - o)).length by rw [List.length_take]; omega, lay_lay (by rw [List.length_take]; omega), ← hpp, show hi - lo = (p' - o) - (p - o) by omega, take_cut _ (by omega)]
  refine ⟨hk, by omega, by omega, by omega, hpc, hcl, rfl, hld, ?_, ?_⟩
  · have e1 : lay (Sc D.size (D.part f o b j) k) lo pc = Sc D.size (D.part f o b (j + 1)) k := by
      rw [← hld, Sc_lay_same hpl hk hcl]
    rw [e1]
    rcases Nat.lt_or_ge p' (o + b.length) with hlt | hge
    · apply List.ext_getElem?
      intro i
      rw [Sc_get, Sc_get]
      split
      · next hi' =>
        have e2 := hps hlt
        have e3 := hpe hlt
        have e4 : (o / D.size + (j + 1)) * D.size = (o / D.size + j) * D.size + D.size := by rw [← Nat.add_assoc, Nat.add_mul, Nat.one_mul]
        unfold Dk.part
        rw [hp1, lay_get (by rw [List.length_take]; omega), lay_get (by omega), List.length_take, Nat.min_eq_left (by omega)]
        by_cases h6 : f * D.size + o ≤ k * D.size + i
        · rw [if_pos (by omega), if_pos (by omega), List.getElem?_take, if_pos (by omega)]
        · rw [if_neg (by omega), if_neg (by omega)]
      · rfl
    · unfold Dk.part
      rw [hp1, List.take_of_length_le (by omega)]
  · rw [hp0, hp1, List.drop_drop, show p - o + (hi - lo) = p' - o by omega]

/-- Where a Put has got to: j pieces are pending. -/
structure Dk.Putting (D : Dk) (f o : Nat) (b : List UInt8) (j : Nat) (E : Dk) : Prop where
  up : D.Up E
  P : E.P = D.P ++ D.puts f o b j
  view : E.view = D.part f o b j

theorem Dk.Putting.start {D : Dk} {f o : Nat} {b : List UInt8} : D.Putting f o b 0 D :=
  ⟨Dk.Up.refl D, by rw [Dk.puts_zero, List.append_nil], by unfold Dk.part; rw [pos_zero, Nat.sub_self, List.take_zero, lay_nil]⟩

theorem Dk.Putting.push {D E G : Dk} {f o k lo hi : Nat} {b p C : List UInt8} {j : Nat} (h : D.Putting f o b j E) (hu : E.Up G) (hk : k = f + (o / D.size + j)) (st : Stp D f o b j k lo hi p C) (hP : G.P = E.P ++ [(k, C)]) (hv : G.view = lay E.view (k * D.size) C) : D.Putting f o b (j + 1) G := by
  subst hk
  refine ⟨h.up.trans hu, ?_, ?_⟩
  · rw [hP, h.P, Dk.puts_snoc, List.append_assoc, ← st.is]
  · rw [hv, h.view, st.laid]

/-- One piece, laid. -/
def Dk.piece (D : Dk) (k lo : Nat) (p : List UInt8) : Dk × Nat :=
  if p.length < D.size then
    if D.unfit k = 0 then D.counted.write k ((D.sec k).take lo ++ p ++ (D.sec k).drop (lo + p.length)) else (D, D.unfit k)
  else D.write k p

theorem Dk.unfit_in {D : Dk} {k : Nat} (hk : k < D.many) : D.unfit k = if D.down then 9 else 0 := by
  unfold Dk.unfit
  by_cases h : D.down = true
  · rw [if_pos h, if_pos h]
  · rw [if_neg h, if_neg h, if_neg (by omega)]

theorem Dk.Ok.piece {D : Dk} (h : D.Ok) (k lo : Nat) (p : List UInt8) : (D.piece k lo p).1.Ok := by
  unfold Dk.piece
  split
  · split
    · exact h.counted.write _ _
    · exact h
  · exact h.write _ _

theorem Dk.write_is {D : Dk} {k : Nat} (hk : k < D.many) {C : List UInt8} (hC : C.length = D.size) :
    (D.write k C).2 = (if D.down then 9 else 0) ∧ D.Up (D.write k C).1 ∧ (D.down = true → (D.write k C).1 = D) ∧ (D.down = false → (D.write k C).1.P = D.P ++ [(k, C)] ∧ (D.write k C).1.view = lay D.view (k * D.size) C) := by
  have hu := Dk.unfit_in hk
  cases hd : D.down with
  | true =>
    rw [hd, if_pos rfl] at hu
    have e : D.write k C = (D, 9) := by unfold Dk.write; rw [hu, if_neg (by decide)]
    rw [e]
    exact ⟨rfl, Dk.Up.refl D, fun _ => rfl, fun h => by cases h⟩
  | false =>
    rw [hd, if_neg (by decide)] at hu
    have hv := Dk.view_write hu hC
    have e : D.write k C = ({ D.counted with P := D.P ++ [(k, C)] }, 0) := by
      unfold Dk.write
      rw [if_pos hu, if_pos hC, Int.toNat_natCast]
    rw [e] at hv ⊢
    have c := Dk.Up.counted D
    exact ⟨rfl, ⟨c.many, c.size, c.L, c.br, c.left, c.still⟩, fun h => by (cases h), fun _ => ⟨rfl, hv⟩⟩

/-- A piece is laid, or the disk is down. -/
theorem Dk.piece_is {D E : Dk} (okE : E.Ok) {f o : Nat} {b : List UInt8} {j k lo hi : Nat} {p C : List UInt8} (h : D.Putting f o b j E) (hk : k = f + (o / D.size + j)) (st : Stp D f o b j k lo hi p C) :
    ((E.piece k lo p).2 = 0 ∧ D.Putting f o b (j + 1) (E.piece k lo p).1) ∨ ((E.piece k lo p).2 = 9 ∧ D.Putting f o b j (E.piece k lo p).1 ∧ (E.piece k lo p).1.down = true) := by
  have hkE : k < E.many := by rw [h.up.many]; exact st.sec
  have hsz := h.up.size
  have hsec : E.sec k = Sc D.size (D.part f o b j) k := by rw [Dk.sec_view okE hkE, hsz, h.view]
  have main : ∀ G : Dk, E.Up G → G.P = E.P → G.view = E.view → (((G.write k C).2 = 0 ∧ D.Putting f o b (j + 1) (G.write k C).1) ∨ ((G.write k C).2 = 9 ∧ D.Putting f o b j (G.write k C).1 ∧ (G.write k C).1.down = true)) := by
    intro G hu hP hv
    obtain ⟨w1, w2, w3, w4⟩ := Dk.write_is (D := G) (k := k) (by rw [hu.many]; exact hkE) (C := C) (by rw [st.clen, hu.size, hsz])
    cases hd : G.down with
    | true =>
      rw [hd, if_pos rfl] at w1
      rw [w3 hd]
      exact Or.inr ⟨w1, ⟨h.up.trans hu, by rw [hP]; exact h.P, by rw [hv]; exact h.view⟩, hd⟩
    | false =>
      rw [hd, if_neg (by decide)] at w1
      obtain ⟨w5, w6⟩ := w4 hd
      exact Or.inl ⟨w1, h.push (hu.trans w2) hk st (by rw [w5, hP]) (by rw [w6, hv, hu.size, hsz])⟩
  unfold Dk.piece
  by_cases hp : p.length < E.size
  · rw [if_pos hp, Dk.unfit_in hkE]
    cases hd : E.down with
    | true =>
      exact Or.inr ⟨rfl, h, hd⟩
    | false =>
      rw [if_pos (show (if false = true then 9 else 0) = 0 from rfl), hsec, ← lay_eq, ← st.eq]
      exact main E.counted (Dk.Up.counted E) E.counted_P (Dk.view_counted E)
  · rw [if_neg hp]
    have e : C = p := by
      have hl := st.len
      have h1 := st.high
      have h2 := st.lt
      have e0 : lo = 0 := by omega
      have h4 : (Sc D.size (D.part f o b j) k).length ≤ D.size := by unfold Sc; rw [List.length_take]; exact Nat.min_le_left _ _
      rw [st.eq, e0, lay_eq, List.take_zero, List.nil_append, List.drop_eq_nil_of_le (by omega), List.append_nil]
    rw [← e]
    exact main E (Dk.Up.refl E) rfl rfl

/-- How a Put ends. -/
structure Dk.Put (D : Dk) (f o : Nat) (b : List UInt8) (j : Nat) (E : Dk) (r : Nat) : Prop where
  to : D.Putting f o b j E
  or : (r = 0 ∧ pos D.size o b.length j = o + b.length) ∨ (r = 9 ∧ E.down = true ∧ pos D.size o b.length j < o + b.length)
  few : j ≤ D.many

/-- A disk with no Break in force: all is put. -/
theorem Dk.Put.all {D E : Dk} {f o : Nat} {b : List UInt8} {j r : Nat} (h : D.Put f o b j E r) (hb : D.br = false) : r = 0 ∧ E.view = lay D.view (f * D.size + o) b ∧ E.br = false ∧ E.L = D.L := by
  rcases h.or with ⟨h1, h2⟩ | ⟨_, h2, _⟩
  · refine ⟨h1, ?_, h.to.up.br.trans hb, h.to.up.L⟩
    rw [h.to.view, Dk.part, h2, List.take_of_length_le (by omega)]
  · rw [h.to.up.down hb] at h2
    cases h2

/-- How a Get ends. -/
structure Dk.Got (D : Dk) (f o n : Nat) (E : Dk) (t : List UInt8) (r : Nat) : Prop where
  up : D.Up E
  P : E.P = D.P
  or : (r = 0 ∧ t = (D.view.drop (f * D.size + o)).take n) ∨ (r = 9 ∧ t = [] ∧ E.down = true)

theorem Dk.Got.all {D E : Dk} {f o n : Nat} {t : List UInt8} {r : Nat} (h : D.Got f o n E t r) (hb : D.br = false) : E = D ∧ r = 0 ∧ t = (D.view.drop (f * D.size + o)).take n := by
  rcases h.or with ⟨h1, h2⟩ | ⟨_, _, h2⟩
  · exact ⟨h.up.same hb h.P, h1, h2⟩
  · rw [h.up.down hb] at h2
    cases h2

/-- One more piece, read. -/
theorem get_step {D : Dk} (ok : D.Ok) {f o n : Nat} (hr : f * D.size + o + n ≤ D.many * D.size) {j : Nat} (h : pos D.size o n j < o + n) :
    f + (o / D.size + j) < D.many ∧ pos D.size o n j % D.size < min D.size (pos D.size o n j % D.size + (o + n) - pos D.size o n j) ∧
    (D.view.drop (f * D.size + o)).take (pos D.size o n j - o) ++ ((Sc D.size D.view (f + (o / D.size + j))).take (min D.size (pos D.size o n j % D.size + (o + n) - pos D.size o n j))).drop (pos D.size o n j % D.size) = (D.view.drop (f * D.size + o)).take (pos D.size o n (j + 1) - o) := by
  have hs : 0 < D.size := by have := ok.s1; omega
  have hv := Dk.view_len ok
  have h1 := pos_split hs h
  have h2 := Nat.mod_lt (pos D.size o n j) hs
  have h3 := pos_le (s := D.size) (o := o) (n := n) (j := j)
  have h4 := pos_step hs h
  have hk2 : (f + (o / D.size + j)) * D.size = f * D.size + (o / D.size + j) * D.size := Nat.add_mul _ _ _
  have hk : f + (o / D.size + j) < D.many := by
    apply Nat.lt_of_mul_lt_mul_right (a := D.size)
    omega
  generalize hp0 : pos D.size o n j = p at *
  generalize hp1 : pos D.size o n (j + 1) = p' at *
  generalize hlo : p % D.size = lo at *
  generalize hhi : min D.size (lo + (o + n) - p) = hi at *
  generalize hkk : f + (o / D.size + j) = k at *
  refine ⟨hk, by omega, ?_⟩
  have e : ((Sc D.size D.view k).take hi).drop lo = ((D.view.drop (f * D.size + o)).drop (p - o)).take (p' - p) := by
    apply List.ext_getElem?
    intro i
    rw [List.getElem?_drop, List.getElem?_take, Sc_get, List.getElem?_take, List.getElem?_drop, List.getElem?_drop]
    by_cases h5 : lo + i < hi
    · rw [if_pos h5, if_pos (by omega), if_pos (by omega)]
      congr 1
      omega
    · rw [if_neg h5, if_neg (by omega)]
  rw [e, show p' - p = (p' - o) - (p - o) by omega, take_cut _ (by omega)]

end Go.Proofs.Ytihajcjfppmfjaa.Sec
