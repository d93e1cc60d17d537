/- Disks of sectors, as plain lists: what lasts, what is pending, and what each call makes of them. -/
namespace Go.Proofs.Ytihajcjfppmfjaa.Sec

/-- A disk: how many sectors, of how many bytes; what lasts; the pending writes, in order; whether a Break is in force, and how many calls are left by it. -/
structure Dk where
  many : Nat
  size : Nat
  L : List UInt8
  P : List (Nat × List UInt8)
  br : Bool
  left : Nat

structure Dk.Ok (D : Dk) : Prop where
  m1 : 1 ≤ D.many
  m2 : D.many ≤ 4096
  s1 : 64 ≤ D.size
  s2 : D.size ≤ 1024
  len : D.L.length = D.many * D.size
  pend : ∀ p ∈ D.P, p.1 < D.many ∧ p.2.length = D.size
  lf : D.left < 9223372036854775808

/-- Bytes laid over others, from a place on. -/
def lay (L : List UInt8) (o : Nat) (b : List UInt8) : List UInt8 := L.take o ++ b ++ L.drop (o + b.length)

theorem lay_len {L : List UInt8} {o : Nat} {b : List UInt8} (h : o + b.length ≤ L.length) : (lay L o b).length = L.length := by
  unfold lay; simp; omega

theorem lay_get {L : List UInt8} {o : Nat} {b : List UInt8} (h : o + b.length ≤ L.length) (i : Nat) :
    (lay L o b)[i]? = if o ≤ i ∧ i < o + b.length then b[i - o]? else L[i]? := by
  unfold lay
  by_cases h1 : i < o
  · rw [if_neg (by omega), List.append_assoc, List.getElem?_append_left (by simp; omega), List.getElem?_take, if_pos h1]
  · by_cases h2 : i < o + b.length
    · rw [if_pos ⟨by omega, h2⟩, List.getElem?_append_left (by simp; omega), List.getElem?_append_right (by simp; omega)]
      congr 1
      simp; omega
    · rw [if_neg (by omega), List.getElem?_append_right (by simp; omega), List.getElem?_drop]
      congr 1
      simp; omega

/-- The last pending bytes of a sector; none, if no write of it is pending. -/
def lat (P : List (Nat × List UInt8)) (i : Nat) : List UInt8 := P.foldl (fun s p => if p.1 = i then p.2 else s) []

theorem lat_snoc (P : List (Nat × List UInt8)) (a : Nat) (b : List UInt8) (i : Nat) : lat (P ++ [(a, b)]) i = if a = i then b else lat P i := by
  simp [lat, List.foldl_append]

theorem lat_len {P : List (Nat × List UInt8)} {n : Nat} (h : ∀ p ∈ P, p.2.length = n) (i : Nat) : lat P i = [] ∨ (lat P i).length = n := by
  have key : ∀ (P : List (Nat × List UInt8)) (s : List UInt8), (∀ p ∈ P, p.2.length = n) → (s = [] ∨ s.length = n) → (P.foldl (fun s p => if p.1 = i then p.2 else s) s = [] ∨ (P.foldl (fun s p => if p.1 = i then p.2 else s) s).length = n) := by
    intro P
    induction P with
    | nil => intro s _ h; exact h
    | cons p P ih =>
      intro s hp hs
      refine ih _ (fun q hq => hp q (by simp [hq])) ?_
      dsimp only
      split
      · exact Or.inr (hp p (by simp))
      · exact hs
  exact key P [] h (Or.inl rfl)

/-- Writes done, each in all of its bytes. -/
def sets (n : Nat) (L : List UInt8) (P : List (Nat × List UInt8)) : List UInt8 := P.foldl (fun L p => lay L (p.1 * n) p.2) L

theorem sets_snoc (n : Nat) (L : List UInt8) (P : List (Nat × List UInt8)) (p : Nat × List UInt8) : sets n L (P ++ [p]) = lay (sets n L P) (p.1 * n) p.2 := by
  simp [sets, List.foldl_append]

theorem room {m n a : Nat} (h : a < m) : a * n + n ≤ m * n := by
  have : (a + 1) * n ≤ m * n := Nat.mul_le_mul_right n (by omega)
  rw [Nat.add_mul, Nat.one_mul] at this
  exact this

theorem sets_len {m n : Nat} : ∀ (P : List (Nat × List UInt8)) {L : List UInt8}, L.length = m * n → (∀ p ∈ P, p.1 < m ∧ p.2.length = n) → (sets n L P).length = m * n
  | [], _, h, _ => h
  | p :: P, L, h, hp => by
    obtain ⟨h1, h2⟩ := hp p (by simp)
    have := room (n := n) h1
    show (sets n (lay L (p.1 * n) p.2) P).length = _
    exact sets_len P (by rw [lay_len (by omega)]; exact h) (fun q hq => hp q (by simp [hq]))

/-- .. the last one in its first bytes alone. -/
def torn (n : Nat) (L : List UInt8) (P : List (Nat × List UInt8)) (f : Nat) : List UInt8 :=
  match P.getLast? with
  | none => L
  | some p => lay (sets n L P.dropLast) (p.1 * n) (p.2.take f)

theorem torn_nil (n : Nat) (L : List UInt8) (f : Nat) : torn n L [] f = L := rfl
theorem torn_snoc (n : Nat) (L : List UInt8) (P : List (Nat × List UInt8)) (p : Nat × List UInt8) (f : Nat) : torn n L (P ++ [p]) f = lay (sets n L P) (p.1 * n) (p.2.take f) := by
  simp [torn]

theorem list_cases {α : Type} (P : List α) : P = [] ∨ ∃ Q p, P = Q ++ [p] := by
  rcases P.eq_nil_or_concat with h | ⟨Q, p, h⟩
  · exact Or.inl h
  · exact Or.inr ⟨Q, p, by simpa using h⟩

theorem torn_full {n : Nat} (L : List UInt8) {P : List (Nat × List UInt8)} {f : Nat} (h : ∀ p ∈ P, p.2.length ≤ f) : torn n L P f = sets n L P := by
  rcases list_cases P with rfl | ⟨Q, p, rfl⟩
  · rfl
  · rw [torn_snoc, sets_snoc, List.take_of_length_le (h p (by simp))]

theorem torn_len {m n : Nat} {P : List (Nat × List UInt8)} {L : List UInt8} (f : Nat) (h : L.length = m * n) (hp : ∀ p ∈ P, p.1 < m ∧ p.2.length = n) : (torn n L P f).length = m * n := by
  rcases list_cases P with rfl | ⟨Q, p, rfl⟩
  · exact h
  · rw [torn_snoc]
    obtain ⟨h1, h2⟩ := hp p (by simp)
    have := room (n := n) h1
    have hl := sets_len Q h (fun q hq => hp q (by simp [hq]))
    rw [lay_len (by rw [hl]; simp; omega)]
    exact hl

/-- What of a row is kept. -/
def kp {α : Type} : List α → List Bool → List α
  | p :: P, b :: K => if b then p :: kp P K else kp P K
  | _, _ => []

theorem kp_nil {α : Type} (P : List α) : kp P [] = [] := by cases P <;> rfl

theorem kp_mem {α : Type} : ∀ (P : List α) (K : List Bool) {p : α}, p ∈ kp P K → p ∈ P
  | [], K, p, h => by cases K <;> simp [kp] at h
  | q :: P, [], p, h => by simp [kp] at h
  | q :: P, b :: K, p, h => by
    rw [kp] at h
    split at h
    · rcases List.mem_cons.1 h with rfl | h
      · simp
      · exact List.mem_cons_of_mem _ (kp_mem P K h)
    · exact List.mem_cons_of_mem _ (kp_mem P K h)

theorem kp_take {α : Type} : ∀ (i : Nat) (P : List α) (K : List Bool) (h : i < P.length), kp (P.take (i + 1)) K = kp (P.take i) K ++ (if K[i]? = some true then [P[i]] else [])
  | _, [], _, h => by simp at h
  | 0, q :: P, [], _ => by simp [kp]
  | 0, q :: P, b :: K, _ => by cases b <;> simp [kp]
  | i + 1, q :: P, [], h => by simp [kp]
  | i + 1, q :: P, b :: K, h => by
    have := kp_take i P K (by simpa using h)
    rw [List.take_succ_cons, List.take_succ_cons, kp, kp]
    split
    · rw [this]; simp
    · rw [this]; simp

theorem kp_len {α : Type} : ∀ (P : List α) (K : List Bool), (kp P K).length ≤ P.length
  | [], K => by cases K <;> simp [kp]
  | q :: P, [] => by simp [kp]
  | q :: P, b :: K => by
    have := kp_len P K
    rw [kp]
    split <;> simp <;> omega

theorem kp_map {α β : Type} (f : α → β) : ∀ (P : List α) (K : List Bool), kp (P.map f) K = (kp P K).map f
  | [], K => by cases K <;> rfl
  | q :: P, [] => rfl
  | q :: P, b :: K => by
    have := kp_map f P K
    rw [List.map_cons, kp, kp]
    split
    · rw [this]; rfl
    · exact this

/-- To keep all is to keep the row. -/
theorem kp_all {α : Type} : ∀ (P : List α) (n : Nat), P.length ≤ n → kp P (List.replicate n true) = P
  | [], n, _ => by cases n <;> rfl
  | q :: P, 0, h => by simp at h
  | q :: P, n + 1, h => by
    rw [List.replicate_succ, kp, if_pos rfl, kp_all P n (by simpa using h)]

/-- Is the disk down? -/
def Dk.down (D : Dk) : Bool := D.br && D.left == 0

def Dk.rdy (D : Dk) : Nat := if D.down then 9 else 0

/-- Why no Read or Write of a sector can be done now. -/
def Dk.unfit (D : Dk) (at' : Int) : Nat := if D.down then 9 else if at' < 0 ∨ (D.many : Int) ≤ at' then 6 else 0

/-- One call more was OK. -/
def Dk.counted (D : Dk) : Dk := if D.br then { D with left := D.left - 1 } else D

theorem Dk.counted_P (D : Dk) : D.counted.P = D.P := by unfold Dk.counted; split <;> rfl
theorem Dk.counted_L (D : Dk) : D.counted.L = D.L := by unfold Dk.counted; split <;> rfl
theorem Dk.counted_many (D : Dk) : D.counted.many = D.many := by unfold Dk.counted; split <;> rfl
theorem Dk.counted_size (D : Dk) : D.counted.size = D.size := by unfold Dk.counted; split <;> rfl
theorem Dk.counted_br (D : Dk) : D.counted.br = D.br := by unfold Dk.counted; split <;> rfl

theorem Dk.Ok.counted {D : Dk} (h : D.Ok) : D.counted.Ok := by
  obtain ⟨a, b, c, d, e, f, g⟩ := h
  unfold Dk.counted
  split
  · exact ⟨a, b, c, d, e, f, by simp; omega⟩
  · exact ⟨a, b, c, d, e, f, g⟩

/-- The bytes of a sector, as a Read tells it. -/
def Dk.sec (D : Dk) (i : Nat) : List UInt8 := if (lat D.P i).length = 0 then (D.L.drop (i * D.size)).take D.size else lat D.P i

def Dk.read (D : Dk) (at' : Int) : Dk × List UInt8 × Nat := if D.unfit at' = 0 then (D.counted, D.sec at'.toNat, 0) else (D, [], D.unfit at')

def Dk.write (D : Dk) (at' : Int) (b : List UInt8) : Dk × Nat :=
  if D.unfit at' = 0 then if b.length = D.size then ({ D.counted with P := D.P ++ [(at'.toNat, b)] }, 0) else (D, 1) else (D, D.unfit at')

def Dk.settled (D : Dk) (P : List (Nat × List UInt8)) (f : Nat) : Dk := { D with L := torn D.size D.L P f, P := [] }

def Dk.flush (D : Dk) : Dk × Nat := if D.down then (D, 9) else (D.counted.settled D.P D.size, 0)

def Dk.brk (D : Dk) (n : Int) : Dk × Nat := if n < 0 then (D, 1) else ({ D with br := true, left := n.toNat }, 0)

def Dk.tear (D : Dk) (t : Int) : Nat := if t < 0 ∨ (D.size : Int) < t then D.size else t.toNat

def Dk.crash (D : Dk) (K : List Bool) (t : Int) : Dk := { D.settled (kp D.P K) (D.tear t) with br := false, left := 0 }

theorem Dk.Ok.settled {D : Dk} (h : D.Ok) {P : List (Nat × List UInt8)} (hP : ∀ p ∈ P, p ∈ D.P) (f : Nat) : (D.settled P f).Ok :=
  ⟨h.m1, h.m2, h.s1, h.s2, torn_len f h.len (fun p hp => h.pend p (hP p hp)), fun p hp => by simp [Dk.settled] at hp, h.lf⟩

theorem Dk.Ok.crash {D : Dk} (h : D.Ok) (K : List Bool) (t : Int) : (D.crash K t).Ok := by
  have := h.settled (P := kp D.P K) (fun p hp => kp_mem _ _ hp) (D.tear t)
  exact ⟨this.m1, this.m2, this.s1, this.s2, this.len, this.pend, by simp [Dk.crash]⟩

theorem Dk.Ok.flush {D : Dk} (h : D.Ok) : D.flush.1.Ok := by
  unfold Dk.flush
  split
  · exact h
  · exact h.counted.settled (by rw [Dk.counted_P]; exact fun p hp => hp) _

theorem Dk.unfit_at {D : Dk} {at' : Int} (h : D.unfit at' = 0) : D.down = false ∧ 0 ≤ at' ∧ at'.toNat < D.many := by
  unfold Dk.unfit at h
  split at h
  · cases h
  · next h1 =>
    split at h
    · cases h
    · exact ⟨by simpa using h1, by omega, by omega⟩

theorem Dk.Ok.write {D : Dk} (h : D.Ok) (at' : Int) (b : List UInt8) : (D.write at' b).1.Ok := by
  unfold Dk.write
  split
  · next hu =>
    obtain ⟨_, _, h3⟩ := Dk.unfit_at hu
    split
    · next hb =>
      have c := h.counted
      refine ⟨c.m1, c.m2, c.s1, c.s2, c.len, fun p hp => ?_, c.lf⟩
      rw [Dk.counted_many, Dk.counted_size]
      rcases List.mem_append.1 hp with hp | hp
      · exact h.pend p hp
      · obtain rfl := List.mem_singleton.1 hp
        exact ⟨h3, hb⟩
    · exact h
  · exact h

theorem Dk.Ok.read {D : Dk} (h : D.Ok) (at' : Int) : (D.read at').1.Ok := by
  unfold Dk.read
  split
  · exact h.counted
  · exact h

theorem Dk.Ok.brk {D : Dk} (h : D.Ok) (n : Int) (hn : n < 9223372036854775808) : (D.brk n).1.Ok := by
  unfold Dk.brk
  split
  · exact h
  · exact ⟨h.m1, h.m2, h.s1, h.s2, h.len, h.pend, by simp; omega⟩

/-- A new disk. -/
def Dk.new (m n : Nat) : Dk := ⟨m, n, List.replicate (m * n) 0, [], false, 0⟩

theorem Dk.new_ok {m n : Nat} (h1 : 1 ≤ m) (h2 : m ≤ 4096) (h3 : 64 ≤ n) (h4 : n ≤ 1024) : (Dk.new m n).Ok :=
  ⟨h1, h2, h3, h4, by simp [Dk.new], fun p hp => by simp [Dk.new] at hp, by simp [Dk.new]⟩

end Go.Proofs.Ytihajcjfppmfjaa.Sec
