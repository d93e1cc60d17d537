/- Two areas on two disks, apart from one another. -/
import Derived.Test.YtihajcjfppmfjaaArG
namespace Go.Proofs.Ytihajcjfppmfjaa
open Go.RowKit Sec

/-- An area on a disk with no Break, all of whose disk's blocks are in F: M sectors of s bytes, that read as V; L lasts; at most p writes are pending. -/
def ASF (F : Nat → Prop) (w : World) (a d f m M s : Nat) (V L : List UInt8) (p : Nat) : Prop := ∃ D, Arr F w a d D f m ∧ D.br = false ∧ D.many = M ∧ D.size = s ∧ D.view = V ∧ D.L = L ∧ D.P.length ≤ p

section
variable {F : Nat → Prop} {w : World} {a d f m M s : Nat} {V L : List UInt8} {p : Nat}

theorem ASF.save (h : ASF F w a d f m M s V L p) {R : Nat → Prop} {w' : World} (k : Save R w w') (hR : ∀ i, F i → i < w.heap.size → ¬ R i) (ha : ¬ R a) : ASF F w' a d f m M s V L p := by
  obtain ⟨D, h1, h2⟩ := h
  exact ⟨D, h1.save k hR ha, h2⟩
theorem ASF.up {w' : World} (h : ASF F w a d f m M s V L p) (b : Below w.heap.size w w') : ASF F w' a d f m M s V L p := by
  obtain ⟨D, h1, h2⟩ := h
  exact ⟨D, h1.up b, h2⟩
theorem ASF.ext {w' : World} {F' : Nat → Prop} (h : ASF F' w' a d f m M s V L p) (hs : ∀ k, F' k → Grow F w k) (ha : ¬ Grow F w a) : ASF (Ext F w w') w' a d f m M s V L p := by
  obtain ⟨D, h1, h2⟩ := h
  exact ⟨D, h1.ext hs ha, h2⟩
theorem ASF.lt (h : ASF F w a d f m M s V L p) : a < w.heap.size ∧ ¬ F a ∧ ∀ k, F k → k < w.heap.size := by
  obtain ⟨D, h1, h2⟩ := h
  exact ⟨h1.lt, h1.out, h1.bd⟩
theorem ASF.facts (h : ASF F w a d f m M s V L p) : 1 ≤ m ∧ m ≤ 4096 ∧ f ≤ 4096 ∧ 64 ≤ s ∧ s ≤ 1024 ∧ m * s ≤ 4194304 ∧ (f + m) * s ≤ M * s ∧ V.length = M * s ∧ L.length = M * s ∧ M ≤ 4096 := by
  obtain ⟨D, h1, h2, rfl, rfl, rfl, rfl, h3⟩ := h
  obtain ⟨n1, n2, n3, n4, n5, n6, n7⟩ := h1.nums
  exact ⟨n1, n2, n3, n4, n5, n6, n7, Dk.view_len h1.dsk.ok, h1.dsk.ok.len, h1.dsk.ok.m2⟩

theorem asf_put (h : ASF F w a d f m M s V L p) (hp : p ≤ 90000) (o : Int) (b : List UInt8) (hl : b.length ≤ 20000) :
    Calls Try.prog 9 #[ap a, .int .i64 o, .string ⟨b.toArray⟩] w fun e w' => e = .returned (.int .i64 (aunfit (m * s) o (b.length : Nat) : Nat)) ∧
      ASF (Ext F w w') w' a d f m M s (if aunfit (m * s) o (b.length : Nat) = 0 then lay V (f * s + o.toNat) b else V) L (p + M) ∧ Save F w w' := by
  have hlt := h.lt
  have hga : ¬ Grow F w a := fun hg => by rcases hg with hg | hg; exact hlt.2.1 hg; omega
  obtain ⟨D, h1, h2, rfl, rfl, rfl, rfl, h3⟩ := h
  have hm2 := h1.dsk.ok.m2
  rcases aunfit_or (m * D.size) o (b.length : Nat) with hu | hu
  · rw [hu, if_pos rfl]
    obtain ⟨u1, u2, u3⟩ := aunfit_in hu
    obtain ⟨o, rfl⟩ : ∃ k : Nat, o = k := ⟨o.toNat, by omega⟩
    rw [Int.toNat_natCast]
    refine (put_any h1 (by omega) o b (by omega)).mono ?_
    rintro e w' ⟨r, E, rfl, ⟨j, hq⟩, hA, bl⟩
    obtain ⟨q1, q2, q3, q4⟩ := hq.all h2
    subst q1
    refine ⟨rfl, ⟨E, hA, q3, hq.to.up.many, hq.to.up.size, q2, q4, ?_⟩, bl⟩
    have := hq.few
    rw [hq.to.P, List.length_append, Dk.puts_len]; omega
  · rw [hu, if_neg (by decide)]
    refine (put_bad h1 o ⟨b.toArray⟩ (by rw [text_list]; omega) (by rw [text_list]; exact hu)).mono ?_
    rintro e w' ⟨rfl, bl⟩
    exact ⟨rfl, ⟨D, (h1.up bl).ext (fun _ h => Or.inl h) hga, h2, rfl, rfl, rfl, rfl, by omega⟩, Save.up bl⟩

theorem asf_get (h : ASF F w a d f m M s V L p) (o n : Int) (hn : n < 9223372036854775808) :
    Calls Try.prog 12 #[ap a, .int .i64 o, .int .i64 n] w fun e w' => e = .returned (.tuple #[.string ⟨(if aunfit (m * s) o n = 0 then (V.drop (f * s + o.toNat)).take n.toNat else []).toArray⟩, .int .i64 (aunfit (m * s) o n : Nat)]) ∧
      ASF (Ext F w w') w' a d f m M s V L p ∧ Save F w w' := by
  have hlt := h.lt
  have hga : ¬ Grow F w a := fun hg => by rcases hg with hg | hg; exact hlt.2.1 hg; omega
  obtain ⟨D, h1, h2, rfl, rfl, rfl, rfl, h3⟩ := h
  rcases aunfit_or (m * D.size) o n with hu | hu
  · rw [hu, if_pos rfl]
    obtain ⟨u1, u2, u3⟩ := aunfit_in hu
    obtain ⟨o, rfl⟩ : ∃ k : Nat, o = k := ⟨o.toNat, by omega⟩
    obtain ⟨n, rfl⟩ : ∃ k : Nat, n = k := ⟨n.toNat, by omega⟩
    rw [Int.toNat_natCast, Int.toNat_natCast]
    refine (get_any h1 o n (by omega)).mono ?_
    rintro e w' ⟨r, t, E, rfl, hq, hA, bl⟩
    obtain ⟨rfl, rfl, rfl⟩ := hq.all h2
    exact ⟨rfl, ⟨_, hA.ext (fun _ h => Or.inl h) hga, h2, rfl, rfl, rfl, rfl, h3⟩, bl⟩
  · rw [hu, if_neg (by decide)]
    refine (get_bad h1 o n hn hu).mono ?_
    rintro e w' ⟨rfl, bl⟩
    exact ⟨rfl, ⟨D, (h1.up bl).ext (fun _ h => Or.inl h) hga, h2, rfl, rfl, rfl, rfl, h3⟩, Save.up bl⟩

theorem asf_sync (h : ASF F w a d f m M s V L p) (hp : p ≤ 100000) :
    Calls Try.prog 10 #[ap a] w fun e w' => e = .returned (.int .i64 0) ∧ ASF (Ext F w w') w' a d f m M s V V 0 ∧ Save F w w' := by
  have hlt := h.lt
  have hga : ¬ Grow F w a := fun hg => by rcases hg with hg | hg; exact hlt.2.1 hg; omega
  obtain ⟨D, h1, h2, rfl, rfl, rfl, rfl, h3⟩ := h
  have hd : D.down = false := by unfold Dk.down; rw [h2]; rfl
  obtain ⟨q1, q2, q3⟩ := Dk.flush_view h1.dsk.ok hd
  refine (sync_any h1 (by omega)).mono ?_
  rintro e w' ⟨rfl, hA, bl⟩
  rw [q3]
  have hf : D.flush.1 = D.counted.settled D.P D.size := by unfold Dk.flush; rw [hd]; simp
  refine ⟨rfl, ⟨_, hA.ext (fun _ h => Or.inl h) hga, ?_, ?_, ?_, q2, q1, ?_⟩, bl⟩
  · rw [hf]; exact D.counted_br.trans h2
  · rw [hf]; exact D.counted_many
  · rw [hf]; exact D.counted_size
  · rw [hf]; exact Nat.le_refl 0

theorem asf_image (h : ASF F w a d f m M s V L p) : Calls Try.prog 11 #[dp d] w fun e w' => e = .returned (.string ⟨L.toArray⟩) ∧ w = w' := by
  obtain ⟨D, h1, h2, rfl, rfl, rfl, rfl, h3⟩ := h
  exact image_any h1.dsk
end

/-- Two areas, each on its own disk. -/
def PR (B : Nat) (w : World) (a d b e m M s : Nat) (V L : List UInt8) (p : Nat) (X Y : List UInt8) (q : Nat) : Prop :=
  ∃ F G, ASF F w a d 0 m M s V L p ∧ ASF G w b e 0 m M s X Y q ∧ (∀ k, F k → ¬ G k) ∧ ¬ F b ∧ ¬ G a ∧ (∀ k, F k → B ≤ k) ∧ (∀ k, G k → B ≤ k)

section
variable {B : Nat} {w : World} {a d b e m M s : Nat} {V L X Y : List UInt8} {p q : Nat}

theorem PR.swap (h : PR B w a d b e m M s V L p X Y q) : PR B w b e a d m M s X Y q V L p := by
  obtain ⟨F, G, h1, h2, h3, h4, h5, h6, h7⟩ := h
  exact ⟨G, F, h2, h1, fun k hg hf => h3 k hf hg, h5, h4, h7, h6⟩
theorem PR.up {w' : World} (h : PR B w a d b e m M s V L p X Y q) (k : Below w.heap.size w w') : PR B w' a d b e m M s V L p X Y q := by
  obtain ⟨F, G, h1, h2, h3⟩ := h
  exact ⟨F, G, h1.up k, h2.up k, h3⟩

/-- What a call on one of both leaves of the pair. -/
theorem PR.with {F G : Nat → Prop} {w' : World} {V' L' : List UInt8} {p' : Nat} (hB : B ≤ w.heap.size) (h1 : ASF F w a d 0 m M s V L p) (h2 : ASF G w b e 0 m M s X Y q) (h3 : ∀ k, F k → ¬ G k) (h4 : ¬ F b) (h5 : ¬ G a) (h6 : ∀ k, F k → B ≤ k) (h7 : ∀ k, G k → B ≤ k)
    (hA : ASF (Ext F w w') w' a d 0 m M s V' L' p') (bl : Save F w w') : PR B w' a d b e m M s V' L' p' X Y q ∧ Below B w w' := by
  have := h1.lt
  have l2 := h2.lt
  refine ⟨⟨_, G, hA, h2.save bl (fun k hg _ hf => h3 k hf hg) h4, ?_, ?_, h5, ?_, h7⟩, bl.below h6 hB⟩
  · intro k hk hg
    rcases hk.1 with hk | hk
    · exact h3 k hk hg
    · have := l2.2.2 k hg; omega
  · intro hk
    rcases hk.1 with hk | hk
    · exact h4 hk
    · omega
  · intro k hk
    rcases hk.1 with hk | hk
    · exact h6 k hk
    · omega

theorem pr_put (hB : B ≤ w.heap.size) (h : PR B w a d b e m M s V L p X Y q) (hp : p ≤ 90000) (o : Int) (t : List UInt8) (hl : t.length ≤ 20000) :
    Calls Try.prog 9 #[ap a, .int .i64 o, .string ⟨t.toArray⟩] w fun r w' => r = .returned (.int .i64 (aunfit (m * s) o (t.length : Nat) : Nat)) ∧
      PR B w' a d b e m M s (if aunfit (m * s) o (t.length : Nat) = 0 then lay V o.toNat t else V) L (p + M) X Y q ∧ Below B w w' := by
  obtain ⟨F, G, h1, h2, h3, h4, h5, h6, h7⟩ := h
  refine (asf_put h1 hp o t hl).mono ?_
  rintro r w' ⟨rfl, hA, bl⟩
  rw [Nat.zero_mul, Nat.zero_add] at hA
  exact ⟨rfl, PR.with hB h1 h2 h3 h4 h5 h6 h7 hA bl⟩

theorem pr_get (hB : B ≤ w.heap.size) (h : PR B w a d b e m M s V L p X Y q) (o n : Int) (hn : n < 9223372036854775808) :
    Calls Try.prog 12 #[ap a, .int .i64 o, .int .i64 n] w fun r w' => r = .returned (.tuple #[.string ⟨(if aunfit (m * s) o n = 0 then (V.drop o.toNat).take n.toNat else []).toArray⟩, .int .i64 (aunfit (m * s) o n : Nat)]) ∧
      PR B w' a d b e m M s V L p X Y q ∧ Below B w w' := by
  obtain ⟨F, G, h1, h2, h3, h4, h5, h6, h7⟩ := h
  refine (asf_get h1 o n hn).mono ?_
  rintro r w' ⟨rfl, hA, bl⟩
  rw [Nat.zero_mul, Nat.zero_add]
  exact ⟨rfl, PR.with hB h1 h2 h3 h4 h5 h6 h7 hA bl⟩

theorem pr_sync (hB : B ≤ w.heap.size) (h : PR B w a d b e m M s V L p X Y q) (hp : p ≤ 100000) :
    Calls Try.prog 10 #[ap a] w fun r w' => r = .returned (.int .i64 0) ∧ PR B w' a d b e m M s V V 0 X Y q ∧ Below B w w' := by
  obtain ⟨F, G, h1, h2, h3, h4, h5, h6, h7⟩ := h
  refine (asf_sync h1 hp).mono ?_
  rintro r w' ⟨rfl, hA, bl⟩
  exact ⟨rfl, PR.with hB h1 h2 h3 h4 h5 h6 h7 hA bl⟩

theorem pr_image (h : PR B w a d b e m M s V L p X Y q) : Calls Try.prog 11 #[dp d] w fun r w' => r = .returned (.string ⟨L.toArray⟩) ∧ w = w' := by
  obtain ⟨F, G, h1, h2, h3, h4, h5, h6, h7⟩ := h
  exact asf_image h1

theorem PR.facts (h : PR B w a d b e m M s V L p X Y q) : 1 ≤ m ∧ 64 ≤ s ∧ s ≤ 1024 ∧ m * s ≤ M * s ∧ M * s ≤ 4194304 ∧ V.length = M * s := by
  obtain ⟨F, G, h1, h2, h3, h4, h5, h6, h7⟩ := h
  obtain ⟨n1, n2, n3, n4, n5, n6, n7, n8, n9, n10⟩ := h1.facts
  rw [Nat.zero_add] at n7
  exact ⟨n1, n4, n5, n7, Nat.le_trans (Nat.mul_le_mul n10 n5) (by omega), n8⟩
end

/-- Two disks, made one behind the other, and their areas. -/
theorem pr_new {w0 w1 w2 w : World} {d e m M s : Nat} (b1 : Below w0.heap.size w0 w1) (b2 : Below w1.heap.size w1 w2) (b3 : Below w2.heap.size w2 w) (h1 : Dsk (fun k => w0.heap.size ≤ k ∧ k < w1.heap.size) w d (Dk.new M s)) (h2 : Dsk (fun k => w1.heap.size ≤ k ∧ k < w2.heap.size) w e (Dk.new M s)) {a b : Nat}
    (ha : Has w a 49 [dp d, .int .i64 (0 : Nat), .int .i64 (m : Nat)]) (hb : Has w b 49 [dp e, .int .i64 (0 : Nat), .int .i64 (m : Nat)]) (ga : w2.heap.size ≤ a) (gb : w2.heap.size ≤ b) (hm : 1 ≤ m) (hM : m ≤ M) :
    PR w0.heap.size w a d b e m M s (List.replicate (M * s) 0) (List.replicate (M * s) 0) 0 (List.replicate (M * s) 0) (List.replicate (M * s) 0) 0 := by
  have z1 := b1.size
  have z2 := b2.size
  have z3 := b3.size
  refine ⟨_, _, ⟨_, ⟨h1, ha, fun h => by omega, fun k h => by omega, hm, by rw [Nat.zero_add]; exact hM⟩, rfl, rfl, rfl, rfl, rfl, Nat.le_refl _⟩, ⟨_, ⟨h2, hb, fun h => by omega, fun k h => by omega, hm, by rw [Nat.zero_add]; exact hM⟩, rfl, rfl, rfl, rfl, rfl, Nat.le_refl _⟩, ?_, ?_, ?_, ?_, ?_⟩
  · intro k h h'; omega
  · intro h; omega
  · intro h; omega
  · intro k h; omega
  · intro k h; omega

end Go.Proofs.Ytihajcjfppmfjaa
