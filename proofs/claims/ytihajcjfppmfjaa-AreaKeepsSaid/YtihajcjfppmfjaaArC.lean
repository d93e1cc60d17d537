/- One piece of a Put: an area's lay. -/
import Derived.Test.YtihajcjfppmfjaaArB
namespace Go.Proofs.Ytihajcjfppmfjaa
open Go.RowKit Sec

theorem sec_len {D : Dk} (ok : D.Ok) {k : Nat} (hk : k < D.many) : (D.sec k).length = D.size := by
  rw [Dk.sec_view ok hk]
  exact Sc_len (Dk.view_len ok) hk

theorem join_lists (A B : List UInt8) : (⟨A.toArray⟩ : ByteArray) ++ ⟨B.toArray⟩ = ⟨(A ++ B).toArray⟩ := by
  apply ByteArray.ext
  apply Array.toList_inj.1
  simp

section
variable {F : Nat → Prop} {w : World} {a d : Nat} {E : Dk} {f m : Nat}

/-- The call of size in lay, and what is at hand behind it. -/
structure Lyd (F : Nat → Prop) (w w2 : World) (a d : Nat) (E : Dk) (f m k lo hi : Nat) : Prop where
  arr : Arr F w2 a d E f m
  pc : Has w2 w.heap.size 55 (pcc k lo hi)
  new : ¬ F w.heap.size
  save : Save F w w2

theorem Lyd.up {w2 w3 : World} {k lo hi : Nat} (h : Lyd F w w2 a d E f m k lo hi) (b : Below w2.heap.size w2 w3) : Lyd F w w3 a d E f m k lo hi :=
  ⟨h.arr.up b, h.pc.up b, h.new, h.save.on b⟩

theorem Lyd.with {w2 w3 : World} {E' : Dk} {k lo hi : Nat} (h : Lyd F w w2 a d E f m k lo hi) (hd : Dsk F w3 d E') (s : Save F w2 w3) (hm : E'.many = E.many) : Lyd F w w3 a d E' f m k lo hi :=
  ⟨h.arr.with hd s hm, s.has h.pc h.new, h.new, h.save.trans (s.mono fun _ _ h => Or.inl h)⟩

theorem lyd_size (h : Arr F w a d E f m) (k lo hi : Nat) :
    Calls Try.prog 24 #[ap a] (w.alloc (.cells (pcc k lo hi).toArray 55)) fun e w' => e = .returned (.int .i64 (E.size : Nat)) ∧ Lyd F w w' a d E f m k lo hi := by
  have b1 : Below w.heap.size w (w.alloc (.cells (pcc k lo hi).toArray 55)) := up_alloc (Below.refl _ _) _
  refine (asize_any (h.up b1)).mono ?_
  rintro e w' ⟨rfl, j, rfl⟩
  exact ⟨rfl, (show Lyd F w _ a d E f m k lo hi from ⟨h.up b1, Has.make _ _ _, fun hf => by have := h.bd _ hf; omega, Save.up b1⟩).up (drewN_below j)⟩

/-- A piece that is a whole sector. -/
theorem lay_whole (h : Arr F w a d E f m) (hP : E.P.length < 100000) (k lo hi : Nat) (p : List UInt8) (hp : p.length = E.size) :
    Calls Try.prog 21 #[ap a, .agg (pcc k lo hi).toArray, .string ⟨p.toArray⟩] w fun e w' => e = .returned (.int .i64 ((E.write k p).2 : Nat)) ∧ Dsk (Grow F w) w' d (E.write k p).1 ∧ Save F w w' := by
  have hs2 := h.dsk.ok.s2
  have C := Lib.hid (lyd_size h k lo hi)
  have HP := Lib.hid hP
  have hsz : (⟨p.toArray⟩ : ByteArray).size = E.size := by rw [text_list, hp]
  have HL := Lib.hid hp
  clear h hp hP
  go_enter Try.func21, Try.ntmps21
  go_wp2_with fail
  refine C.out.mono ?_; rintro e w2 ⟨rfl, L⟩
  have a0 := L.arr.hA.at (i := 0) rfl
  have p0 := L.pc.at (i := 0) rfl
  have HL2 := Lib.hid L
  clear L
  go_wp2_with fail
  go_still_tail 7, (by kernel_rfl)
  change wpList _ _ _ _ _ w2.drew
  have W := write_any (HL2.out.up (Below.refl _ _).drew).arr.dsk HP.out k p (by rw [HL.out]; omega)
  have HW := Lib.hid W
  clear W
  go_wp2_with fail
  refine HW.out.mono ?_; rintro e w3 ⟨rfl, hd, s⟩
  have HD := Lib.hid hd
  have HS := Lib.hid s
  clear hd s
  go_wp2_with fail
  go_ret
  have b := (HL2.out.up (Below.refl _ _).drew).save
  exact ⟨rfl, HD.out.mono fun _ hk => hk.imp id fun h => Nat.le_trans b.size h, b.trans (HS.out.mono fun _ _ h => Or.inl h)⟩

/-- A piece of a disk that is down. -/
theorem lay_down (h : Arr F w a d E f m) (k lo hi : Nat) (p : List UInt8) (hp : p.length < E.size) (hd : E.down = true) :
    Calls Try.prog 21 #[ap a, .agg (pcc k lo hi).toArray, .string ⟨p.toArray⟩] w fun e w' => e = .returned (.int .i64 9) ∧ Dsk (Grow F w) w' d E ∧ Save F w w' := by
  have C := Lib.hid (lyd_size h k lo hi)
  have hsz : (⟨p.toArray⟩ : ByteArray).size = p.length := text_list p
  have hlt : (p.length : Int) < (E.size : Int) := by omega
  have hu : E.unfit k = 9 := by unfold Dk.unfit; rw [if_pos hd]
  have hr : E.read k = (E, [], 9) := by unfold Dk.read; rw [hu, if_neg (by decide)]
  have HR := Lib.hid hr
  clear h hd hu hr hp
  go_enter Try.func21, Try.ntmps21
  go_wp2_with fail
  refine C.out.mono ?_; rintro e w2 ⟨rfl, L⟩
  have a0 := L.arr.hA.at (i := 0) rfl
  have p0 := L.pc.at (i := 0) rfl
  have HL2 := Lib.hid L
  clear L
  go_wp2_with fail
  have W := read_any (HL2.out.up (Below.refl _ _).drew).arr.dsk k
  rw [HR.out] at W
  have HW := Lib.hid W
  have hm : E.many = E.many := rfl
  clear W
  refine wp_region_held_drew (S := fun W => W.cell? ⟨a, 0, none⟩ = some (dp d) ∧ W.cell? ⟨w.heap.size, 0, none⟩ = some (.int .i64 (k : Nat))) (by kernel_rfl) (⟨a0, p0⟩) (fun hHeld => ?_)
  refine wpAnyH_take (i := 0) (v := ?_) rfl (by kernel_rfl) (by kernel_rfl) (by kernel_rfl) (fun _ _ _ h => h) (Or.inl ⟨by rfl, ?_⟩) (by assumption) ?_
  rotate_left
  · intro w hSw; (try dsimp only at hSw); go_simp; try with_reducible rfl
  try simp only [Act.put, List.getElem_toArray, List.getElem_cons_zero, List.setIfInBounds_toArray, List.set_cons_zero, List.set_cons_succ]
  refine wpAnyH_take (i := 1) (v := ?_) rfl (by kernel_rfl) (by kernel_rfl) (by kernel_rfl) (fun _ _ _ h => h) (Or.inl ⟨by rfl, ?_⟩) (by assumption) ?_
  rotate_left
  · intro w hSw; (try dsimp only at hSw); go_simp; try with_reducible rfl
  try simp only [Act.put, List.getElem_toArray, List.getElem_cons_zero, List.getElem_cons_succ, List.setIfInBounds_toArray, List.set_cons_zero, List.set_cons_succ]
  refine wpAnyH_take (i := 2) (v := ?_) rfl (by kernel_rfl) (by kernel_rfl) (by kernel_rfl) (fun _ _ _ h => h) (Or.inl ⟨by rfl, ?_⟩) (by assumption) ?_
  rotate_left
  · intro w hSw; (try dsimp only at hSw); go_simp; try with_reducible rfl
  try simp only [Act.put, List.getElem_toArray, List.getElem_cons_zero, List.getElem_cons_succ, List.setIfInBounds_toArray, List.set_cons_zero, List.set_cons_succ]
  refine wpAnyH_take (i := 3) (v := ?_) rfl (by kernel_rfl) (by kernel_rfl) (by kernel_rfl) (fun _ _ _ h => h) (Or.inl ⟨by rfl, ?_⟩) (by assumption) ?_
  rotate_left
  · intro w hSw; (try dsimp only at hSw); go_simp; try with_reducible rfl
  try simp only [Act.put, List.getElem_toArray, List.getElem_cons_zero, List.getElem_cons_succ, List.setIfInBounds_toArray, List.set_cons_zero, List.set_cons_succ]
  refine wpAnyH_take (i := 4) (v := ?_) rfl (by kernel_rfl) (by kernel_rfl) (by kernel_rfl) (fun _ _ _ h => h) (Or.inl ⟨by rfl, ?_⟩) (by assumption) ?_
  rotate_left
  · intro w hSw; (try dsimp only at hSw); go_simp; try with_reducible rfl
  try simp only [Act.put, List.getElem_toArray, List.getElem_cons_zero, List.getElem_cons_succ, List.setIfInBounds_toArray, List.set_cons_zero, List.set_cons_succ]
  refine wpAnyH_take (i := 5) (v := ?_) rfl (by kernel_rfl) (by kernel_rfl) (by kernel_rfl) (fun _ _ _ h => h) (Or.inl ⟨by rfl, ?_⟩) (by assumption) ?_
  rotate_left
  · intro w hSw; (try dsimp only at hSw); go_simp; try with_reducible rfl
  try simp only [Act.put, List.getElem_toArray, List.getElem_cons_zero, List.getElem_cons_succ, List.setIfInBounds_toArray, List.set_cons_zero, List.set_cons_succ]
  refine wpAnyH_ready (rs := [6]) (by kernel_rfl) (by simp) (AllReadyH.cons rfl (fun K hK => ?_) AllReadyH.nil)
  go_simp
  refine HW.out.mono ?_; rintro e wn ⟨rfl, hd, s, hz⟩
  have L3 := (HL2.out.up (Below.refl w2.heap.size w2).drew).with hd s hm
  have HL3 := Lib.hid L3
  have HS := Lib.hid s
  clear hd s L3
  go_wp2_with fail
  refine hK.out _ _ (⟨HL3.out.arr.hA.at rfl, HL3.out.pc.at rfl⟩) (fun hHeld => ?_)
  clear hK K
  try simp only [Act.put, List.getElem_toArray, List.getElem_cons_zero, List.getElem_cons_succ, List.setIfInBounds_toArray, List.set_cons_zero, List.set_cons_succ]
  refine wpAnyH_take (i := 7) (v := ?_) rfl (by kernel_rfl) (by kernel_rfl) (by kernel_rfl) (fun _ _ _ h => h) (Or.inl ⟨by rfl, ?_⟩) (by assumption) ?_
  rotate_left
  · intro w hSw; (try dsimp only at hSw); go_simp; try with_reducible rfl
  try simp only [Act.put, List.getElem_toArray, List.getElem_cons_zero, List.getElem_cons_succ, List.setIfInBounds_toArray, List.set_cons_zero, List.set_cons_succ]
  refine wpAnyH_take (i := 8) (v := ?_) rfl (by kernel_rfl) (by kernel_rfl) (by kernel_rfl) (fun _ _ _ h => h) (Or.inl ⟨by rfl, ?_⟩) (by assumption) ?_
  rotate_left
  · intro w hSw; (try dsimp only at hSw); go_simp; try with_reducible rfl
  try simp only [Act.put, List.getElem_toArray, List.getElem_cons_zero, List.getElem_cons_succ, List.setIfInBounds_toArray, List.set_cons_zero, List.set_cons_succ]
  refine wpAnyH_take (i := 9) (v := ?_) rfl (by kernel_rfl) (by kernel_rfl) (by kernel_rfl) (fun _ _ _ h => h) (Or.inl ⟨by rfl, ?_⟩) (by assumption) ?_
  rotate_left
  · intro w hSw; (try dsimp only at hSw); go_simp; try with_reducible rfl
  try simp only [Act.put, List.getElem_toArray, List.getElem_cons_zero, List.getElem_cons_succ, List.setIfInBounds_toArray, List.set_cons_zero, List.set_cons_succ]
  refine wpAnyH_take (i := 10) (v := ?_) rfl (by kernel_rfl) (by kernel_rfl) (by kernel_rfl) (fun _ _ _ h => h) (Or.inl ⟨by rfl, ?_⟩) (by assumption) ?_
  rotate_left
  · intro w hSw; (try dsimp only at hSw); go_simp; try with_reducible rfl
  try simp only [Act.put, List.getElem_toArray, List.getElem_cons_zero, List.getElem_cons_succ, List.setIfInBounds_toArray, List.set_cons_zero, List.set_cons_succ]
  refine wpAnyH_take (i := 11) (v := ?_) rfl (by kernel_rfl) (by kernel_rfl) (by kernel_rfl) (fun _ _ _ h => h) (Or.inl ⟨by rfl, ?_⟩) (by assumption) ?_
  rotate_left
  · intro w hSw; (try dsimp only at hSw); go_simp; try with_reducible rfl
  try simp only [Act.put, List.getElem_toArray, List.getElem_cons_zero, List.getElem_cons_succ, List.setIfInBounds_toArray, List.set_cons_zero, List.set_cons_succ]
  refine wpAnyH_done (by kernel_rfl) ?_ _
  skip
  go_wp2_with fail
  go_ret
  exact ⟨rfl, HL3.out.arr.dsk.mono fun _ hk => Or.inl hk, HL3.out.save⟩

set_option maxHeartbeats 1000000 in
/-- A piece of a sector that is read first. -/
theorem lay_part_any (h : Arr F w a d E f m) (hP : E.P.length < 100000) (k lo hi : Nat) (p : List UInt8) (hp : p.length < E.size) (hk : k < E.many) (hd : E.down = false) (hl : lo + p.length = hi) (hh : hi ≤ E.size) :
    Calls Try.prog 21 #[ap a, .agg (pcc k lo hi).toArray, .string ⟨p.toArray⟩] w fun e w' => e = .returned (.int .i64 ((E.counted.write k ((E.sec k).take lo ++ p ++ (E.sec k).drop hi)).2 : Nat)) ∧
      Dsk (Grow F w) w' d (E.counted.write k ((E.sec k).take lo ++ p ++ (E.sec k).drop hi)).1 ∧ Save F w w' := by
  have hs2 := h.dsk.ok.s2
  have hsl := sec_len h.dsk.ok hk
  have C := Lib.hid (lyd_size h k lo hi)
  have hsz : (⟨p.toArray⟩ : ByteArray).size = p.length := text_list p
  have hlt : (p.length : Int) < (E.size : Int) := by omega
  have hu : E.unfit k = 0 := by rw [Dk.unfit_in hk, hd]; rfl
  have hr : E.read k = (E.counted, E.sec k, 0) := by unfold Dk.read; rw [if_pos hu, Int.toNat_natCast]
  have HR := Lib.hid hr
  have HP := Lib.hid hP
  generalize E.sec k = x at *
  have hxs : (⟨x.toArray⟩ : ByteArray).size = E.size := by rw [text_list, hsl]
  have x1 : (⟨x.toArray⟩ : ByteArray).extract 0 lo = ⟨(x.take lo).toArray⟩ := by rw [extract_mid]; simp
  have x2 : (⟨x.toArray⟩ : ByteArray).extract hi E.size = ⟨(x.drop hi).toArray⟩ := by rw [extract_mid, show (⟨x.toArray⟩ : ByteArray).data.toList = x from rfl, List.take_of_length_le (by rw [List.length_drop]; omega)]
  have z1 : (⟨(x.take lo).toArray⟩ : ByteArray).size = lo := by rw [text_list, List.length_take]; omega
  have z2 : (⟨(x.drop hi).toArray⟩ : ByteArray).size = E.size - hi := by rw [text_list, List.length_drop]; omega
  have k1 : (lo : Int) ≤ (E.size : Int) := by omega
  have k2 : (hi : Int) ≤ (E.size : Int) := by omega
  have hle : ((x.take lo) ++ p ++ (x.drop hi)).length = E.size := by simp only [List.length_append, List.length_take, List.length_drop]; omega
  have xj : (⟨(x.take lo).toArray⟩ : ByteArray) ++ ⟨p.toArray⟩ ++ ⟨(x.drop hi).toArray⟩ = ⟨(x.take lo ++ p ++ x.drop hi).toArray⟩ := by rw [join_lists, join_lists]
  obtain ⟨c, hc⟩ : ∃ c, c = x.take lo ++ p ++ x.drop hi := ⟨_, rfl⟩
  rw [← hc] at hle xj ⊢
  have HLE := Lib.hid hle
  clear h hd hu hr hP hsl hk hc hle
  go_enter Try.func21, Try.ntmps21
  go_wp2_with fail
  refine C.out.mono ?_; rintro e w2 ⟨rfl, L⟩
  have a0 := L.arr.hA.at (i := 0) rfl
  have p0 := L.pc.at (i := 0) rfl
  have HL2 := Lib.hid L
  clear L
  go_wp2_with fail
  have W := read_any (HL2.out.up (Below.refl _ _).drew).arr.dsk k
  rw [HR.out] at W
  have HW := Lib.hid W
  have hm : E.counted.many = E.many := E.counted_many
  clear W
  refine wp_region_held_drew (S := fun W => W.cell? ⟨a, 0, none⟩ = some (dp d) ∧ W.cell? ⟨w.heap.size, 0, none⟩ = some (.int .i64 (k : Nat))) (by kernel_rfl) (⟨a0, p0⟩) (fun hHeld => ?_)
  refine wpAnyH_take (i := 0) (v := ?_) rfl (by kernel_rfl) (by kernel_rfl) (by kernel_rfl) (fun _ _ _ h => h) (Or.inl ⟨by rfl, ?_⟩) (by assumption) ?_
  rotate_left
  · intro w hSw; (try dsimp only at hSw); go_simp; try with_reducible rfl
  try simp only [Act.put, List.getElem_toArray, List.getElem_cons_zero, List.setIfInBounds_toArray, List.set_cons_zero, List.set_cons_succ]
  refine wpAnyH_take (i := 1) (v := ?_) rfl (by kernel_rfl) (by kernel_rfl) (by kernel_rfl) (fun _ _ _ h => h) (Or.inl ⟨by rfl, ?_⟩) (by assumption) ?_
  rotate_left
  · intro w hSw; (try dsimp only at hSw); go_simp; try with_reducible rfl
  try simp only [Act.put, List.getElem_toArray, List.getElem_cons_zero, List.getElem_cons_succ, List.setIfInBounds_toArray, List.set_cons_zero, List.set_cons_succ]
  refine wpAnyH_take (i := 2) (v := ?_) rfl (by kernel_rfl) (by kernel_rfl) (by kernel_rfl) (fun _ _ _ h => h) (Or.inl ⟨by rfl, ?_⟩) (by assumption) ?_
  rotate_left
  · intro w hSw; (try dsimp only at hSw); go_simp; try with_reducible rfl
  try simp only [Act.put, List.getElem_toArray, List.getElem_cons_zero, List.getElem_cons_succ, List.setIfInBounds_toArray, List.set_cons_zero, List.set_cons_succ]
  refine wpAnyH_take (i := 3) (v := ?_) rfl (by kernel_rfl) (by kernel_rfl) (by kernel_rfl) (fun _ _ _ h => h) (Or.inl ⟨by rfl, ?_⟩) (by assumption) ?_
  rotate_left
  · intro w hSw; (try dsimp only at hSw); go_simp; try with_reducible rfl
  try simp only [Act.put, List.getElem_toArray, List.getElem_cons_zero, List.getElem_cons_succ, List.setIfInBounds_toArray, List.set_cons_zero, List.set_cons_succ]
  refine wpAnyH_take (i := 4) (v := ?_) rfl (by kernel_rfl) (by kernel_rfl) (by kernel_rfl) (fun _ _ _ h => h) (Or.inl ⟨by rfl, ?_⟩) (by assumption) ?_
  rotate_left
  · intro w hSw; (try dsimp only at hSw); go_simp; try with_reducible rfl
  try simp only [Act.put, List.getElem_toArray, List.getElem_cons_zero, List.getElem_cons_succ, List.setIfInBounds_toArray, List.set_cons_zero, List.set_cons_succ]
  refine wpAnyH_take (i := 5) (v := ?_) rfl (by kernel_rfl) (by kernel_rfl) (by kernel_rfl) (fun _ _ _ h => h) (Or.inl ⟨by rfl, ?_⟩) (by assumption) ?_
  rotate_left
  · intro w hSw; (try dsimp only at hSw); go_simp; try with_reducible rfl
  try simp only [Act.put, List.getElem_toArray, List.getElem_cons_zero, List.getElem_cons_succ, List.setIfInBounds_toArray, List.set_cons_zero, List.set_cons_succ]
  refine wpAnyH_ready (rs := [6]) (by kernel_rfl) (by simp) (AllReadyH.cons rfl (fun K hK => ?_) AllReadyH.nil)
  go_simp
  refine HW.out.mono ?_; rintro e wn ⟨rfl, hd, s, hz⟩
  have L3 := (HL2.out.up (Below.refl w2.heap.size w2).drew).with hd s hm
  have HL3 := Lib.hid L3
  have HS := Lib.hid s
  clear hd s L3
  go_wp2_with fail
  refine hK.out _ _ (⟨HL3.out.arr.hA.at rfl, HL3.out.pc.at rfl⟩) (fun hHeld => ?_)
  clear hK K
  try simp only [Act.put, List.getElem_toArray, List.getElem_cons_zero, List.getElem_cons_succ, List.setIfInBounds_toArray, List.set_cons_zero, List.set_cons_succ]
  refine wpAnyH_take (i := 7) (v := ?_) rfl (by kernel_rfl) (by kernel_rfl) (by kernel_rfl) (fun _ _ _ h => h) (Or.inl ⟨by rfl, ?_⟩) (by assumption) ?_
  rotate_left
  · intro w hSw; (try dsimp only at hSw); go_simp; try with_reducible rfl
  try simp only [Act.put, List.getElem_toArray, List.getElem_cons_zero, List.getElem_cons_succ, List.setIfInBounds_toArray, List.set_cons_zero, List.set_cons_succ]
  refine wpAnyH_take (i := 8) (v := ?_) rfl (by kernel_rfl) (by kernel_rfl) (by kernel_rfl) (fun _ _ _ h => h) (Or.inl ⟨by rfl, ?_⟩) (by assumption) ?_
  rotate_left
  · intro w hSw; (try dsimp only at hSw); go_simp; try with_reducible rfl
  try simp only [Act.put, List.getElem_toArray, List.getElem_cons_zero, List.getElem_cons_succ, List.setIfInBounds_toArray, List.set_cons_zero, List.set_cons_succ]
  refine wpAnyH_take (i := 9) (v := ?_) rfl (by kernel_rfl) (by kernel_rfl) (by kernel_rfl) (fun _ _ _ h => h) (Or.inl ⟨by rfl, ?_⟩) (by assumption) ?_
  rotate_left
  · intro w hSw; (try dsimp only at hSw); go_simp; try with_reducible rfl
  try simp only [Act.put, List.getElem_toArray, List.getElem_cons_zero, List.getElem_cons_succ, List.setIfInBounds_toArray, List.set_cons_zero, List.set_cons_succ]
  refine wpAnyH_take (i := 10) (v := ?_) rfl (by kernel_rfl) (by kernel_rfl) (by kernel_rfl) (fun _ _ _ h => h) (Or.inl ⟨by rfl, ?_⟩) (by assumption) ?_
  rotate_left
  · intro w hSw; (try dsimp only at hSw); go_simp; try with_reducible rfl
  try simp only [Act.put, List.getElem_toArray, List.getElem_cons_zero, List.getElem_cons_succ, List.setIfInBounds_toArray, List.set_cons_zero, List.set_cons_succ]
  refine wpAnyH_take (i := 11) (v := ?_) rfl (by kernel_rfl) (by kernel_rfl) (by kernel_rfl) (fun _ _ _ h => h) (Or.inl ⟨by rfl, ?_⟩) (by assumption) ?_
  rotate_left
  · intro w hSw; (try dsimp only at hSw); go_simp; try with_reducible rfl
  try simp only [Act.put, List.getElem_toArray, List.getElem_cons_zero, List.getElem_cons_succ, List.setIfInBounds_toArray, List.set_cons_zero, List.set_cons_succ]
  refine wpAnyH_done (by kernel_rfl) ?_ _
  skip
  clear a0 p0
  have a0 := HL3.out.arr.hA.at (i := 0) rfl
  have p0 := HL3.out.pc.at (i := 0) rfl
  have p1 := HL3.out.pc.at (i := 1) rfl
  have p2 := HL3.out.pc.at (i := 2) rfl
  go_wp2_with fail
  go_quiet (fail)
  clear x1 x2 z1 z2 xj hxs hsz k1 k2
  revert nq
  intro n3
  have L4 := HL3.out.up (drewN_below n3)
  have HL4 := Lib.hid L4
  clear a0 p0 p1 p2 L4
  generalize wn.drewN n3 = w4 at *
  have a0 := HL4.out.arr.hA.at (i := 0) rfl
  have p0 := HL4.out.pc.at (i := 0) rfl
  go_wp2_with fail
  go_still_tail 7, (by kernel_rfl)
  change wpList _ _ _ _ _ w4.drew
  have W := write_any (HL4.out.up (Below.refl _ _).drew).arr.dsk (by rw [E.counted_P]; exact HP.out) k c (by rw [HLE.out]; omega)
  have HW2 := Lib.hid W
  clear W
  go_wp2_with fail
  refine HW2.out.mono ?_; rintro e w5 ⟨rfl, hd, s⟩
  have HD := Lib.hid hd
  have HS := Lib.hid s
  clear hd s
  go_wp2_with fail
  go_ret
  have b := (HL4.out.up (Below.refl _ _).drew).save
  exact ⟨rfl, HD.out.mono fun _ hk => hk.imp id fun h => Nat.le_trans b.size h, b.trans (HS.out.mono fun _ _ h => Or.inl h)⟩

/-- lay: one piece, whatever it is. -/
theorem lay_any (h : Arr F w a d E f m) (hP : E.P.length < 100000) (k lo hi : Nat) (p : List UInt8) (hk : k < E.many) (hl : lo + p.length = hi) (hh : hi ≤ E.size) :
    Calls Try.prog 21 #[ap a, .agg (pcc k lo hi).toArray, .string ⟨p.toArray⟩] w fun e w' => e = .returned (.int .i64 ((E.piece k lo p).2 : Nat)) ∧ Arr (Ext F w w') w' a d (E.piece k lo p).1 f m ∧ Save F w w' := by
  have hmw : ∀ (G : Dk) (x : Int) (y : List UInt8), (G.write x y).1.many = G.many := by
    intro G x y
    unfold Dk.write
    split
    · split
      · exact G.counted_many
      · rfl
    · rfl
  have hu := Dk.unfit_in hk
  unfold Dk.piece
  by_cases hp : p.length < E.size
  · rw [if_pos hp]
    cases hd : E.down with
    | true =>
      rw [hd, if_pos rfl] at hu
      rw [hu, if_neg (by decide)]
      exact (lay_down h k lo hi p hp hd).mono fun _ _ ⟨he, h1, h2⟩ => ⟨he, h.grew h1 h2 rfl, h2⟩
    | false =>
      rw [hd, if_neg (by decide)] at hu
      rw [if_pos hu, hl]
      exact (lay_part_any h hP k lo hi p hp hk hd hl hh).mono fun _ _ ⟨he, h1, h2⟩ => ⟨he, h.grew h1 h2 ((hmw _ _ _).trans E.counted_many), h2⟩
  · rw [if_neg hp]
    exact (lay_whole h hP k lo hi p (by omega)).mono fun _ _ ⟨he, h1, h2⟩ => ⟨he, h.grew h1 h2 (hmw _ _ _), h2⟩
end

end Go.Proofs.Ytihajcjfppmfjaa
