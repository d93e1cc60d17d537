/- Two rows clash by just these two texts: the law's walk. -/
import Derived.Test.YthhcopeejhhpgaaDoorLinked
namespace Go.Proofs.YthhcopeejhhpgaaDoor
open Go.RowKit Wire Evt Bat Chn

set_option maxHeartbeats 4000000 in
set_option maxRecDepth 100000 in
theorem ChainClashes_core (LK : LinkC) (CK : CheckC) (CL : ClashC) (A A' : Option Addr) (l m : List (List UInt8)) (n n' c c' : Nat) (hn : n = l.length) (hn' : n' = m.length) (hc : n ≤ c) (hc' : n' ≤ c')
    (hl : l.length ≤ 9223372036854775807) (hm : m.length ≤ 9223372036854775807) (w : World) (hTab : Tab w) (hA : StSl w A l) (hA' : StSl w A' m) :
    Calls Tryd.prog 5 #[.slice A n c, .slice A' n' c'] w fun e w' => e = .returned (.bool true) ∧ Below w.heap.size w w' := by
  have f1 := fun w hA => few_any A l n c hn hl w hA
  have f2 := fun w hA => few_any A' m n' c' hn' hm w hA
  cases h1 : fewL l with
  | false =>
    rw [h1] at f1
    have F1 := Lib.hid f1
    have HA := Lib.hid hA
    clear f1 f2 hn hn' hc hc' hl hm hA hA' h1 LK CK CL
    go_enter Tryd.func5, Tryd.ntmps5
    go_wp2_with fail
    refine (F1.out _ HA.out).mono ?_; rintro e w1 ⟨rfl, rfl⟩
    go_wp2_with fail
    go_ret
    exact ⟨rfl, Below.refl _ _⟩
  | true =>
    have hlk := (fewL_yes h1).1
    have hls : ∀ s ∈ l, s.length ≤ 100000 := fun s hs => by have := fewL_len h1 hs; omega
    cases h2 : fewL m with
    | false =>
      rw [h1] at f1
      rw [h2] at f2
      have F1 := Lib.hid f1
      have F2 := Lib.hid f2
      have HA := Lib.hid hA
      have HA' := Lib.hid hA'
      clear f1 f2 hn hn' hc hc' hl hm hA hA' h1 h2 LK CK CL hls hlk
      go_enter Tryd.func5, Tryd.ntmps5
      go_wp2_with fail
      refine (F1.out _ HA.out).mono ?_; rintro e w1 ⟨rfl, rfl⟩
      go_wp2_with fail
      refine (F2.out _ HA'.out).mono ?_; rintro e w1 ⟨rfl, rfl⟩
      go_wp2_with fail
      go_ret
      exact ⟨rfl, Below.refl _ _⟩
    | true =>
      have hmk := (fewL_yes h2).1
      have hms : ∀ s ∈ m, s.length ≤ 100000 := fun s hs => by have := fewL_len h2 hs; omega
      rw [h1] at f1
      rw [h2] at f2
      have F1 := Lib.hid f1
      have F2 := Lib.hid f2
      have HA := Lib.hid hA
      have HA' := Lib.hid hA'
      have HT := Lib.hid (fun W (hb : Below w.heap.size w W) => tab_up hTab hb)
      have C1 := Lib.hid (fun w hT hA hA' => CL A A' l m n n' c c' w hT hn hn' hc hc' (by omega) (by omega) hls hms hA hA')
      have C2 := Lib.hid (fun w hA hA' => rclash_any A A' l m n n' c c' hn hn' (by omega) (by omega) hls hms w hA hA')
      have L9 := Lib.hid (fun w hT => linked_any LK CK CL w hT)
      clear f1 f2 hn hn' hc hc' hl hm hA hA' h1 h2 LK CK CL hls hlk hmk hms hTab
      generalize clash hsh l m = r at *
      obtain ⟨x, y, b⟩ := r
      have hbb : (b == b) = true := by cases b <;> rfl
      go_enter Tryd.func5, Tryd.ntmps5
      go_wp2_with fail
      refine (F1.out _ HA.out).mono ?_; rintro e w1 ⟨rfl, rfl⟩
      go_wp2_with fail
      refine (F2.out _ HA'.out).mono ?_; rintro e w1 ⟨rfl, rfl⟩
      go_wp2_with fail
      refine (C1.out _ (HT.out _ (Below.refl _ _)) HA.out HA'.out).mono ?_; rintro e w2 ⟨rfl, b2⟩
      go_wp2_with fail
      refine (C2.out _ (HA.out.up b2) (HA'.out.up b2)).mono ?_; rintro e w3 ⟨rfl, b3⟩
      go_wp2_with fail
      refine (L9.out _ (HT.out _ (up_trans b2 b3))).mono ?_; rintro e w4 ⟨rfl, b4⟩
      go_wp2_with fail
      go_ret
      exact ⟨by simp, up_trans (up_trans b2 b3) b4⟩

end Go.Proofs.YthhcopeejhhpgaaDoor
