/- The document's row for chains, worked out: two batches, the second one linked to the first one's sum. -/
import Derived.Test.YthhcopeejhhpgaaDoorShaRun
import Derived.Test.YthhcopeejhhpgaaDoorHash
import Derived.Test.YthhcopeejhhpgaaDoorChClash
namespace Go.Proofs.YthhcopeejhhpgaaDoor.Chn
open Wire Evt Bat

def e7 : Ev := ⟨7, 0, 0, 1, 0, 0⟩
def e8 : Ev := ⟨8, 0, 0, 8, 0, 0⟩
/-- Their bytes. -/
def lS : List UInt8 := [66, 0, 0, 0, 41, 0, 0, 0, 0, 0, 0, 0, 0, 0, 0, 0, 0, 0, 0, 0, 0, 0, 0, 0, 0, 0, 0, 0, 0, 0, 0, 0, 0, 0, 0, 0, 0, 7, 1, 6, 1, 7, 0, 1, 0, 0, 233, 98, 234, 180]
def hS : List UInt8 := [148, 110, 234, 41, 98, 78, 111, 245, 0, 96, 186, 160, 61, 88, 227, 218, 12, 208, 0, 20, 154, 54, 24, 218, 218, 66, 1, 57, 101, 3, 236, 215]
def lT : List UInt8 := [66, 0, 0, 0, 41, 148, 110, 234, 41, 98, 78, 111, 245, 0, 96, 186, 160, 61, 88, 227, 218, 12, 208, 0, 20, 154, 54, 24, 218, 218, 66, 1, 57, 101, 3, 236, 215, 8, 1, 6, 8, 8, 0, 1, 0, 0, 44, 244, 154, 206]
def hT : List UInt8 := [23, 7, 206, 78, 61, 1, 142, 65, 46, 101, 63, 137, 95, 37, 136, 199, 38, 75, 172, 117, 222, 32, 190, 38, 242, 137, 117, 39, 218, 73, 160, 100]

theorem lS_whole : whole (lnk z32 [e7]) = lS := by decide +kernel
theorem lT_whole : whole (lnk hS [e8]) = lT := by decide +kernel

theorem lS_state : St.start.add ⟨lS.toArray⟩ = ⟨W8.start, 50, ⟨lS.toArray⟩⟩ := by kernel_rfl
theorem lS_block : (⟨W8.start, 50, ⟨lS.toArray⟩⟩ : St).sum = outs (comp W8.start (lS ++ (128 :: [0, 0, 0, 0, 0, 0, 0, 0, 0, 0, 0, 1, 144]))) 32 := by kernel_rfl
theorem lS_hsh : hsh lS = hS := by
  unfold hsh
  rw [lS_state, lS_block, ← fcomp_eq]
  decide +kernel
theorem lT_state : St.start.add ⟨lT.toArray⟩ = ⟨W8.start, 50, ⟨lT.toArray⟩⟩ := by kernel_rfl
theorem lT_block : (⟨W8.start, 50, ⟨lT.toArray⟩⟩ : St).sum = outs (comp W8.start (lT ++ (128 :: [0, 0, 0, 0, 0, 0, 0, 0, 0, 0, 0, 1, 144]))) 32 := by kernel_rfl
theorem lT_hsh : hsh lT = hT := by
  unfold hsh
  rw [lT_state, lT_block, ← fcomp_eq]
  decide +kernel

theorem b7 : isB 7 [e7] = true := by decide +kernel
theorem b8 : isB 8 [e8] = true := by decide +kernel
theorem lS_got : gotB lS = ⟨lnk z32 [e7], 50, 0⟩ := by
  have := gotB_put (b := lnk z32 [e7]) ⟨by decide, rfl, by intro x hx; obtain rfl := List.mem_singleton.1 hx; decide⟩ b7 []
  rw [List.append_nil, lS_whole] at this
  exact this
theorem lT_got : gotB lT = ⟨lnk hS [e8], 50, 0⟩ := by
  have := gotB_put (b := lnk hS [e8]) ⟨by decide, rfl, by intro x hx; obtain rfl := List.mem_singleton.1 hx; decide⟩ b8 []
  rw [List.append_nil, lT_whole] at this
  exact this

theorem linked_chk : chk hsh z32 7 [lS, lT] = ([e7, e8], hT, 0) := by
  have h1 : er ⟨[], z32, 7⟩ lS = 0 := er_of lS_got rfl rfl
  have h2 : nx hsh ⟨[], z32, 7⟩ lS = ⟨[e7], hS, 8⟩ := by unfold nx; rw [lS_got, lS_hsh]; rfl
  have h3 : er ⟨[e7], hS, 8⟩ lT = 0 := er_of lT_got rfl rfl
  have h4 : nx hsh ⟨[e7], hS, 8⟩ lT = ⟨[e7, e8], hT, 9⟩ := by unfold nx; rw [lT_got, lT_hsh]; rfl
  have h5 : run hsh [lS, lT] ⟨[], z32, 7⟩ = (⟨[e7, e8], hT, 9⟩, 0) := by
    rw [run, if_neg (by simpa using h1), h2, run, if_neg (by simpa using h3), h4, run]
  unfold chk
  rw [h5]
  rfl

theorem linked_no : chk hsh z32 8 [lT] = ([], z32, 11) := by
  have h1 : er ⟨[], z32, 8⟩ lT = 11 := by
    unfold er
    rw [lT_got]
    rfl
  unfold chk
  rw [run, h1]
  rfl

theorem linked_clash : clash hsh [lS, lT] [lT, lS] = (lT, lS, false) := by
  have h : clash hsh [lS, lT] [lT, lS] = (lT, lS, decide (hsh lT = hsh lS)) := by
    unfold clash
    have : cl ([lS, lT] : List (List UInt8)).reverse [lT, lS].reverse = some (lT, lS) := by decide +kernel
    rw [this]
  rw [h, lT_hsh, lS_hsh]
  rfl

end Go.Proofs.YthhcopeejhhpgaaDoor.Chn
