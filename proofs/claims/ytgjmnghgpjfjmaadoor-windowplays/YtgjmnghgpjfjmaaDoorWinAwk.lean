/-
  The contract of the statements' 'awake' of layer 13, as a walk over the translated text: it answers true. The condition: the tables are as the program's text lays them.
-/
import Derived.Test.YtgjmnghgpjfjmaaDoorWin2
namespace Go.Proofs.YtgjmnghgpjfjmaaDoor
open Go.ChangeShapes Go.WideShapes Go.ChangeAt Go.RowKit
namespace Win
open Bas
set_option linter.unusedVariables false

theorem idx_a : idxV (idxI 233) = 249 ∧ idxB (idxI 233) = true := by decide +kernel
theorem idx_b : idxV (idxI 945) = 251 ∧ idxB (idxI 945) = true := by decide +kernel
theorem idx_c : idxV (idxI 57344) = 104 ∧ idxB (idxI 57344) = true := by decide +kernel
theorem idx_d : idxV (idxI 19968) = 0 ∧ idxB (idxI 19968) = false := by decide +kernel
set_option maxHeartbeats 4000000 in
set_option maxRecDepth 100000 in
theorem awake_any (w : World) (hT : Tabs w) : Calls Tryd.prog 11 #[] w fun e w' => e = .returned (.bool true) ∧ Below w.heap.size w w' := by
  have HT : Hid (Tabs w) := hT
  clear hT
  go_enter Tryd.func11, Tryd.ntmps11
  go_wp2_with fail
  refine (index_any 233 w HT.out (by decide) (by decide)).mono ?_
  rintro e w1 ⟨rfl, hw⟩
  rw [hw, idx_a.1, idx_a.2]
  clear hw w1
  go_wp2_with fail
  refine (index_any 945 w HT.out (by decide) (by decide)).mono ?_
  rintro e w1 ⟨rfl, hw⟩
  rw [hw, idx_b.1, idx_b.2]
  clear hw w1
  go_wp2_with fail
  refine (index_any 57344 w HT.out (by decide) (by decide)).mono ?_
  rintro e w1 ⟨rfl, hw⟩
  rw [hw, idx_c.1, idx_c.2]
  clear hw w1
  go_wp2_with fail
  refine (index_any 19968 w HT.out (by decide) (by decide)).mono ?_
  rintro e w1 ⟨rfl, hw⟩
  rw [hw, idx_d.1, idx_d.2]
  clear hw w1
  go_wp2_with fail
  refine (ext_any 127 255 w (by decide) (by decide) (by decide) (by decide)).mono ?_
  rintro e w1 ⟨rfl, hw⟩
  rw [hw, show extN 127 = 3 from rfl, show extO 127 255 = 1113984 from rfl]
  clear hw w1
  go_wp2_with fail
  refine (static_any 7 w HT.out).mono ?_
  rintro e w1 ⟨rfl, hw⟩
  rw [hw, show atW statL 7 = 12288 from rfl, show isW 7 = true from rfl]
  clear hw w1
  go_wp2_with fail
  refine (new_at w).mono ?_
  rintro e w1 ⟨rfl, hv, hb, hz⟩
  have HV : Hid (WinV w1 w.heap.size 0 firstL8 used0 ∧ Below w.heap.size w w1) := ⟨hv, hb⟩
  clear hv hb hz
  go_wp2_with fail
  refine (oldest_any w.heap.size 0 firstL8 used0 w1 HV.out.1).mono ?_
  rintro e w2 ⟨rfl, hw⟩
  rw [hw, show nth used0 0 = 7 from rfl]
  clear hw w2
  go_wp2_with fail
  refine (at_any w.heap.size 0 2 firstL8 used0 w1 HV.out.1).mono ?_
  rintro e w2 ⟨rfl, hw⟩
  rw [hw, show atW firstL8 2 = 1024 from rfl]
  clear hw w2
  go_wp2
  go_ret
  exact ⟨rfl, HV.out.2⟩
end Win
end Go.Proofs.YtgjmnghgpjfjmaaDoor
