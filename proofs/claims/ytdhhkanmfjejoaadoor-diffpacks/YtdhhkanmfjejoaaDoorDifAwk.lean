/-
  The contract of the statements' 'awake' of layer 11, as a walk over the translated text: it answers true. The condition: the tables are as the program's text lays them.
-/
import Derived.Test.YtdhhkanmfjejoaaDoorDif4
namespace Go.Proofs.YtdhhkanmfjejoaaDoor
open Go.ChangeShapes Go.WideShapes Go.ChangeAt Go.RowKit
namespace Dif
open Bas Txt
set_option linter.unusedVariables false

theorem pack_a : strOf (packL 65215) = { data := #[251, 238, 40] } := by decide +kernel
theorem pack_b : strOf (packL (-65)) = { data := #[79, 255] } := by decide +kernel
theorem pack_c : strOf (packL 64) = { data := #[208, 1] } := by decide +kernel
theorem rng_d : rngL (bytesL { data := #[208] }) = some (64, 306, 2) := by decide +kernel
theorem prev_a : prevI 12353 = 12400 := by decide +kernel
theorem prev_b : prevI 65 = 64 := by decide +kernel
set_option maxHeartbeats 4000000 in
set_option maxRecDepth 100000 in
theorem awake_any (w : World) (hT : Tabs w) : Calls Tryd.prog 10 #[] w fun e w' => e = .returned (.bool true) ∧ Below w.heap.size w w' := by
  have HT : Hid (Tabs w) := hT
  clear hT
  go_enter Tryd.func10, Tryd.ntmps10
  go_wp2_with fail
  refine (pack_yes 65215 w HT.out ⟨by decide, by decide⟩).mono ?_
  rintro e w1 ⟨rfl, b1⟩
  rw [pack_a]
  have H1 : Hid (Below w.heap.size w w1 ∧ Tabs w1) := ⟨b1, HT.out.below b1⟩
  clear b1
  go_wp2_with fail
  refine (pack_yes (-65) w1 H1.out.2 ⟨by decide, by decide⟩).mono ?_
  rintro e w2 ⟨rfl, b1⟩
  rw [pack_b]
  have H2 : Hid (Below w.heap.size w w2 ∧ Tabs w2) := ⟨below_two H1.out.1 b1, H1.out.2.below b1⟩
  clear b1 H1
  go_wp2_with fail
  refine (pack_yes 64 w2 H2.out.2 ⟨by decide, by decide⟩).mono ?_
  rintro e w3 ⟨rfl, b1⟩
  rw [pack_c]
  have H3 : Hid (Below w.heap.size w w3 ∧ Tabs w3) := ⟨below_two H2.out.1 b1, H2.out.2.below b1⟩
  clear b1 H2
  go_wp2_with fail
  refine (pack_no 1114112 w3 (by unfold inR; decide)).mono ?_
  rintro e w4 ⟨rfl, hw⟩
  rw [hw]
  clear hw w4
  go_wp2_with fail
  refine (range_any { data := #[208] } w3 H3.out.2 (by decide) (by decide)).mono ?_
  rintro e w4 ⟨rfl, b1⟩
  rw [rng_d]
  have H4 : Hid (Below w.heap.size w w4) := below_two H3.out.1 b1
  clear b1 H3
  unfold rngV
  go_wp2_with fail
  refine (prev_any 12353 w4 (by decide) (by decide)).mono ?_
  rintro e w5 ⟨rfl, hw⟩
  rw [hw, prev_a]
  clear hw w5
  go_wp2_with fail
  refine (prev_any 65 w4 (by decide) (by decide)).mono ?_
  rintro e w5 ⟨rfl, hw⟩
  rw [hw, prev_b]
  clear hw w5
  go_wp2
  go_ret
  exact ⟨rfl, H4.out⟩
end Dif
end Go.Proofs.YtdhhkanmfjejoaaDoor
