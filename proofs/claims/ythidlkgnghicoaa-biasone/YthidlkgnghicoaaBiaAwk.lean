/-
  The contract of the statements' 'awake' of layer 9, as a walk over the translated text: it answers true. No condition.
-/
import Derived.Test.YthidlkgnghicoaaBia2
import Derived.Test.YthidlkgnghicoaaBia3
namespace Go.Proofs.Ythidlkgnghicoaa
open Go.ChangeShapes Go.WideShapes Go.ChangeAt Go.RowKit
namespace Bia
open Bas Txt
set_option linter.unusedVariables false

theorem put_zero : strOf (putL 72 0 0) = { data := #[97] } := by
  rw [putL_last (by have := (thr_rng 72 0).1; omega)]
  decide +kernel
theorem adapt_zero : adapt 0 1 true = 0 := by
  show adK _ 0 = 0
  rw [adK_last (by decide)]
  decide
set_option maxHeartbeats 4000000 in
theorem awake_any (w : World) : Calls Try.prog 11 #[] w fun e w' => e = .returned (.bool true) ∧ Below w.heap.size w w' := by
  have H1 : Hid (thrI 0 72 = 1 ∧ thrI 2 72 = 26 ∧ nth letL 35 = 57) := (by decide +kernel : thrI 0 72 = 1 ∧ thrI 2 72 = 26 ∧ nth letL 35 = 57)
  have H2 : Hid (strOf (putL 72 0 0) = { data := #[97] } ∧ ((adapt 0 1 true : Nat) : Int) = 0) := ⟨put_zero, by rw [adapt_zero]; rfl⟩
  go_enter Try.func11, Try.ntmps11
  go_wp2_with fail
  refine (digit_yes 90 25 w (by decide +kernel) (by decide) (by decide) (by decide)).mono ?_
  rintro e w1 ⟨rfl, hw⟩
  subst hw
  go_wp2_with fail
  refine (letter_yes 35 w1 (by decide)).mono ?_
  rintro e w2 ⟨rfl, hw⟩
  subst hw
  rw [H1.out.2.2]
  go_wp2_with fail
  refine (letter_no 36 w2 (.inr (by decide))).mono ?_
  rintro e w3 ⟨rfl, hw⟩
  subst hw
  go_wp2_with fail
  refine (adapt_any 0 1 true w3 (by decide) (by decide)).mono ?_
  rintro e w4 ⟨rfl, hw⟩
  subst hw
  rw [H2.out.2]
  go_wp2_with fail
  refine (thr_any 0 72 w4).mono ?_
  rintro e w5 ⟨rfl, hw⟩
  subst hw
  rw [H1.out.1]
  go_wp2_with fail
  refine (thr_any 2 72 w5).mono ?_
  rintro e w6 ⟨rfl, hw⟩
  subst hw
  rw [H1.out.2.1]
  go_wp2_with fail
  refine (put_any 0 72 w6 (by decide)).mono ?_
  rintro e w7 ⟨rfl, hb⟩
  rw [H2.out.1]
  have HB : Hid (Below w6.heap.size w6 w7) := hb
  clear hb
  go_wp2
  go_ret
  exact ⟨rfl, HB.out⟩
end Bia
end Go.Proofs.Ythidlkgnghicoaa
