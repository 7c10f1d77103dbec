/-
  The statements' own first question (answers that the document fixes) is answered by true, as a walk over the translated text; nothing that was there is changed. No condition.
-/
import Derived.Test.YtngbkcfiofdelaaScaO
namespace Go.Proofs.Ytngbkcfiofdelaa
open Go.ChangeShapes Go.WideShapes Go.ChangeAt Go.RowKit
namespace Sca
open Bas
set_option linter.unusedVariables false

set_option maxHeartbeats 1000000 in
theorem awake_any (w : World) :
    Calls Try.prog 8 #[] w fun e w' => e = .returned (.bool true) ∧ Below w.heap.size w w' := by
  have h1 : isB 55295 = true := by decide
  have h2 : isB 57344 = true := by decide
  have h3 : isB 55296 = false := by decide
  have h4 : isB 1114112 = false := by decide
  have h5 : unitsL [65, 128512] = 3 := by decide
  have h6 : cmpL [1, 2] [1, 2, 0] = -1 := by decide
  have h7 : clsOf 160 = 3 := by decide
  have h8 : firstL [1, 57343] = 1 := by decide
  go_enter Try.func8, Try.ntmps8
  go_wp2_with (first
    | (go_at_call 9; refine (sIs_any _ _).mono ?_; rintro e w1 ⟨rfl, hw⟩; subst hw)
    | (go_at_call 11; refine (sClass_any _ _).mono ?_; rintro e w1 ⟨rfl, hw⟩; subst hw)
    | (go_at_call 15; refine (sUnits_any _ 2 2 [65, 128512] _ (by exact row_new _ _ [65, 128512] _ _ (by simp)) rfl (by omega)).mono ?_; rintro e w1 ⟨rfl, hw⟩; subst hw)
    | (go_at_call 17; refine (sOrder_any _ _ 2 3 2 3 [1, 2] [1, 2, 0] _ (by exact row_old (row_new _ _ [1, 2] _ _ (by simp)) _) (by exact row_new _ _ [1, 2, 0] _ _ (by simp)) rfl rfl (by unfold maxLen; omega) (by unfold maxLen; omega)).mono ?_; rintro e w1 ⟨rfl, hw⟩; subst hw)
    | (go_at_call 13; refine (sFirst_any _ 2 2 [1, 57343] _ (by exact row_new _ _ [1, 57343] _ _ (by simp)) rfl (by unfold maxLen; omega)).mono ?_; rintro e w1 ⟨rfl, hw⟩; subst hw))
  go_ret
  exact ⟨rfl, (((((Below.refl _ _).alloc (Nat.le_refl _) _).alloc (by simp) _).alloc (by simp; omega) _).alloc (by simp; omega) _)⟩
end Sca
end Go.Proofs.Ytngbkcfiofdelaa
