/-
  The contract of the statements' 'awake' of layer 7, as a walk over the translated text: it answers true. No condition.
-/
import Derived.Test.YtehpfoeonmkehaaPer2
namespace Go.Proofs.Ytehpfoeonmkehaa
open Go.ChangeShapes Go.WideShapes Go.ChangeAt Go.RowKit
namespace Per
open Bas Txt
set_option linter.unusedVariables false

set_option maxHeartbeats 4000000 in
theorem awake_any (w : World) : Calls Try.prog 9 #[] w fun e w' => e = .returned (.bool true) ∧ Below w.heap.size w w' := by
  have H1 : Hid (at_ tabL 65 = 193 ∧ at_ tabL 10 = 21 ∧ at_ tabL 133 = 37 ∧ at_ tabL 241 = 221 ∧ at_ frL 64 = 32) := (by decide +kernel : at_ tabL 65 = 193 ∧ at_ tabL 10 = 21 ∧ at_ tabL 133 = 37 ∧ at_ tabL 241 = 221 ∧ at_ frL 64 = 32)
  have H2 : Hid (strOf (turnL tabL (bytesL { data := #[65, 49] })) = { data := #[193, 241] } ∧ strOf (turnL frL (bytesL { data := #[65] })) = { data := #[160] }) := (by decide +kernel : strOf (turnL tabL (bytesL { data := #[65, 49] })) = { data := #[193, 241] } ∧ strOf (turnL frL (bytesL { data := #[65] })) = { data := #[160] })
  go_enter Try.func9, Try.ntmps9
  go_wp2_with fail
  refine (new_any w).mono ?_
  rintro e w1 ⟨b, rfl, ht, hb⟩
  have HT : Hid (TabAt w1 b ∧ Below w.heap.size w w1) := ⟨ht, hb⟩
  clear ht hb
  go_wp2_with fail
  refine (to_any b 65 w1 HT.out.1 (by decide) (by decide)).mono ?_
  rintro e w2 ⟨rfl, hw⟩
  subst hw
  rw [H1.out.1]
  go_wp2_with fail
  refine (to_any b 10 w2 HT.out.1 (by decide) (by decide)).mono ?_
  rintro e w3 ⟨rfl, hw⟩
  subst hw
  rw [H1.out.2.1]
  go_wp2_with fail
  refine (to_any b 133 w3 HT.out.1 (by decide) (by decide)).mono ?_
  rintro e w4 ⟨rfl, hw⟩
  subst hw
  rw [H1.out.2.2.1]
  go_wp2_with fail
  refine (to_any b 241 w4 HT.out.1 (by decide) (by decide)).mono ?_
  rintro e w5 ⟨rfl, hw⟩
  subst hw
  rw [H1.out.2.2.2.1]
  go_wp2_with fail
  refine (from_any b 64 w5 HT.out.1 (by decide) (by decide)).mono ?_
  rintro e w6 ⟨rfl, hw⟩
  subst hw
  rw [H1.out.2.2.2.2]
  go_wp2_with fail
  refine (text_any b { data := #[65, 49] } w6 HT.out.1 (by decide)).mono ?_
  rintro e w7 ⟨rfl, h7⟩
  rw [H2.out.1]
  have HT7 : Hid (TabAt w7 b ∧ Below w.heap.size w w7) := ⟨HT.out.1.below h7, below_two HT.out.2 h7⟩
  clear h7
  go_wp2_with fail
  refine (back_any b { data := #[65] } w7 HT7.out.1 (by decide)).mono ?_
  rintro e w8 ⟨rfl, h8⟩
  rw [H2.out.2]
  have HT8 : Hid (Below w.heap.size w w8) := below_two HT7.out.2 h8
  clear h8
  go_wp2
  go_ret
  exact ⟨rfl, HT8.out⟩
end Per
end Go.Proofs.Ytehpfoeonmkehaa
