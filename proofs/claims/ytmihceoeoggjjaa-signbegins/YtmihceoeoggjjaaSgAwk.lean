/-
  The contract of the law's own 'awake', as a walk over the translated text. No condition.
-/
import Derived.Test.YtmihceoeoggjjaaSgPrg
namespace Go.Proofs.Ytmihceoeoggjjaa
open Go.ChangeShapes Go.WideShapes Go.ChangeAt Go.RowKit
namespace Sig
open Bas Txt
set_option linter.unusedVariables false

abbrev aA : ByteArray := { data := #[255, 254, 0, 0, 120] }
abbrev aB : ByteArray := { data := #[255, 254, 0, 1] }
abbrev aC : ByteArray := { data := #[239, 187] }
theorem sniff_A : sniffV (bytesL aA) = .tuple #[.int .i64 5, .int .i64 4, .bool true] := by kernel_rfl
theorem sniff_B : sniffV (bytesL aB) = .tuple #[.int .i64 3, .int .i64 2, .bool true] := by kernel_rfl
theorem sniff_C : sniffV (bytesL aC) = .tuple #[.int .i64 0, .int .i64 0, .bool false] := by kernel_rfl
theorem sig_8 : sigS 8 = { data := #[251, 238, 40] } := by decide +kernel
theorem sig_7 : sigS 7 = { data := #[] } := by decide +kernel
set_option maxHeartbeats 4000000 in
theorem awake_any (w : World) : Calls Try.prog 8 #[] w fun e w' => e = .returned (.bool true) ∧ Below w.heap.size w w' := by
  go_enter Try.func8, Try.ntmps8
  go_wp2_with fail
  refine (sniff_any aA w).mono ?_
  rw [sniff_A]
  rintro e w1 ⟨rfl, h1⟩
  have H1 : Hid (Below w.heap.size w w1) := h1
  clear h1
  go_wp2_with fail
  refine (sniff_any aB w1).mono ?_
  rw [sniff_B]
  rintro e w2 ⟨rfl, h2⟩
  have H2 : Hid (Below w.heap.size w w2) := below_two H1.out h2
  clear h2 H1
  go_wp2_with fail
  refine (sniff_any aC w2).mono ?_
  rw [sniff_C]
  rintro e w3 ⟨rfl, h3⟩
  have H3 : Hid (Below w.heap.size w w3) := below_two H2.out h3
  clear h3 H2
  go_wp2_with fail
  refine (of_any 8 w3).mono ?_
  rw [sig_8]
  rintro e w4 ⟨rfl, h4⟩
  have H4 : Hid (Below w.heap.size w w4) := below_two H3.out h4
  clear h4 H3
  go_wp2_with fail
  refine (of_any 7 w4).mono ?_
  rw [sig_7]
  rintro e w5 ⟨rfl, h5⟩
  go_wp2
  go_ret
  exact ⟨rfl, below_two H4.out h5⟩
end Sig
end Go.Proofs.Ytmihceoeoggjjaa
