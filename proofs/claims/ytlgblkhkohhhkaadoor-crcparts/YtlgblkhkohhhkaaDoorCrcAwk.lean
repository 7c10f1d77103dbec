/-
  The contract of the law's own 'awake', as a walk over the translated text. The condition: the table is as the program's text lays it.
-/
import Derived.Test.YtlgblkhkohhhkaaDoorCrc2
namespace Go.Proofs.YtlgblkhkohhhkaaDoor
open Go.ChangeShapes Go.WideShapes Go.ChangeAt Go.RowKit
namespace Crc
open Bas Txt
set_option linter.unusedVariables false

abbrev sA : ByteArray := { data := #[49, 50, 51, 52] }
abbrev sB : ByteArray := { data := #[53, 54, 55, 56, 57] }
abbrev sC : ByteArray := { data := #[49, 50, 51, 52, 53, 54, 55, 56, 57] }
abbrev sD : ByteArray := { data := #[0, 1, 0, 0, 120] }
abbrev sE : ByteArray := { data := #[97] }
theorem sum_C : sumI (bytesL sC) = 3421780262 := by decide +kernel
theorem sum_AB : sumI (([] ++ bytesL sA) ++ bytesL sB) = 3421780262 := by decide +kernel
theorem num_D : numI (bytesL sD) = 256 := by decide +kernel
theorem sum_E : decide (sumI (bytesL sE) = 0) = false := by decide +kernel
theorem sum_0 : decide (sumI (bytesL { data := #[] }) = 0) = true := by decide +kernel
theorem four_1 : strOf (fourI 1) = { data := #[1, 0, 0, 0] } := by decide +kernel
set_option maxHeartbeats 8000000 in
set_option maxRecDepth 100000 in
theorem awake_any (w : World) (hT : Tabs w) :
    Calls Tryd.prog 8 #[] w fun e w' => e = .returned (.bool true) ∧ Below w.heap.size w w' := by
  have HT : Hid (Tabs w) := hT
  have HG : Hid (Going w (w.alloc (.cells #[.int .u32 0] 29)) []) := ⟨sumAt_new w _ rfl, (Below.refl _ _).alloc (Nat.le_refl _) _⟩
  have HA : Hid (∀ w0 w1 l s, Going w0 w1 l → Tabs w1 → s.size ≤ 1000000 → Calls Tryd.prog 12 #[.pointer (some ⟨w0.heap.size, 0, none⟩), .string s] w1 fun e w' => e = .returned (.tuple #[]) ∧ Going w0 w' (l ++ bytesL s)) := by
    intro w0 w1 l s h1 h2 h3
    refine (add_any _ s l w1 h2 h1.1 h3).mono ?_
    rintro e w2 ⟨rfl, g1, g2, g3⟩
    exact ⟨rfl, g1, h1.2.trans (g2.below h1.2.size (fun k j hk hh => by have := hh.1; omega))⟩
  clear hT
  go_enter Tryd.func8, Tryd.ntmps8
  go_wp2_with fail
  refine (HA.out w _ _ sA HG.out (HT.out.below HG.out.2) (by decide)).mono ?_
  rintro e w1 ⟨rfl, h1⟩
  have H1 : Hid (Going w w1 ([] ++ bytesL sA)) := h1
  clear h1 HG
  go_wp2_with fail
  refine (HA.out w _ _ sB H1.out (HT.out.below H1.out.2) (by decide)).mono ?_
  rintro e w2 ⟨rfl, h2⟩
  have H2 : Hid (SumAt w2 w.heap.size (([] ++ bytesL sA) ++ bytesL sB) ∧ Below w.heap.size w w2 ∧ w.heap.size < w2.heap.size) := ⟨h2.1, h2.2, h2.1.lt⟩
  clear h2 H1 HA
  go_wp2_with fail
  refine (of_one sC _ w2 (HT.out.below H2.out.2.1) rfl (by decide) _ rfl).mono ?_
  rw [sum_C]
  rintro e w3 ⟨rfl, h3⟩
  have H3 : Hid (SumAt w3 w.heap.size (([] ++ bytesL sA) ++ bytesL sB) ∧ Below w.heap.size w w3) := ⟨H2.out.1.below h3, below_two H2.out.2.1 h3⟩
  clear h3 H2
  go_wp2_with fail
  refine (of_any none 0 0 [] w3 (HT.out.below H3.out.2) (strRow_nil _ _) rfl (by decide) (fun s h => by cases h)).mono ?_
  rw [show sumI (catL []) = 0 from rfl]
  rintro e w4 ⟨rfl, h4⟩
  have H4 : Hid (SumAt w4 w.heap.size (([] ++ bytesL sA) ++ bytesL sB) ∧ Below w.heap.size w w4) := ⟨H3.out.1.below h4, below_two H3.out.2 h4⟩
  clear h4 H3
  go_wp2_with fail
  refine (now_any w.heap.size _ w4 H4.out.1).mono ?_
  rw [sum_AB]
  rintro e w5 ⟨rfl, hw⟩
  subst hw
  go_wp2_with fail
  refine (four_any 1 w5 (by decide)).mono ?_
  rw [four_1]
  rintro e w6 ⟨rfl, h6⟩
  have H6 : Hid (Below w.heap.size w w6) := below_two H4.out.2 h6
  clear h6 H4
  go_wp2_with fail
  refine (num_any sD w6 (by decide)).mono ?_
  rw [num_D]
  rintro e w7 ⟨rfl, n, rfl⟩
  have H7 : Hid (Below w.heap.size w (w6.drewN n)) := below_drewN H6.out n
  clear H6
  go_wp2_with fail
  refine (is_any { data := #[] } 0 _ (HT.out.below H7.out) (by decide) (by decide)).mono ?_
  rw [sum_0]
  rintro e w8 ⟨rfl, h8⟩
  have H8 : Hid (Below w.heap.size w w8) := below_two H7.out h8
  clear h8 H7
  go_wp2_with fail
  refine (is_any sE 0 w8 (HT.out.below H8.out) (by decide) (by decide)).mono ?_
  rw [sum_E]
  rintro e w9 ⟨rfl, h9⟩
  go_wp2
  go_ret
  exact ⟨rfl, below_two H8.out h9⟩
end Crc
end Go.Proofs.YtlgblkhkohhhkaaDoor
