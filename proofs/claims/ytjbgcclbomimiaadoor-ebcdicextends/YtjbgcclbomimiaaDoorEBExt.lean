/-
  The contract of the document's Rest of layer 8, as a walk over the translated text: bytes with which a beginning goes on to a whole. The condition: the text is right so far, and small.
-/
import Derived.Test.YtjbgcclbomimiaaDoorEBRRd
import Derived.Test.YtjbgcclbomimiaaDoorEBByt
import Derived.Test.YtjbgcclbomimiaaDoorM8Ext
namespace Go.Proofs.YtjbgcclbomimiaaDoor
open Go.ChangeShapes Go.WideShapes Go.ChangeAt Go.RowKit
namespace EB
open Bas Sca Stp Scn Cod
set_option linter.unusedVariables false
variable {π : Par}

/-- Bytes with which what has begun becomes whole. -/
def Fine (π : Par) (st : St) (m : List Int) : Prop := (scan (stepU π) st m).bad = false ∧ (scan (stepU π) st m).st = []
theorem fine_turn {st : St} {r : ByteArray} (h : M8.Fine () st (bytesL r)) : Fine π st (bytesL (Txt.strOf (Per.turnL Per.tabL (bytesL r)))) := by
  unfold Fine
  rw [Txt.bytesL_strOf _ (turn_byte (bytesL_byte r)).1, scan_turn, fr_of_tab (bytesL_byte r)]
  exact h
set_option maxHeartbeats 1000000 in
theorem rRest_any (str : ByteArray) (X : Res St) (w : World) (hX : X = scan (stepU π) (st0 π) (bytesL str)) (hbad : X.bad = false) (hs : str.size ≤ 1000) :
    Calls Tryd.prog 41 #[.string str] w fun e w' => ∃ r : ByteArray, e = .returned (.string r) ∧ Fine π X.st (bytesL r) ∧ r.size ≤ 5 ∧ Below w.heap.size w w' := by
  have HX : Hid (X = scan (M8.stepU ()) (M8.st0 ()) (bytesL (Txt.strOf (Per.turnL Per.frL (bytesL str)))) ∧ X.bad = false) := by
    refine ⟨?_, hbad⟩
    rw [back_scan (π := π)]; exact hX
  have hts : (Txt.strOf (Per.turnL Per.frL (bytesL str))).size ≤ 1000 := by rw [Txt.strOf_size, Per.turnL_len, bytesL_length]; omega
  clear hX hbad
  go_enter Tryd.func41, Tryd.ntmps41
  go_wp2_with fail
  refine (Per.rBack_any str w (by omega)).mono ?_
  rintro e w1 ⟨rfl, b1⟩
  have HB1 : Hid (Below w.heap.size w w1) := b1
  clear b1
  go_wp2_with fail
  refine (M8.rRest_any (π := ()) _ X w1 HX.out.1 HX.out.2 hts).mono ?_
  rintro e w2 ⟨r, rfl, hf, hz, b2⟩
  have HF : Hid (Fine π X.st (bytesL (Txt.strOf (Per.turnL Per.tabL (bytesL r)))) ∧ (Txt.strOf (Per.turnL Per.tabL (bytesL r))).size ≤ 5 ∧ Below w.heap.size w w2) := ⟨fine_turn hf, by rw [Txt.strOf_size, Per.turnL_len, bytesL_length]; exact hz, below_two HB1.out b2⟩
  clear b2 HB1 HX hf
  go_wp2_with fail
  refine (Per.rText_any r w2 (by omega)).mono ?_
  rintro e w3 ⟨rfl, b3⟩
  have HB3 : Hid (Below w.heap.size w w3) := below_two HF.out.2.2 b3
  clear b3
  go_wp2
  go_ret
  exact ⟨_, rfl, HF.out.1, HF.out.2.1, HB3.out⟩
end EB
end Go.Proofs.YtjbgcclbomimiaaDoor
