/-
  The contract of the document's Read of layer 8, as a walk over the translated text. The condition: the text is small.
-/
import Derived.Test.YtjbgcclbomimiaaDoorEBRd
import Derived.Test.YtjbgcclbomimiaaDoorM8RRd
import Derived.Test.YtjbgcclbomimiaaDoorPerRf3
namespace Go.Proofs.YtjbgcclbomimiaaDoor
open Go.ChangeShapes Go.WideShapes Go.ChangeAt Go.RowKit
namespace EB
open Bas Sca Stp Scn Cod
set_option linter.unusedVariables false
variable {π : Par}

theorem back_scan (str : ByteArray) (s : St) : scan (M8.stepU ()) s (bytesL (Txt.strOf (Per.turnL Per.frL (bytesL str)))) = scan (stepU π) s (bytesL str) := by
  rw [back_bytes, scan_turn]
theorem endQ_in (X : Res St) : M8.endQ X = endQ X := rfl
/-- What Read leaves. -/
def RReadQ (X : Res St) (vo : Value) (w w' : World) : Prop := Seg .u32 w' vo X.told ∧ (∀ g, vo.ownBlock = some g → w.heap.size ≤ g) ∧ Below w.heap.size w w'
set_option maxHeartbeats 1000000 in
theorem rRead_any (str : ByteArray) (X : Res St) (w : World) (hX : X = scan (stepU π) (st0 π) (bytesL str)) (hs : str.size ≤ 100000) :
    Calls Tryd.prog 36 #[.string str] w fun e w' => ∃ vo, e = .returned (.tuple #[vo, .int .i64 (endQ X), .int .i64 X.eaten]) ∧ RReadQ X vo w w' := by
  have HX : Hid (X = scan (M8.stepU ()) (M8.st0 ()) (bytesL (Txt.strOf (Per.turnL Per.frL (bytesL str))))) := by
    show _ = _
    rw [back_scan (π := π)]; exact hX
  have hts : (Txt.strOf (Per.turnL Per.frL (bytesL str))).size ≤ 100000 := by rw [Txt.strOf_size, Per.turnL_len, bytesL_length]; omega
  clear hX
  go_enter Tryd.func36, Tryd.ntmps36
  go_wp2_with fail
  refine (Per.rBack_any str w (by omega)).mono ?_
  rintro e w1 ⟨rfl, b1⟩
  have HB1 : Hid (Below w.heap.size w w1) := b1
  clear b1
  go_wp2_with fail
  refine (M8.rRead_any (π := ()) _ X w1 HX.out hts).mono ?_
  rintro e w2 ⟨vo, rfl, s2, f2, b2⟩
  have HQ : Hid (RReadQ X vo w w2) := ⟨s2, fun g hg => by have := f2 g hg; have := HB1.out.size; omega, below_two HB1.out b2⟩
  rw [endQ_in]
  clear s2 f2 b2 HX
  go_wp2
  go_ret3
  exact ⟨vo, rfl, HQ.out⟩
end EB
end Go.Proofs.YtjbgcclbomimiaaDoor
