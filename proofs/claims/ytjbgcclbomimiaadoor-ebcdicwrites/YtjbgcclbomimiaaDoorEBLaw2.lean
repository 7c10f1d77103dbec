/-
  What the laws on both machines of layer 8 share. No statement of the program; no condition.
-/
import Derived.Test.YtjbgcclbomimiaaDoorEBWr2
import Derived.Test.YtjbgcclbomimiaaDoorEBAwk
import Derived.Test.YtjbgcclbomimiaaDoorEBGrt
import Derived.Test.YtjbgcclbomimiaaDoorPair
namespace Go.Proofs.YtjbgcclbomimiaaDoor
open Go.ChangeShapes Go.WideShapes Go.ChangeAt Go.RowKit
namespace EB
open Bas Sca Stp Scn Cod
set_option linter.unusedVariables false

theorem came_seg {w : World} {v : Value} {L : List Int} {b : Nat} {vE : Value} (h : Seg .u32 w v L) (hf : ∀ g, v.ownBlock = some g → ¬ footE b vE g) : Came w v L b vE := by
  rcases h with ⟨rfl, rfl⟩ | ⟨g, off, cap, rfl, hg, h1, h2, h3, h4, h5⟩
  · exact .inl ⟨none, rfl, rfl⟩
  · exact .inr ⟨g, off, cap, rfl, h1, h2, ⟨g, off, fun _ => rfl, h3⟩, fun _ => hf g rfl⟩
/-- A text that is read to its end without an error is what is written of its scalars. -/
theorem whole_text (π : Par) (s : ByteArray) (X : Res St) (hX : X = scan (stepU π) (st0 π) (bytesL s)) (hq : endQ X = 0) : Stp.strOf (allOf (oneN π) X.told) = s ∧ ∀ c ∈ X.told, isB c = true ∧ 0 ≤ c := by
  have hbad : X.bad = false ∧ rest X.st = true := by
    unfold endQ at hq
    split at hq
    · omega
    · split at hq
      · exact ⟨by simpa using (by assumption : ¬ X.bad = true), by assumption⟩
      · omega
  have hst : X.st = [] := by simpa [rest] using hbad.2
  have hX' : X = scan (stepU π) [] (bytesL s) := hX
  obtain ⟨f1, f2⟩ := whole_bytes π (bytesL s) (bytesL_byte s) (by rw [← hX']; exact hbad.1) (by rw [← hX']; exact hst)
  rw [← hX'] at f1 f2
  exact ⟨by rw [allOf_bytes (oneN π) _ (fun c hc => (f2 c hc).1), f1, strOf_bytesL], f2⟩
end EB
end Go.Proofs.YtjbgcclbomimiaaDoor
