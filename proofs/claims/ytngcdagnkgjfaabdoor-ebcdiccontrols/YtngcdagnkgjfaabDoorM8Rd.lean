/-
  The contract of the law's own 'read': a text in whatever parts, with whatever room, as a walk over the translated text. The condition: the decoder is a new one; text and lists are small.
-/
import Derived.Test.YtngcdagnkgjfaabDoorM8Feed
import Derived.Deep.CutBlock
import Derived.Deep.DeepCutAuto
namespace Go.Proofs.YtngcdagnkgjfaabDoor
open Go.ChangeShapes Go.WideShapes Go.ChangeAt Go.RowKit
namespace M8
open Bas Sca Stp Scn Cod
set_option linter.unusedVariables false
variable {π : Par}

/-- Behind a whole text and End: the error, has it ended? -/
def endQ (X : Res St) : Int := if X.bad = true then 3 else if rest X.st = true then 0 else 4
def endE (X : Res St) : Bool := !X.bad && rest X.st
/-- What 'read' leaves. -/
def ReadQ (π : Par) (b : Nat) (v u : Value) (X : Res St) (vo : Value) (w w' : World) : Prop :=
  ∃ v' u', Seg .u32 w' vo X.told ∧ (∀ g, vo.ownBlock = some g → w.heap.size ≤ g) ∧ DecV π w' b X.eaten (endQ X) (endE X) X.st [] v' u' ∧ Chg (fun k _ => footD b v u k) w w'

theorem fld (q a : Int) (w : World) : (Instr.field 42 (.agg #[.int .i64 q, .int .i64 a]) 0).run Tryd.prog w = .ok (.int .i64 q) w := by kernel_rfl
theorem endQ_eq (X : Res St) (q : Int) (hq : q = if X.bad = true then 3 else 0) : (if rest X.st = true then q else stopI q false 4) = endQ X ∧ endB (if rest X.st = true then q else stopI q false 4) false = endE X ∧ goB (endQ X) (endE X) = false := by
  obtain ⟨t, n, st, bad⟩ := X
  subst hq
  cases bad <;> cases h : rest st <;> simp [endQ, endE, h, stopI, endB, goB]
theorem read_fin {b : Nat} {p : Int} {v u v2 u2 vo : Value} {X : Res St} {q : Int} {en : Bool} {w w5 : World} (hX : p = X.eaten) (hq : q = endQ X) (hen : en = endE X) (hs : Seg .u32 w5 vo X.told) (hf : ∀ g, vo.ownBlock = some g → w.heap.size ≤ g)
    (D : DecV π w5 b p q en X.st [] v2 u2) (C : Chg (fun k _ => footD b v u k) w w5) : ReadQ π b v u X vo w w5 := by
  subst hX hq hen
  exact ⟨v2, u2, hs, hf, D, C⟩

end M8
end Go.Proofs.YtngcdagnkgjfaabDoor
