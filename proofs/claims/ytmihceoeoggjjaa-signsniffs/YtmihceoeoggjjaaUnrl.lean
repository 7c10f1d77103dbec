/-
  A loop of few rounds, walked round by round. No statement of the program; no condition.
-/
import Derived.Test.YtmihceoeoggjjaaBase
namespace Go.Proofs.Ytmihceoeoggjjaa
open Go.ChangeShapes Go.WideShapes Go.ChangeAt Go.RowKit
namespace Bas
set_option linter.unusedVariables false
section
variable {P : Program} {Q : Exit → Act → World → Prop} {c : Code}
/-- The loop's body, n rounds and the last one. -/
def Chain (P : Program) (c : Code) (Q : Exit → Act → World → Prop) : Nat → Act → World → Prop
  | 0, a, w => c.wp P (Exit.then (fun _ _ => False) Q) a w
  | n + 1, a, w => c.wp P (Exit.then (Chain P c Q n) Q) a w
theorem least_of {p : Nat → Prop} {n : Nat} (h : p n) : ∃ k, p k ∧ ∀ m, p m → k ≤ m := by
  induction n using Nat.strongRecOn with
  | ind n ih =>
    by_cases e : ∃ m, m < n ∧ p m
    · obtain ⟨m, h1, h2⟩ := e; exact ih m h1 h2
    · exact ⟨n, h, fun m hm => Nat.le_of_not_lt fun hl => e ⟨m, hl, hm⟩⟩
theorem least_ex {p : Nat → Prop} (h : ∃ n, p n) : ∃ k, p k ∧ ∀ m, p m → k ≤ m := by
  obtain ⟨n, h⟩ := h; exact least_of h
theorem wp_loop_chain {a : Act} {w : World} (n : Nat) (h : Chain P c Q n a w) : (Code.loop c).wp P Q a w := by
  classical
  let μ : Act → World → Nat := fun a w => if h : ∃ n, Chain P c Q n a w then Classical.choose (least_ex h) else 0
  have hμ : ∀ a w n, Chain P c Q n a w → μ a w ≤ n ∧ Chain P c Q (μ a w) a w := by
    intro a w n h
    have hx : ∃ n, Chain P c Q n a w := ⟨n, h⟩
    have hs := Classical.choose_spec (least_ex hx)
    have e : μ a w = Classical.choose (least_ex hx) := dif_pos hx
    rw [e]
    exact ⟨hs.2 n h, hs.1⟩
  refine wp_loop (fun a w => ∃ n, Chain P c Q n a w) μ ⟨n, h⟩ ?_
  rintro a w ⟨n, hn⟩
  obtain ⟨-, hm⟩ := hμ a w n hn
  cases hk : μ a w with
  | zero =>
    rw [hk] at hm
    exact Code.wp_mono (fun e a' w' q => by cases e <;> first | exact q | exact q.elim) hm
  | succ k =>
    rw [hk] at hm
    refine Code.wp_mono (fun e a' w' q => ?_) hm
    cases e <;> first | exact q | skip
    have q' : Chain P c Q k a' w' := q
    obtain ⟨h1, -⟩ := hμ a' w' k q'
    exact ⟨⟨k, q'⟩, by omega⟩
end
end Bas
end Go.Proofs.Ytmihceoeoggjjaa
