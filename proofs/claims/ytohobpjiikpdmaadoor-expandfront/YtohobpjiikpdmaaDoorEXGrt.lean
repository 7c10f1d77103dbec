/-
  Contracts of the law's own 'great' and 'failed', as walks over the translated text. No condition.
-/
import Derived.Test.YtohobpjiikpdmaaDoorBase
namespace Go.Proofs.YtohobpjiikpdmaaDoor
open Go.ChangeShapes Go.WideShapes Go.ChangeAt Go.RowKit
namespace EX
open Bas
set_option linter.unusedVariables false

set_option maxHeartbeats 1000000 in
theorem great_any (n : Int) (a1 a2 : Option Addr) (n1 c1 n2 c2 : Nat) (w : World) :
    Calls Tryd.prog 10 #[.int .i64 n, .slice a1 n1 c1, .slice a2 n2 c2] w fun e w' => e = .returned (.bool (decide (n > 400) || (decide (n1 > 200) || decide (n2 > 200)))) ∧ w' = w := by
  by_cases h1 : n > 400
  · rw [decide_eq_true h1, Bool.true_or]
    go_enter Tryd.func10, Tryd.ntmps10
    go_wp2
    go_ret
    exact ⟨rfl, rfl⟩
  · rw [decide_eq_false h1, Bool.false_or]
    by_cases h2 : n1 > 200
    · have h2' : (n1 : Int) > 200 := by omega
      rw [decide_eq_true h2, Bool.true_or]
      go_enter Tryd.func10, Tryd.ntmps10
      go_wp2
      go_ret
      exact ⟨rfl, rfl⟩
    · have h2' : ¬ (n1 : Int) > 200 := by omega
      rw [decide_eq_false h2, Bool.false_or]
      by_cases h3 : n2 > 200
      · have h3' : (n2 : Int) > 200 := by omega
        rw [decide_eq_true h3]
        go_enter Tryd.func10, Tryd.ntmps10
        go_wp2
        go_ret
        exact ⟨rfl, rfl⟩
      · have h3' : ¬ (n2 : Int) > 200 := by omega
        rw [decide_eq_false h3]
        go_enter Tryd.func10, Tryd.ntmps10
        go_wp2
        go_ret
        exact ⟨rfl, rfl⟩
set_option maxHeartbeats 1000000 in
theorem failed_any (q a : Int) (w : World) :
    Calls Tryd.prog 16 #[.int .i64 q, .int .i64 a] w fun e w' => e = .returned (.agg #[.int .i64 q, .int .i64 (if q = 0 then 0 else a)]) ∧ Below w.heap.size w w' := by
  by_cases hq : q = 0
  · subst hq
    rw [if_pos rfl]
    go_enter Tryd.func16, Tryd.ntmps16
    go_wp2
    exact bodyPost_ret (v := .agg #[.int .i64 0, .int .i64 0]) (by simp [results, Tryd.results16, go_sem]) rfl ⟨rfl, (Below.refl _ _).alloc (Nat.le_refl _) _⟩
  · have hb : (q == 0) = false := by simp [hq]
    rw [if_neg hq]
    clear hq
    go_enter Tryd.func16, Tryd.ntmps16
    go_wp2
    exact bodyPost_ret (v := .agg #[.int .i64 q, .int .i64 a]) (by simp [results, Tryd.results16, go_sem]) rfl ⟨rfl, (Below.refl _ _).alloc (Nat.le_refl _) _⟩
end EX
end Go.Proofs.YtohobpjiikpdmaaDoor
