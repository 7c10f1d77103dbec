/-
  The contract of the document's 'ahead' of layer 10, as a walk over the translated text. No condition.
-/
import Derived.Test.YtemgbmacdpnepaaPunOrd
import Derived.Test.YtemgbmacdpnepaaRefO
namespace Go.Proofs.Ytemgbmacdpnepaa
open Go.ChangeShapes Go.WideShapes Go.ChangeAt Go.RowKit
namespace Pun
open Bas Sca
set_option linter.unusedVariables false

set_option maxHeartbeats 2000000 in
theorem rAhead_at (g of n c i k : Nat) (x y : Int) (w : World) (hx : w.cell? ⟨g, of + i, none⟩ = some (.int .u32 x)) (hy : w.cell? ⟨g, of + k, none⟩ = some (.int .u32 y)) (hi : i < n) (hk : k < n) :
    Calls Try.prog 34 #[.slice (some ⟨g, of, none⟩) n c, .int .i64 i, .int .i64 k] w fun e w' => e = .returned (.bool (if x < 128 ∨ y < 128 then decide (x < 128) && decide (128 ≤ y) else decide (x < y) || (decide (x = y) && decide (i < k)))) ∧ ∃ m, w' = w.drewN m := by
  have i1 : (i : Int) < (n : Int) := by omega
  have i2 : (k : Int) < (n : Int) := by omega
  by_cases h1 : x < 128
  · rw [if_pos (.inl h1), decide_eq_true h1, Bool.true_and]
    by_cases h2 : 128 ≤ y
    · rw [decide_eq_true h2]
      have h3 : y ≥ 128 := h2
      go_enter Try.func34, Try.ntmps34
      go_wp2
      go_ret
      exact ⟨rfl, 0, rfl⟩
    · rw [decide_eq_false h2]
      have h3 : ¬ y ≥ 128 := h2
      go_enter Try.func34, Try.ntmps34
      go_wp2
      go_ret
      exact ⟨rfl, 0, rfl⟩
  · by_cases h2 : y < 128
    · rw [if_pos (.inr h2), decide_eq_false h1, Bool.false_and]
      go_enter Try.func34, Try.ntmps34
      go_wp2
      go_ret
      exact ⟨rfl, 0, rfl⟩
    · rw [if_neg (by omega)]
      by_cases h3 : x < y
      · rw [decide_eq_true h3, Bool.true_or]
        go_enter Try.func34, Try.ntmps34
        go_wp2
        go_quiet (fail)
        go_wp2
        go_ret
        exact ⟨rfl, _, rfl⟩
      · rw [decide_eq_false h3, Bool.false_or]
        by_cases h4 : x = y
        · subst h4
          rw [decide_eq_true rfl, Bool.true_and]
          by_cases h5 : i < k
          · rw [decide_eq_true h5]
            have h6 : (i : Int) < (k : Int) := by omega
            go_enter Try.func34, Try.ntmps34
            go_wp2
            go_quiet (fail)
            go_wp2
            go_ret
            exact ⟨rfl, _, rfl⟩
          · rw [decide_eq_false h5]
            have h6 : ¬ (i : Int) < (k : Int) := by omega
            go_enter Try.func34, Try.ntmps34
            go_wp2
            go_quiet (fail)
            go_wp2
            go_ret
            exact ⟨rfl, _, rfl⟩
        · rw [decide_eq_false h4, Bool.false_and]
          have h6 : (x == y) = false := by simp [h4]
          go_enter Try.func34, Try.ntmps34
          go_wp2
          go_quiet (fail)
          go_wp2
          go_ret
          exact ⟨ret_bool (decide_eq_false (by omega)), _, rfl⟩
theorem rAhead_any (g of n c i k : Nat) (L : List Int) (w : World) (hr : Row .u32 w (some ⟨g, of, none⟩) L) (hl : L.length = n) (hi : i < n) (hk : k < n) :
    Calls Try.prog 34 #[.slice (some ⟨g, of, none⟩) n c, .int .i64 i, .int .i64 k] w fun e w' => e = .returned (.bool (aheadB L i k)) ∧ ∃ m, w' = w.drewN m := by
  obtain ⟨b, o, ha, hc⟩ := hr
  have := ha (by intro e; rw [e] at hl; simp at hl; omega)
  simp only [Option.some.injEq, Addr.mk.injEq] at this
  obtain ⟨rfl, rfl, -⟩ := this
  exact rAhead_at g of n c i k (nth L i) (nth L k) w (hc i (by omega)) (hc k (by omega)) hi hk
end Pun
end Go.Proofs.Ytemgbmacdpnepaa
