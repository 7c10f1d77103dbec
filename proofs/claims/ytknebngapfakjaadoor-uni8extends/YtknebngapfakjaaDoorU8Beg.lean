/-
  Contracts of the document's Size, Some and Begins of layer 3, as walks over the translated text. The condition of Begins: its text is a beginning of a scalar's bytes, and one byte more.
-/
import Derived.Test.YtknebngapfakjaaDoorU8Feed
namespace Go.Proofs.YtknebngapfakjaaDoor
open Go.ChangeShapes Go.WideShapes Go.ChangeAt Go.RowKit
namespace U8
open Bas Sca Stp Scn
set_option linter.unusedVariables false
set_option linter.unusedSimpArgs false

theorem ret_ib {a b : Int} {c d : Bool} (h : a = b) (h2 : c = d) : Ending.returned (.tuple #[.int .u32 a, .bool c]) = .returned (.tuple #[.int .u32 b, .bool d]) := by rw [h, h2]
set_option maxHeartbeats 1000000 in
theorem size_any (c : Int) (w : World) :
    Calls Tryd.prog 30 #[.int .u32 c] w fun e w' => e = .returned (.int .i64 (sizeN c)) ∧ w' = w := by
  by_cases h1 : c < 128
  · rw [show sizeN c = 1 by simp [sizeN, h1]]
    go_enter Tryd.func30, Tryd.ntmps30
    go_wp2
    go_ret
    exact ⟨rfl, rfl⟩
  · by_cases h2 : c < 2048
    · rw [show sizeN c = 2 by simp [sizeN, h1, h2]]
      go_enter Tryd.func30, Tryd.ntmps30
      go_wp2
      go_ret
      exact ⟨rfl, rfl⟩
    · by_cases h3 : c < 65536
      · rw [show sizeN c = 3 by simp [sizeN, h1, h2, h3]]
        go_enter Tryd.func30, Tryd.ntmps30
        go_wp2
        go_ret
        exact ⟨rfl, rfl⟩
      · rw [show sizeN c = 4 by simp [sizeN, h1, h2, h3]]
        go_enter Tryd.func30, Tryd.ntmps30
        go_wp2
        go_ret
        exact ⟨rfl, rfl⟩
/-- The least and the greatest scalar of so many bytes, from so much to so much. -/
def leastN (n : Nat) : Int := if n = 2 then 128 else if n = 3 then 2048 else if n = 4 then 65536 else 0
def mostN (n : Nat) : Int := if n = 1 then 127 else if n = 2 then 2047 else if n = 3 then 65535 else 1114111
def someLo (lo : Int) (n : Nat) : Int := if 55296 ≤ (if lo < leastN n then leastN n else lo) ∧ (if lo < leastN n then leastN n else lo) ≤ 57343 then 57344 else if lo < leastN n then leastN n else lo
def someHi (hi : Int) (n : Nat) : Int := if mostN n < hi then mostN n else hi

theorem some_lo1 (lo : Int) : someLo lo 1 = if 55296 ≤ (if lo < 0 then 0 else lo) ∧ (if lo < 0 then 0 else lo) ≤ 57343 then 57344 else if lo < 0 then 0 else lo := rfl
theorem some_hi1 (hi : Int) : someHi hi 1 = if 127 < hi then 127 else hi := rfl
set_option maxHeartbeats 4000000 in
theorem some1 (lo hi : Int) (w : World) (h0 : 0 ≤ lo) :
    Calls Tryd.prog 47 #[.int .u32 lo, .int .u32 hi, .int .i64 1] w fun e w' => e = .returned (.tuple #[.int .u32 (someLo lo 1), .bool (decide (someLo lo 1 ≤ someHi hi 1))]) ∧ Below w.heap.size w w' := by
  rw [some_lo1, some_hi1]
  have hb : ∀ o o2, Below w.heap.size w ((w.alloc o).alloc o2) := fun o o2 => ((Below.refl _ _).alloc (Nat.le_refl _) _).alloc (by simp) _

  by_cases h2 : 127 < hi
  · rw [if_pos h2]
    by_cases h1 : lo < 0
    · rw [if_pos h1, if_neg (show ¬ (55296 ≤ (0 : Int) ∧ (0 : Int) ≤ 57343) by omega)]
      first
        | (exfalso; omega)
        | (go_enter Tryd.func47, Tryd.ntmps47; go_wp2; go_ret2; exact ⟨rfl, hb _ _⟩)
    · rw [if_neg h1]
      by_cases h3 : 55296 ≤ lo
      · by_cases h4 : lo ≤ 57343
        · rw [if_pos ⟨h3, h4⟩]
          first
            | (exfalso; omega)
            | (go_enter Tryd.func47, Tryd.ntmps47; go_wp2; go_ret2; exact ⟨rfl, hb _ _⟩)
        · rw [if_neg (show ¬ (55296 ≤ lo ∧ lo ≤ 57343) by omega)]
          by_cases h5 : lo ≤ 127
          · rw [decide_eq_true h5]
            first
              | (exfalso; omega)
              | (go_enter Tryd.func47, Tryd.ntmps47; go_wp2; go_ret2; exact ⟨rfl, hb _ _⟩)
          · rw [decide_eq_false h5]
            first
              | (exfalso; omega)
              | (go_enter Tryd.func47, Tryd.ntmps47; go_wp2; go_ret2; exact ⟨rfl, hb _ _⟩)
      · rw [if_neg (show ¬ (55296 ≤ lo ∧ lo ≤ 57343) by omega)]
        by_cases h5 : lo ≤ 127
        · rw [decide_eq_true h5]
          first
            | (exfalso; omega)
            | (go_enter Tryd.func47, Tryd.ntmps47; go_wp2; go_ret2; exact ⟨rfl, hb _ _⟩)
        · rw [decide_eq_false h5]
          first
            | (exfalso; omega)
            | (go_enter Tryd.func47, Tryd.ntmps47; go_wp2; go_ret2; exact ⟨rfl, hb _ _⟩)
  · rw [if_neg h2]
    by_cases h1 : lo < 0
    · rw [if_pos h1, if_neg (show ¬ (55296 ≤ (0 : Int) ∧ (0 : Int) ≤ 57343) by omega)]
      by_cases h5 : (0 : Int) ≤ hi
      · rw [decide_eq_true h5]
        first
          | (exfalso; omega)
          | (go_enter Tryd.func47, Tryd.ntmps47; go_wp2; go_ret2; exact ⟨rfl, hb _ _⟩)
      · rw [decide_eq_false h5]
        first
          | (exfalso; omega)
          | (go_enter Tryd.func47, Tryd.ntmps47; go_wp2; go_ret2; exact ⟨rfl, hb _ _⟩)
    · rw [if_neg h1]
      by_cases h3 : 55296 ≤ lo
      · by_cases h4 : lo ≤ 57343
        · rw [if_pos ⟨h3, h4⟩]
          by_cases h5 : (57344 : Int) ≤ hi
          · rw [decide_eq_true h5]
            first
              | (exfalso; omega)
              | (go_enter Tryd.func47, Tryd.ntmps47; go_wp2; go_ret2; exact ⟨rfl, hb _ _⟩)
          · rw [decide_eq_false h5]
            first
              | (exfalso; omega)
              | (go_enter Tryd.func47, Tryd.ntmps47; go_wp2; go_ret2; exact ⟨rfl, hb _ _⟩)
        · rw [if_neg (show ¬ (55296 ≤ lo ∧ lo ≤ 57343) by omega)]
          by_cases h5 : lo ≤ hi
          · rw [decide_eq_true h5]
            first
              | (exfalso; omega)
              | (go_enter Tryd.func47, Tryd.ntmps47; go_wp2; go_ret2; exact ⟨rfl, hb _ _⟩)
          · rw [decide_eq_false h5]
            first
              | (exfalso; omega)
              | (go_enter Tryd.func47, Tryd.ntmps47; go_wp2; go_ret2; exact ⟨rfl, hb _ _⟩)
      · rw [if_neg (show ¬ (55296 ≤ lo ∧ lo ≤ 57343) by omega)]
        by_cases h5 : lo ≤ hi
        · rw [decide_eq_true h5]
          first
            | (exfalso; omega)
            | (go_enter Tryd.func47, Tryd.ntmps47; go_wp2; go_ret2; exact ⟨rfl, hb _ _⟩)
        · rw [decide_eq_false h5]
          first
            | (exfalso; omega)
            | (go_enter Tryd.func47, Tryd.ntmps47; go_wp2; go_ret2; exact ⟨rfl, hb _ _⟩)

theorem some_lo2 (lo : Int) : someLo lo 2 = if 55296 ≤ (if lo < 128 then 128 else lo) ∧ (if lo < 128 then 128 else lo) ≤ 57343 then 57344 else if lo < 128 then 128 else lo := rfl
theorem some_hi2 (hi : Int) : someHi hi 2 = if 2047 < hi then 2047 else hi := rfl
set_option maxHeartbeats 4000000 in
theorem some2 (lo hi : Int) (w : World) (h0 : 0 ≤ lo) :
    Calls Tryd.prog 47 #[.int .u32 lo, .int .u32 hi, .int .i64 2] w fun e w' => e = .returned (.tuple #[.int .u32 (someLo lo 2), .bool (decide (someLo lo 2 ≤ someHi hi 2))]) ∧ Below w.heap.size w w' := by
  rw [some_lo2, some_hi2]
  have hb : ∀ o o2, Below w.heap.size w ((w.alloc o).alloc o2) := fun o o2 => ((Below.refl _ _).alloc (Nat.le_refl _) _).alloc (by simp) _

  by_cases h2 : 2047 < hi
  · rw [if_pos h2]
    by_cases h1 : lo < 128
    · rw [if_pos h1, if_neg (show ¬ (55296 ≤ (128 : Int) ∧ (128 : Int) ≤ 57343) by omega)]
      first
        | (exfalso; omega)
        | (go_enter Tryd.func47, Tryd.ntmps47; go_wp2; go_ret2; exact ⟨rfl, hb _ _⟩)
    · rw [if_neg h1]
      by_cases h3 : 55296 ≤ lo
      · by_cases h4 : lo ≤ 57343
        · rw [if_pos ⟨h3, h4⟩]
          first
            | (exfalso; omega)
            | (go_enter Tryd.func47, Tryd.ntmps47; go_wp2; go_ret2; exact ⟨rfl, hb _ _⟩)
        · rw [if_neg (show ¬ (55296 ≤ lo ∧ lo ≤ 57343) by omega)]
          by_cases h5 : lo ≤ 2047
          · rw [decide_eq_true h5]
            first
              | (exfalso; omega)
              | (go_enter Tryd.func47, Tryd.ntmps47; go_wp2; go_ret2; exact ⟨rfl, hb _ _⟩)
          · rw [decide_eq_false h5]
            first
              | (exfalso; omega)
              | (go_enter Tryd.func47, Tryd.ntmps47; go_wp2; go_ret2; exact ⟨rfl, hb _ _⟩)
      · rw [if_neg (show ¬ (55296 ≤ lo ∧ lo ≤ 57343) by omega)]
        by_cases h5 : lo ≤ 2047
        · rw [decide_eq_true h5]
          first
            | (exfalso; omega)
            | (go_enter Tryd.func47, Tryd.ntmps47; go_wp2; go_ret2; exact ⟨rfl, hb _ _⟩)
        · rw [decide_eq_false h5]
          first
            | (exfalso; omega)
            | (go_enter Tryd.func47, Tryd.ntmps47; go_wp2; go_ret2; exact ⟨rfl, hb _ _⟩)
  · rw [if_neg h2]
    by_cases h1 : lo < 128
    · rw [if_pos h1, if_neg (show ¬ (55296 ≤ (128 : Int) ∧ (128 : Int) ≤ 57343) by omega)]
      by_cases h5 : (128 : Int) ≤ hi
      · rw [decide_eq_true h5]
        first
          | (exfalso; omega)
          | (go_enter Tryd.func47, Tryd.ntmps47; go_wp2; go_ret2; exact ⟨rfl, hb _ _⟩)
      · rw [decide_eq_false h5]
        first
          | (exfalso; omega)
          | (go_enter Tryd.func47, Tryd.ntmps47; go_wp2; go_ret2; exact ⟨rfl, hb _ _⟩)
    · rw [if_neg h1]
      by_cases h3 : 55296 ≤ lo
      · by_cases h4 : lo ≤ 57343
        · rw [if_pos ⟨h3, h4⟩]
          by_cases h5 : (57344 : Int) ≤ hi
          · rw [decide_eq_true h5]
            first
              | (exfalso; omega)
              | (go_enter Tryd.func47, Tryd.ntmps47; go_wp2; go_ret2; exact ⟨rfl, hb _ _⟩)
          · rw [decide_eq_false h5]
            first
              | (exfalso; omega)
              | (go_enter Tryd.func47, Tryd.ntmps47; go_wp2; go_ret2; exact ⟨rfl, hb _ _⟩)
        · rw [if_neg (show ¬ (55296 ≤ lo ∧ lo ≤ 57343) by omega)]
          by_cases h5 : lo ≤ hi
          · rw [decide_eq_true h5]
            first
              | (exfalso; omega)
              | (go_enter Tryd.func47, Tryd.ntmps47; go_wp2; go_ret2; exact ⟨rfl, hb _ _⟩)
          · rw [decide_eq_false h5]
            first
              | (exfalso; omega)
              | (go_enter Tryd.func47, Tryd.ntmps47; go_wp2; go_ret2; exact ⟨rfl, hb _ _⟩)
      · rw [if_neg (show ¬ (55296 ≤ lo ∧ lo ≤ 57343) by omega)]
        by_cases h5 : lo ≤ hi
        · rw [decide_eq_true h5]
          first
            | (exfalso; omega)
            | (go_enter Tryd.func47, Tryd.ntmps47; go_wp2; go_ret2; exact ⟨rfl, hb _ _⟩)
        · rw [decide_eq_false h5]
          first
            | (exfalso; omega)
            | (go_enter Tryd.func47, Tryd.ntmps47; go_wp2; go_ret2; exact ⟨rfl, hb _ _⟩)

theorem some_lo3 (lo : Int) : someLo lo 3 = if 55296 ≤ (if lo < 2048 then 2048 else lo) ∧ (if lo < 2048 then 2048 else lo) ≤ 57343 then 57344 else if lo < 2048 then 2048 else lo := rfl
theorem some_hi3 (hi : Int) : someHi hi 3 = if 65535 < hi then 65535 else hi := rfl
set_option maxHeartbeats 4000000 in
theorem some3 (lo hi : Int) (w : World) (h0 : 0 ≤ lo) :
    Calls Tryd.prog 47 #[.int .u32 lo, .int .u32 hi, .int .i64 3] w fun e w' => e = .returned (.tuple #[.int .u32 (someLo lo 3), .bool (decide (someLo lo 3 ≤ someHi hi 3))]) ∧ Below w.heap.size w w' := by
  rw [some_lo3, some_hi3]
  have hb : ∀ o o2, Below w.heap.size w ((w.alloc o).alloc o2) := fun o o2 => ((Below.refl _ _).alloc (Nat.le_refl _) _).alloc (by simp) _

  by_cases h2 : 65535 < hi
  · rw [if_pos h2]
    by_cases h1 : lo < 2048
    · rw [if_pos h1, if_neg (show ¬ (55296 ≤ (2048 : Int) ∧ (2048 : Int) ≤ 57343) by omega)]
      first
        | (exfalso; omega)
        | (go_enter Tryd.func47, Tryd.ntmps47; go_wp2; go_ret2; exact ⟨rfl, hb _ _⟩)
    · rw [if_neg h1]
      by_cases h3 : 55296 ≤ lo
      · by_cases h4 : lo ≤ 57343
        · rw [if_pos ⟨h3, h4⟩]
          first
            | (exfalso; omega)
            | (go_enter Tryd.func47, Tryd.ntmps47; go_wp2; go_ret2; exact ⟨rfl, hb _ _⟩)
        · rw [if_neg (show ¬ (55296 ≤ lo ∧ lo ≤ 57343) by omega)]
          by_cases h5 : lo ≤ 65535
          · rw [decide_eq_true h5]
            first
              | (exfalso; omega)
              | (go_enter Tryd.func47, Tryd.ntmps47; go_wp2; go_ret2; exact ⟨rfl, hb _ _⟩)
          · rw [decide_eq_false h5]
            first
              | (exfalso; omega)
              | (go_enter Tryd.func47, Tryd.ntmps47; go_wp2; go_ret2; exact ⟨rfl, hb _ _⟩)
      · rw [if_neg (show ¬ (55296 ≤ lo ∧ lo ≤ 57343) by omega)]
        by_cases h5 : lo ≤ 65535
        · rw [decide_eq_true h5]
          first
            | (exfalso; omega)
            | (go_enter Tryd.func47, Tryd.ntmps47; go_wp2; go_ret2; exact ⟨rfl, hb _ _⟩)
        · rw [decide_eq_false h5]
          first
            | (exfalso; omega)
            | (go_enter Tryd.func47, Tryd.ntmps47; go_wp2; go_ret2; exact ⟨rfl, hb _ _⟩)
  · rw [if_neg h2]
    by_cases h1 : lo < 2048
    · rw [if_pos h1, if_neg (show ¬ (55296 ≤ (2048 : Int) ∧ (2048 : Int) ≤ 57343) by omega)]
      by_cases h5 : (2048 : Int) ≤ hi
      · rw [decide_eq_true h5]
        first
          | (exfalso; omega)
          | (go_enter Tryd.func47, Tryd.ntmps47; go_wp2; go_ret2; exact ⟨rfl, hb _ _⟩)
      · rw [decide_eq_false h5]
        first
          | (exfalso; omega)
          | (go_enter Tryd.func47, Tryd.ntmps47; go_wp2; go_ret2; exact ⟨rfl, hb _ _⟩)
    · rw [if_neg h1]
      by_cases h3 : 55296 ≤ lo
      · by_cases h4 : lo ≤ 57343
        · rw [if_pos ⟨h3, h4⟩]
          by_cases h5 : (57344 : Int) ≤ hi
          · rw [decide_eq_true h5]
            first
              | (exfalso; omega)
              | (go_enter Tryd.func47, Tryd.ntmps47; go_wp2; go_ret2; exact ⟨rfl, hb _ _⟩)
          · rw [decide_eq_false h5]
            first
              | (exfalso; omega)
              | (go_enter Tryd.func47, Tryd.ntmps47; go_wp2; go_ret2; exact ⟨rfl, hb _ _⟩)
        · rw [if_neg (show ¬ (55296 ≤ lo ∧ lo ≤ 57343) by omega)]
          by_cases h5 : lo ≤ hi
          · rw [decide_eq_true h5]
            first
              | (exfalso; omega)
              | (go_enter Tryd.func47, Tryd.ntmps47; go_wp2; go_ret2; exact ⟨rfl, hb _ _⟩)
          · rw [decide_eq_false h5]
            first
              | (exfalso; omega)
              | (go_enter Tryd.func47, Tryd.ntmps47; go_wp2; go_ret2; exact ⟨rfl, hb _ _⟩)
      · rw [if_neg (show ¬ (55296 ≤ lo ∧ lo ≤ 57343) by omega)]
        by_cases h5 : lo ≤ hi
        · rw [decide_eq_true h5]
          first
            | (exfalso; omega)
            | (go_enter Tryd.func47, Tryd.ntmps47; go_wp2; go_ret2; exact ⟨rfl, hb _ _⟩)
        · rw [decide_eq_false h5]
          first
            | (exfalso; omega)
            | (go_enter Tryd.func47, Tryd.ntmps47; go_wp2; go_ret2; exact ⟨rfl, hb _ _⟩)

theorem some_lo4 (lo : Int) : someLo lo 4 = if 55296 ≤ (if lo < 65536 then 65536 else lo) ∧ (if lo < 65536 then 65536 else lo) ≤ 57343 then 57344 else if lo < 65536 then 65536 else lo := rfl
theorem some_hi4 (hi : Int) : someHi hi 4 = if 1114111 < hi then 1114111 else hi := rfl
set_option maxHeartbeats 4000000 in
theorem some4 (lo hi : Int) (w : World) (h0 : 0 ≤ lo) :
    Calls Tryd.prog 47 #[.int .u32 lo, .int .u32 hi, .int .i64 4] w fun e w' => e = .returned (.tuple #[.int .u32 (someLo lo 4), .bool (decide (someLo lo 4 ≤ someHi hi 4))]) ∧ Below w.heap.size w w' := by
  rw [some_lo4, some_hi4]
  have hb : ∀ o o2, Below w.heap.size w ((w.alloc o).alloc o2) := fun o o2 => ((Below.refl _ _).alloc (Nat.le_refl _) _).alloc (by simp) _

  by_cases h2 : 1114111 < hi
  · rw [if_pos h2]
    by_cases h1 : lo < 65536
    · rw [if_pos h1, if_neg (show ¬ (55296 ≤ (65536 : Int) ∧ (65536 : Int) ≤ 57343) by omega)]
      first
        | (exfalso; omega)
        | (go_enter Tryd.func47, Tryd.ntmps47; go_wp2; go_ret2; exact ⟨rfl, hb _ _⟩)
    · rw [if_neg h1]
      by_cases h3 : 55296 ≤ lo
      · by_cases h4 : lo ≤ 57343
        · rw [if_pos ⟨h3, h4⟩]
          first
            | (exfalso; omega)
            | (go_enter Tryd.func47, Tryd.ntmps47; go_wp2; go_ret2; exact ⟨rfl, hb _ _⟩)
        · rw [if_neg (show ¬ (55296 ≤ lo ∧ lo ≤ 57343) by omega)]
          by_cases h5 : lo ≤ 1114111
          · rw [decide_eq_true h5]
            first
              | (exfalso; omega)
              | (go_enter Tryd.func47, Tryd.ntmps47; go_wp2; go_ret2; exact ⟨rfl, hb _ _⟩)
          · rw [decide_eq_false h5]
            first
              | (exfalso; omega)
              | (go_enter Tryd.func47, Tryd.ntmps47; go_wp2; go_ret2; exact ⟨rfl, hb _ _⟩)
      · rw [if_neg (show ¬ (55296 ≤ lo ∧ lo ≤ 57343) by omega)]
        by_cases h5 : lo ≤ 1114111
        · rw [decide_eq_true h5]
          first
            | (exfalso; omega)
            | (go_enter Tryd.func47, Tryd.ntmps47; go_wp2; go_ret2; exact ⟨rfl, hb _ _⟩)
        · rw [decide_eq_false h5]
          first
            | (exfalso; omega)
            | (go_enter Tryd.func47, Tryd.ntmps47; go_wp2; go_ret2; exact ⟨rfl, hb _ _⟩)
  · rw [if_neg h2]
    by_cases h1 : lo < 65536
    · rw [if_pos h1, if_neg (show ¬ (55296 ≤ (65536 : Int) ∧ (65536 : Int) ≤ 57343) by omega)]
      by_cases h5 : (65536 : Int) ≤ hi
      · rw [decide_eq_true h5]
        first
          | (exfalso; omega)
          | (go_enter Tryd.func47, Tryd.ntmps47; go_wp2; go_ret2; exact ⟨rfl, hb _ _⟩)
      · rw [decide_eq_false h5]
        first
          | (exfalso; omega)
          | (go_enter Tryd.func47, Tryd.ntmps47; go_wp2; go_ret2; exact ⟨rfl, hb _ _⟩)
    · rw [if_neg h1]
      by_cases h3 : 55296 ≤ lo
      · by_cases h4 : lo ≤ 57343
        · rw [if_pos ⟨h3, h4⟩]
          by_cases h5 : (57344 : Int) ≤ hi
          · rw [decide_eq_true h5]
            first
              | (exfalso; omega)
              | (go_enter Tryd.func47, Tryd.ntmps47; go_wp2; go_ret2; exact ⟨rfl, hb _ _⟩)
          · rw [decide_eq_false h5]
            first
              | (exfalso; omega)
              | (go_enter Tryd.func47, Tryd.ntmps47; go_wp2; go_ret2; exact ⟨rfl, hb _ _⟩)
        · rw [if_neg (show ¬ (55296 ≤ lo ∧ lo ≤ 57343) by omega)]
          by_cases h5 : lo ≤ hi
          · rw [decide_eq_true h5]
            first
              | (exfalso; omega)
              | (go_enter Tryd.func47, Tryd.ntmps47; go_wp2; go_ret2; exact ⟨rfl, hb _ _⟩)
          · rw [decide_eq_false h5]
            first
              | (exfalso; omega)
              | (go_enter Tryd.func47, Tryd.ntmps47; go_wp2; go_ret2; exact ⟨rfl, hb _ _⟩)
      · rw [if_neg (show ¬ (55296 ≤ lo ∧ lo ≤ 57343) by omega)]
        by_cases h5 : lo ≤ hi
        · rw [decide_eq_true h5]
          first
            | (exfalso; omega)
            | (go_enter Tryd.func47, Tryd.ntmps47; go_wp2; go_ret2; exact ⟨rfl, hb _ _⟩)
        · rw [decide_eq_false h5]
          first
            | (exfalso; omega)
            | (go_enter Tryd.func47, Tryd.ntmps47; go_wp2; go_ret2; exact ⟨rfl, hb _ _⟩)

/-- Places of a beginning's bytes, from nothing to all. -/
def xx (q : List Int) (j : Nat) : Int := if j < q.length then nth q j - 128 else 0
def yy (q : List Int) (j : Nat) : Int := if j < q.length then nth q j - 128 else 63
/-- The least and the greatest number with these bits. -/
def lowQ (n : Nat) (q : List Int) : Int := if n = 1 then nth q 0 else if n = 2 then (nth q 0 - 192) * 64 + xx q 1 else if n = 3 then ((nth q 0 - 224) * 64 + xx q 1) * 64 + xx q 2 else (((nth q 0 - 240) * 64 + xx q 1) * 64 + xx q 2) * 64 + xx q 3
def highQ (n : Nat) (q : List Int) : Int := if n = 1 then nth q 0 else if n = 2 then (nth q 0 - 192) * 64 + yy q 1 else if n = 3 then ((nth q 0 - 224) * 64 + yy q 1) * 64 + yy q 2 else (((nth q 0 - 240) * 64 + yy q 1) * 64 + yy q 2) * 64 + yy q 3
/-- The least scalar whose bytes begin so. -/
def leastU (q : List Int) : Int := someLo (lowQ (needN (nth q 0)) q) (needN (nth q 0))
/-- How many bytes a first byte asks for, by its highest bits alone. -/
def nR (b : Int) : Nat := if b < 128 then 1 else if b < 192 then 0 else if b < 224 then 2 else if b < 240 then 3 else if b < 248 then 4 else 0
theorem needN_of (a : Int) : (a < 128 → needN a = 1) ∧ (128 ≤ a → a < 194 → needN a = 0) ∧ (194 ≤ a → a < 224 → needN a = 2) ∧ (224 ≤ a → a < 240 → needN a = 3) ∧ (240 ≤ a → a < 245 → needN a = 4) ∧ (245 ≤ a → needN a = 0) := by
  refine ⟨fun h => ?_, fun h h2 => ?_, fun h h2 => ?_, fun h h2 => ?_, fun h h2 => ?_, fun h => ?_⟩ <;> simp (disch := omega) only [needN, if_pos, if_neg]
theorem lo_hi2 (a : Int) : (a ≠ 224 → a ≠ 240 → loN a = 128) ∧ (a ≠ 237 → a ≠ 244 → hiN a = 191) := by
  refine ⟨fun h h2 => ?_, fun h h2 => ?_⟩ <;> simp (disch := omega) only [loN, hiN, if_pos, if_neg]
/-- A byte out of range. -/
theorem okq_out {q : List Int} {j : Nat} (h1 : 1 ≤ j) (hj : j < q.length) (h : nth q j < 128 ∨ 191 < nth q j) : okq q = false := by
  rw [Bool.eq_false_iff]
  intro ho
  match q, ho with
  | [a], ho => simp at hj; omega
  | [a, b], ho =>
    simp [okq] at ho; have := lo_hi a; simp at hj
    have e : j = 1 := by omega
    subst e; simp [nth] at h; omega
  | [a, b, c], ho =>
    simp [okq] at ho; have := lo_hi a; simp at hj
    rcases (show j = 1 ∨ j = 2 by omega) with e | e <;> subst e <;> simp [nth] at h <;> omega
  | [a, b, c, d], ho =>
    simp [okq] at ho; have := lo_hi a; simp at hj
    rcases (show j = 1 ∨ j = 2 ∨ j = 3 by omega) with e | e | e <;> subst e <;> simp [nth] at h <;> omega

theorem beg11 {a : Int} (h0 : 0 ≤ a) (h1 : a < 128) : decide (someLo (lowQ 1 [a]) 1 ≤ someHi (highQ 1 [a]) 1) = okq [a] ∧ (okq [a] = true → needN a = 1) := by
  have hn := needN_of a
  have hl := lo_hi a
  have hl2 := lo_hi2 a
  have e1 : lowQ 1 [a] = a := by simp [lowQ, xx, nth]
  have e2 : highQ 1 [a] = a := by simp [highQ, yy, nth]
  rw [e1, e2, some_lo1, some_hi1]
  constructor
  · rw [Bool.eq_iff_iff]
    simp only [okq, decide_eq_true_eq, Bool.and_eq_true]
    repeat' split
    all_goals omega
  · simp only [okq, decide_eq_true_eq, Bool.and_eq_true]
    omega

theorem beg21 {a : Int} (h0 : 192 ≤ a) (h1 : a < 224) : decide (someLo (lowQ 2 [a]) 2 ≤ someHi (highQ 2 [a]) 2) = okq [a] ∧ (okq [a] = true → needN a = 2) := by
  have hn := needN_of a
  have hl := lo_hi a
  have hl2 := lo_hi2 a
  have e1 : lowQ 2 [a] = (a - 192) * 64 := by simp [lowQ, xx, nth]
  have e2 : highQ 2 [a] = (a - 192) * 64 + 63 := by simp [highQ, yy, nth]
  rw [e1, e2, some_lo2, some_hi2]
  constructor
  · rw [Bool.eq_iff_iff]
    simp only [okq, decide_eq_true_eq, Bool.and_eq_true]
    repeat' split
    all_goals omega
  · simp only [okq, decide_eq_true_eq, Bool.and_eq_true]
    omega

theorem beg22 {a b : Int} (h0 : 192 ≤ a) (h1 : a < 224) (hb : 128 ≤ b ∧ b ≤ 191) : decide (someLo (lowQ 2 [a, b]) 2 ≤ someHi (highQ 2 [a, b]) 2) = okq [a, b] ∧ (okq [a, b] = true → needN a = 2) := by
  have hn := needN_of a
  have hl := lo_hi a
  have hl2 := lo_hi2 a
  have e1 : lowQ 2 [a, b] = (a - 192) * 64 + (b - 128) := by simp [lowQ, xx, nth]
  have e2 : highQ 2 [a, b] = (a - 192) * 64 + (b - 128) := by simp [highQ, yy, nth]
  rw [e1, e2, some_lo2, some_hi2]
  constructor
  · rw [Bool.eq_iff_iff]
    simp only [okq, decide_eq_true_eq, Bool.and_eq_true]
    repeat' split
    all_goals omega
  · simp only [okq, decide_eq_true_eq, Bool.and_eq_true]
    omega

theorem beg31 {a : Int} (h0 : 224 ≤ a) (h1 : a < 240) : decide (someLo (lowQ 3 [a]) 3 ≤ someHi (highQ 3 [a]) 3) = okq [a] ∧ (okq [a] = true → needN a = 3) := by
  have hn := needN_of a
  have hl := lo_hi a
  have hl2 := lo_hi2 a
  have e1 : lowQ 3 [a] = ((a - 224) * 64) * 64 := by simp [lowQ, xx, nth]
  have e2 : highQ 3 [a] = ((a - 224) * 64 + 63) * 64 + 63 := by simp [highQ, yy, nth]
  rw [e1, e2, some_lo3, some_hi3]
  constructor
  · rw [Bool.eq_iff_iff]
    simp only [okq, decide_eq_true_eq, Bool.and_eq_true]
    repeat' split
    all_goals omega
  · simp only [okq, decide_eq_true_eq, Bool.and_eq_true]
    omega

theorem beg32 {a b : Int} (h0 : 224 ≤ a) (h1 : a < 240) (hb : 128 ≤ b ∧ b ≤ 191) : decide (someLo (lowQ 3 [a, b]) 3 ≤ someHi (highQ 3 [a, b]) 3) = okq [a, b] ∧ (okq [a, b] = true → needN a = 3) := by
  have hn := needN_of a
  have hl := lo_hi a
  have hl2 := lo_hi2 a
  have e1 : lowQ 3 [a, b] = ((a - 224) * 64 + (b - 128)) * 64 := by simp [lowQ, xx, nth]
  have e2 : highQ 3 [a, b] = ((a - 224) * 64 + (b - 128)) * 64 + 63 := by simp [highQ, yy, nth]
  rw [e1, e2, some_lo3, some_hi3]
  constructor
  · rw [Bool.eq_iff_iff]
    simp only [okq, decide_eq_true_eq, Bool.and_eq_true]
    repeat' split
    all_goals omega
  · simp only [okq, decide_eq_true_eq, Bool.and_eq_true]
    omega

theorem beg33 {a b c : Int} (h0 : 224 ≤ a) (h1 : a < 240) (hb : 128 ≤ b ∧ b ≤ 191) (hc : 128 ≤ c ∧ c ≤ 191) : decide (someLo (lowQ 3 [a, b, c]) 3 ≤ someHi (highQ 3 [a, b, c]) 3) = okq [a, b, c] ∧ (okq [a, b, c] = true → needN a = 3) := by
  have hn := needN_of a
  have hl := lo_hi a
  have hl2 := lo_hi2 a
  have e1 : lowQ 3 [a, b, c] = ((a - 224) * 64 + (b - 128)) * 64 + (c - 128) := by simp [lowQ, xx, nth]
  have e2 : highQ 3 [a, b, c] = ((a - 224) * 64 + (b - 128)) * 64 + (c - 128) := by simp [highQ, yy, nth]
  rw [e1, e2, some_lo3, some_hi3]
  constructor
  · rw [Bool.eq_iff_iff]
    simp only [okq, decide_eq_true_eq, Bool.and_eq_true]
    repeat' split
    all_goals omega
  · simp only [okq, decide_eq_true_eq, Bool.and_eq_true]
    omega

theorem beg41 {a : Int} (h0 : 240 ≤ a) (h1 : a < 248) : decide (someLo (lowQ 4 [a]) 4 ≤ someHi (highQ 4 [a]) 4) = okq [a] ∧ (okq [a] = true → needN a = 4) := by
  have hn := needN_of a
  have hl := lo_hi a
  have hl2 := lo_hi2 a
  have e1 : lowQ 4 [a] = (((a - 240) * 64) * 64) * 64 := by simp [lowQ, xx, nth]
  have e2 : highQ 4 [a] = (((a - 240) * 64 + 63) * 64 + 63) * 64 + 63 := by simp [highQ, yy, nth]
  rw [e1, e2, some_lo4, some_hi4]
  constructor
  · rw [Bool.eq_iff_iff]
    simp only [okq, decide_eq_true_eq, Bool.and_eq_true]
    repeat' split
    all_goals omega
  · simp only [okq, decide_eq_true_eq, Bool.and_eq_true]
    omega

theorem beg42 {a b : Int} (h0 : 240 ≤ a) (h1 : a < 248) (hb : 128 ≤ b ∧ b ≤ 191) : decide (someLo (lowQ 4 [a, b]) 4 ≤ someHi (highQ 4 [a, b]) 4) = okq [a, b] ∧ (okq [a, b] = true → needN a = 4) := by
  have hn := needN_of a
  have hl := lo_hi a
  have hl2 := lo_hi2 a
  have e1 : lowQ 4 [a, b] = (((a - 240) * 64 + (b - 128)) * 64) * 64 := by simp [lowQ, xx, nth]
  have e2 : highQ 4 [a, b] = (((a - 240) * 64 + (b - 128)) * 64 + 63) * 64 + 63 := by simp [highQ, yy, nth]
  rw [e1, e2, some_lo4, some_hi4]
  constructor
  · rw [Bool.eq_iff_iff]
    simp only [okq, decide_eq_true_eq, Bool.and_eq_true]
    repeat' split
    all_goals omega
  · simp only [okq, decide_eq_true_eq, Bool.and_eq_true]
    omega

theorem beg43 {a b c : Int} (h0 : 240 ≤ a) (h1 : a < 248) (hb : 128 ≤ b ∧ b ≤ 191) (hc : 128 ≤ c ∧ c ≤ 191) : decide (someLo (lowQ 4 [a, b, c]) 4 ≤ someHi (highQ 4 [a, b, c]) 4) = okq [a, b, c] ∧ (okq [a, b, c] = true → needN a = 4) := by
  have hn := needN_of a
  have hl := lo_hi a
  have hl2 := lo_hi2 a
  have e1 : lowQ 4 [a, b, c] = (((a - 240) * 64 + (b - 128)) * 64 + (c - 128)) * 64 := by simp [lowQ, xx, nth]
  have e2 : highQ 4 [a, b, c] = (((a - 240) * 64 + (b - 128)) * 64 + (c - 128)) * 64 + 63 := by simp [highQ, yy, nth]
  rw [e1, e2, some_lo4, some_hi4]
  constructor
  · rw [Bool.eq_iff_iff]
    simp only [okq, decide_eq_true_eq, Bool.and_eq_true]
    repeat' split
    all_goals omega
  · simp only [okq, decide_eq_true_eq, Bool.and_eq_true]
    omega

theorem beg44 {a b c d : Int} (h0 : 240 ≤ a) (h1 : a < 248) (hb : 128 ≤ b ∧ b ≤ 191) (hc : 128 ≤ c ∧ c ≤ 191) (hd : 128 ≤ d ∧ d ≤ 191) : decide (someLo (lowQ 4 [a, b, c, d]) 4 ≤ someHi (highQ 4 [a, b, c, d]) 4) = okq [a, b, c, d] ∧ (okq [a, b, c, d] = true → needN a = 4) := by
  have hn := needN_of a
  have hl := lo_hi a
  have hl2 := lo_hi2 a
  have e1 : lowQ 4 [a, b, c, d] = (((a - 240) * 64 + (b - 128)) * 64 + (c - 128)) * 64 + (d - 128) := by simp [lowQ, xx, nth]
  have e2 : highQ 4 [a, b, c, d] = (((a - 240) * 64 + (b - 128)) * 64 + (c - 128)) * 64 + (d - 128) := by simp [highQ, yy, nth]
  rw [e1, e2, some_lo4, some_hi4]
  constructor
  · rw [Bool.eq_iff_iff]
    simp only [okq, decide_eq_true_eq, Bool.and_eq_true]
    repeat' split
    all_goals omega
  · simp only [okq, decide_eq_true_eq, Bool.and_eq_true]
    omega
end U8
end Go.Proofs.YtknebngapfakjaaDoor
