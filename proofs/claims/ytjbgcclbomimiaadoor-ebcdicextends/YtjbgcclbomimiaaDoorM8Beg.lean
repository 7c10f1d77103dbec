/-
  Contracts of the document's Size and Some of layer 6, as walks over the translated text. The condition of Some: a size from 1 to 5.
-/
import Derived.Test.YtjbgcclbomimiaaDoorBase
import Derived.Test.YtjbgcclbomimiaaDoorMem
import Derived.Test.YtjbgcclbomimiaaDoorM8Mth
namespace Go.Proofs.YtjbgcclbomimiaaDoor
open Go.ChangeShapes Go.WideShapes Go.ChangeAt Go.RowKit
namespace M8
open Bas Sca Scn Cod
set_option linter.unusedVariables false
set_option linter.unusedSimpArgs false

theorem ret_ib {a b : Int} {c d : Bool} (h : a = b) (h2 : c = d) : Ending.returned (.tuple #[.int .u32 a, .bool c]) = .returned (.tuple #[.int .u32 b, .bool d]) := by rw [h, h2]
set_option maxHeartbeats 1000000 in
theorem size_any (c : Int) (w : World) :
    Calls Tryd.prog 52 #[.int .u32 c] w fun e w' => e = .returned (.int .i64 ((rowC c + 1 : Nat) : Int)) ∧ w' = w := by
  by_cases h1 : c < 160
  · rw [show rowC c = 0 by simp [rowC, h1]]
    go_enter Tryd.func52, Tryd.ntmps52
    go_wp2
    go_ret
    exact ⟨rfl, rfl⟩
  · by_cases h2 : c < 1024
    · rw [show rowC c = 1 by simp [rowC, h1, h2]]
      go_enter Tryd.func52, Tryd.ntmps52
      go_wp2
      go_ret
      exact ⟨rfl, rfl⟩
    · by_cases h3 : c < 16384
      · rw [show rowC c = 2 by simp [rowC, h1, h2, h3]]
        go_enter Tryd.func52, Tryd.ntmps52
        go_wp2
        go_ret
        exact ⟨rfl, rfl⟩
      · by_cases h4 : c < 262144
        · rw [show rowC c = 3 by simp [rowC, h1, h2, h3, h4]]
          go_enter Tryd.func52, Tryd.ntmps52
          go_wp2
          go_ret
          exact ⟨rfl, rfl⟩
        · rw [show rowC c = 4 by simp [rowC, h1, h2, h3, h4]]
          go_enter Tryd.func52, Tryd.ntmps52
          go_wp2
          go_ret
          exact ⟨rfl, rfl⟩
/-- The least and the greatest scalar of so many bytes, from so much to so much. -/
def leastD (n : Nat) : Int := if n = 2 then 160 else if n = 3 then 1024 else if n = 4 then 16384 else if n = 5 then 262144 else 0
def mostD (n : Nat) : Int := if n = 1 then 159 else if n = 2 then 1023 else if n = 3 then 16383 else if n = 4 then 262143 else 1114111
def someLo (lo : Int) (n : Nat) : Int := if 55296 ≤ (if lo < leastD n then leastD n else lo) ∧ (if lo < leastD n then leastD n else lo) ≤ 57343 then 57344 else if lo < leastD n then leastD n else lo
def someHi (hi : Int) (n : Nat) : Int := if mostD n < hi then mostD n else hi
theorem some_lo1 (lo : Int) : someLo lo 1 = if 55296 ≤ (if lo < 0 then 0 else lo) ∧ (if lo < 0 then 0 else lo) ≤ 57343 then 57344 else if lo < 0 then 0 else lo := rfl
theorem some_hi1 (hi : Int) : someHi hi 1 = if 159 < hi then 159 else hi := rfl
set_option maxHeartbeats 4000000 in
theorem some1 (lo hi : Int) (w : World) (h0 : 0 ≤ lo) :
    Calls Tryd.prog 77 #[.int .u32 lo, .int .u32 hi, .int .i64 1] w fun e w' => e = .returned (.tuple #[.int .u32 (someLo lo 1), .bool (decide (someLo lo 1 ≤ someHi hi 1))]) ∧ Below w.heap.size w w' := by
  rw [some_lo1, some_hi1]
  have hb : ∀ o o2, Below w.heap.size w ((w.alloc o).alloc o2) := fun o o2 => ((Below.refl _ _).alloc (Nat.le_refl _) _).alloc (by simp) _
  by_cases h2 : 159 < hi
  · rw [if_pos h2]
    by_cases h1 : lo < 0
    · rw [if_pos h1, if_neg (show ¬ (55296 ≤ (0 : Int) ∧ (0 : Int) ≤ 57343) by omega)]
      first
        | (exfalso; omega)
        | (go_enter Tryd.func77, Tryd.ntmps77; go_wp2; go_ret2; exact ⟨rfl, hb _ _⟩)
    · rw [if_neg h1]
      by_cases h3 : 55296 ≤ lo
      · by_cases h4 : lo ≤ 57343
        · rw [if_pos ⟨h3, h4⟩]
          first
            | (exfalso; omega)
            | (go_enter Tryd.func77, Tryd.ntmps77; go_wp2; go_ret2; exact ⟨rfl, hb _ _⟩)
        · rw [if_neg (show ¬ (55296 ≤ lo ∧ lo ≤ 57343) by omega)]
          by_cases h5 : lo ≤ 159
          · rw [decide_eq_true h5]
            first
              | (exfalso; omega)
              | (go_enter Tryd.func77, Tryd.ntmps77; go_wp2; go_ret2; exact ⟨rfl, hb _ _⟩)
          · rw [decide_eq_false h5]
            first
              | (exfalso; omega)
              | (go_enter Tryd.func77, Tryd.ntmps77; go_wp2; go_ret2; exact ⟨rfl, hb _ _⟩)
      · rw [if_neg (show ¬ (55296 ≤ lo ∧ lo ≤ 57343) by omega)]
        by_cases h5 : lo ≤ 159
        · rw [decide_eq_true h5]
          first
            | (exfalso; omega)
            | (go_enter Tryd.func77, Tryd.ntmps77; go_wp2; go_ret2; exact ⟨rfl, hb _ _⟩)
        · rw [decide_eq_false h5]
          first
            | (exfalso; omega)
            | (go_enter Tryd.func77, Tryd.ntmps77; go_wp2; go_ret2; exact ⟨rfl, hb _ _⟩)
  · rw [if_neg h2]
    by_cases h1 : lo < 0
    · rw [if_pos h1, if_neg (show ¬ (55296 ≤ (0 : Int) ∧ (0 : Int) ≤ 57343) by omega)]
      by_cases h5 : (0 : Int) ≤ hi
      · rw [decide_eq_true h5]
        first
          | (exfalso; omega)
          | (go_enter Tryd.func77, Tryd.ntmps77; go_wp2; go_ret2; exact ⟨rfl, hb _ _⟩)
      · rw [decide_eq_false h5]
        first
          | (exfalso; omega)
          | (go_enter Tryd.func77, Tryd.ntmps77; go_wp2; go_ret2; exact ⟨rfl, hb _ _⟩)
    · rw [if_neg h1]
      by_cases h3 : 55296 ≤ lo
      · by_cases h4 : lo ≤ 57343
        · rw [if_pos ⟨h3, h4⟩]
          by_cases h5 : (57344 : Int) ≤ hi
          · rw [decide_eq_true h5]
            first
              | (exfalso; omega)
              | (go_enter Tryd.func77, Tryd.ntmps77; go_wp2; go_ret2; exact ⟨rfl, hb _ _⟩)
          · rw [decide_eq_false h5]
            first
              | (exfalso; omega)
              | (go_enter Tryd.func77, Tryd.ntmps77; go_wp2; go_ret2; exact ⟨rfl, hb _ _⟩)
        · rw [if_neg (show ¬ (55296 ≤ lo ∧ lo ≤ 57343) by omega)]
          by_cases h5 : lo ≤ hi
          · rw [decide_eq_true h5]
            first
              | (exfalso; omega)
              | (go_enter Tryd.func77, Tryd.ntmps77; go_wp2; go_ret2; exact ⟨rfl, hb _ _⟩)
          · rw [decide_eq_false h5]
            first
              | (exfalso; omega)
              | (go_enter Tryd.func77, Tryd.ntmps77; go_wp2; go_ret2; exact ⟨rfl, hb _ _⟩)
      · rw [if_neg (show ¬ (55296 ≤ lo ∧ lo ≤ 57343) by omega)]
        by_cases h5 : lo ≤ hi
        · rw [decide_eq_true h5]
          first
            | (exfalso; omega)
            | (go_enter Tryd.func77, Tryd.ntmps77; go_wp2; go_ret2; exact ⟨rfl, hb _ _⟩)
        · rw [decide_eq_false h5]
          first
            | (exfalso; omega)
            | (go_enter Tryd.func77, Tryd.ntmps77; go_wp2; go_ret2; exact ⟨rfl, hb _ _⟩)
theorem some_lo2 (lo : Int) : someLo lo 2 = if 55296 ≤ (if lo < 160 then 160 else lo) ∧ (if lo < 160 then 160 else lo) ≤ 57343 then 57344 else if lo < 160 then 160 else lo := rfl
theorem some_hi2 (hi : Int) : someHi hi 2 = if 1023 < hi then 1023 else hi := rfl
set_option maxHeartbeats 4000000 in
theorem some2 (lo hi : Int) (w : World) (h0 : 0 ≤ lo) :
    Calls Tryd.prog 77 #[.int .u32 lo, .int .u32 hi, .int .i64 2] w fun e w' => e = .returned (.tuple #[.int .u32 (someLo lo 2), .bool (decide (someLo lo 2 ≤ someHi hi 2))]) ∧ Below w.heap.size w w' := by
  rw [some_lo2, some_hi2]
  have hb : ∀ o o2, Below w.heap.size w ((w.alloc o).alloc o2) := fun o o2 => ((Below.refl _ _).alloc (Nat.le_refl _) _).alloc (by simp) _
  by_cases h2 : 1023 < hi
  · rw [if_pos h2]
    by_cases h1 : lo < 160
    · rw [if_pos h1, if_neg (show ¬ (55296 ≤ (160 : Int) ∧ (160 : Int) ≤ 57343) by omega)]
      first
        | (exfalso; omega)
        | (go_enter Tryd.func77, Tryd.ntmps77; go_wp2; go_ret2; exact ⟨rfl, hb _ _⟩)
    · rw [if_neg h1]
      by_cases h3 : 55296 ≤ lo
      · by_cases h4 : lo ≤ 57343
        · rw [if_pos ⟨h3, h4⟩]
          first
            | (exfalso; omega)
            | (go_enter Tryd.func77, Tryd.ntmps77; go_wp2; go_ret2; exact ⟨rfl, hb _ _⟩)
        · rw [if_neg (show ¬ (55296 ≤ lo ∧ lo ≤ 57343) by omega)]
          by_cases h5 : lo ≤ 1023
          · rw [decide_eq_true h5]
            first
              | (exfalso; omega)
              | (go_enter Tryd.func77, Tryd.ntmps77; go_wp2; go_ret2; exact ⟨rfl, hb _ _⟩)
          · rw [decide_eq_false h5]
            first
              | (exfalso; omega)
              | (go_enter Tryd.func77, Tryd.ntmps77; go_wp2; go_ret2; exact ⟨rfl, hb _ _⟩)
      · rw [if_neg (show ¬ (55296 ≤ lo ∧ lo ≤ 57343) by omega)]
        by_cases h5 : lo ≤ 1023
        · rw [decide_eq_true h5]
          first
            | (exfalso; omega)
            | (go_enter Tryd.func77, Tryd.ntmps77; go_wp2; go_ret2; exact ⟨rfl, hb _ _⟩)
        · rw [decide_eq_false h5]
          first
            | (exfalso; omega)
            | (go_enter Tryd.func77, Tryd.ntmps77; go_wp2; go_ret2; exact ⟨rfl, hb _ _⟩)
  · rw [if_neg h2]
    by_cases h1 : lo < 160
    · rw [if_pos h1, if_neg (show ¬ (55296 ≤ (160 : Int) ∧ (160 : Int) ≤ 57343) by omega)]
      by_cases h5 : (160 : Int) ≤ hi
      · rw [decide_eq_true h5]
        first
          | (exfalso; omega)
          | (go_enter Tryd.func77, Tryd.ntmps77; go_wp2; go_ret2; exact ⟨rfl, hb _ _⟩)
      · rw [decide_eq_false h5]
        first
          | (exfalso; omega)
          | (go_enter Tryd.func77, Tryd.ntmps77; go_wp2; go_ret2; exact ⟨rfl, hb _ _⟩)
    · rw [if_neg h1]
      by_cases h3 : 55296 ≤ lo
      · by_cases h4 : lo ≤ 57343
        · rw [if_pos ⟨h3, h4⟩]
          by_cases h5 : (57344 : Int) ≤ hi
          · rw [decide_eq_true h5]
            first
              | (exfalso; omega)
              | (go_enter Tryd.func77, Tryd.ntmps77; go_wp2; go_ret2; exact ⟨rfl, hb _ _⟩)
          · rw [decide_eq_false h5]
            first
              | (exfalso; omega)
              | (go_enter Tryd.func77, Tryd.ntmps77; go_wp2; go_ret2; exact ⟨rfl, hb _ _⟩)
        · rw [if_neg (show ¬ (55296 ≤ lo ∧ lo ≤ 57343) by omega)]
          by_cases h5 : lo ≤ hi
          · rw [decide_eq_true h5]
            first
              | (exfalso; omega)
              | (go_enter Tryd.func77, Tryd.ntmps77; go_wp2; go_ret2; exact ⟨rfl, hb _ _⟩)
          · rw [decide_eq_false h5]
            first
              | (exfalso; omega)
              | (go_enter Tryd.func77, Tryd.ntmps77; go_wp2; go_ret2; exact ⟨rfl, hb _ _⟩)
      · rw [if_neg (show ¬ (55296 ≤ lo ∧ lo ≤ 57343) by omega)]
        by_cases h5 : lo ≤ hi
        · rw [decide_eq_true h5]
          first
            | (exfalso; omega)
            | (go_enter Tryd.func77, Tryd.ntmps77; go_wp2; go_ret2; exact ⟨rfl, hb _ _⟩)
        · rw [decide_eq_false h5]
          first
            | (exfalso; omega)
            | (go_enter Tryd.func77, Tryd.ntmps77; go_wp2; go_ret2; exact ⟨rfl, hb _ _⟩)
theorem some_lo3 (lo : Int) : someLo lo 3 = if 55296 ≤ (if lo < 1024 then 1024 else lo) ∧ (if lo < 1024 then 1024 else lo) ≤ 57343 then 57344 else if lo < 1024 then 1024 else lo := rfl
theorem some_hi3 (hi : Int) : someHi hi 3 = if 16383 < hi then 16383 else hi := rfl
set_option maxHeartbeats 4000000 in
theorem some3 (lo hi : Int) (w : World) (h0 : 0 ≤ lo) :
    Calls Tryd.prog 77 #[.int .u32 lo, .int .u32 hi, .int .i64 3] w fun e w' => e = .returned (.tuple #[.int .u32 (someLo lo 3), .bool (decide (someLo lo 3 ≤ someHi hi 3))]) ∧ Below w.heap.size w w' := by
  rw [some_lo3, some_hi3]
  have hb : ∀ o o2, Below w.heap.size w ((w.alloc o).alloc o2) := fun o o2 => ((Below.refl _ _).alloc (Nat.le_refl _) _).alloc (by simp) _
  by_cases h2 : 16383 < hi
  · rw [if_pos h2]
    by_cases h1 : lo < 1024
    · rw [if_pos h1, if_neg (show ¬ (55296 ≤ (1024 : Int) ∧ (1024 : Int) ≤ 57343) by omega)]
      first
        | (exfalso; omega)
        | (go_enter Tryd.func77, Tryd.ntmps77; go_wp2; go_ret2; exact ⟨rfl, hb _ _⟩)
    · rw [if_neg h1]
      by_cases h3 : 55296 ≤ lo
      · by_cases h4 : lo ≤ 57343
        · rw [if_pos ⟨h3, h4⟩]
          first
            | (exfalso; omega)
            | (go_enter Tryd.func77, Tryd.ntmps77; go_wp2; go_ret2; exact ⟨rfl, hb _ _⟩)
        · rw [if_neg (show ¬ (55296 ≤ lo ∧ lo ≤ 57343) by omega)]
          by_cases h5 : lo ≤ 16383
          · rw [decide_eq_true h5]
            first
              | (exfalso; omega)
              | (go_enter Tryd.func77, Tryd.ntmps77; go_wp2; go_ret2; exact ⟨rfl, hb _ _⟩)
          · rw [decide_eq_false h5]
            first
              | (exfalso; omega)
              | (go_enter Tryd.func77, Tryd.ntmps77; go_wp2; go_ret2; exact ⟨rfl, hb _ _⟩)
      · rw [if_neg (show ¬ (55296 ≤ lo ∧ lo ≤ 57343) by omega)]
        by_cases h5 : lo ≤ 16383
        · rw [decide_eq_true h5]
          first
            | (exfalso; omega)
            | (go_enter Tryd.func77, Tryd.ntmps77; go_wp2; go_ret2; exact ⟨rfl, hb _ _⟩)
        · rw [decide_eq_false h5]
          first
            | (exfalso; omega)
            | (go_enter Tryd.func77, Tryd.ntmps77; go_wp2; go_ret2; exact ⟨rfl, hb _ _⟩)
  · rw [if_neg h2]
    by_cases h1 : lo < 1024
    · rw [if_pos h1, if_neg (show ¬ (55296 ≤ (1024 : Int) ∧ (1024 : Int) ≤ 57343) by omega)]
      by_cases h5 : (1024 : Int) ≤ hi
      · rw [decide_eq_true h5]
        first
          | (exfalso; omega)
          | (go_enter Tryd.func77, Tryd.ntmps77; go_wp2; go_ret2; exact ⟨rfl, hb _ _⟩)
      · rw [decide_eq_false h5]
        first
          | (exfalso; omega)
          | (go_enter Tryd.func77, Tryd.ntmps77; go_wp2; go_ret2; exact ⟨rfl, hb _ _⟩)
    · rw [if_neg h1]
      by_cases h3 : 55296 ≤ lo
      · by_cases h4 : lo ≤ 57343
        · rw [if_pos ⟨h3, h4⟩]
          by_cases h5 : (57344 : Int) ≤ hi
          · rw [decide_eq_true h5]
            first
              | (exfalso; omega)
              | (go_enter Tryd.func77, Tryd.ntmps77; go_wp2; go_ret2; exact ⟨rfl, hb _ _⟩)
          · rw [decide_eq_false h5]
            first
              | (exfalso; omega)
              | (go_enter Tryd.func77, Tryd.ntmps77; go_wp2; go_ret2; exact ⟨rfl, hb _ _⟩)
        · rw [if_neg (show ¬ (55296 ≤ lo ∧ lo ≤ 57343) by omega)]
          by_cases h5 : lo ≤ hi
          · rw [decide_eq_true h5]
            first
              | (exfalso; omega)
              | (go_enter Tryd.func77, Tryd.ntmps77; go_wp2; go_ret2; exact ⟨rfl, hb _ _⟩)
          · rw [decide_eq_false h5]
            first
              | (exfalso; omega)
              | (go_enter Tryd.func77, Tryd.ntmps77; go_wp2; go_ret2; exact ⟨rfl, hb _ _⟩)
      · rw [if_neg (show ¬ (55296 ≤ lo ∧ lo ≤ 57343) by omega)]
        by_cases h5 : lo ≤ hi
        · rw [decide_eq_true h5]
          first
            | (exfalso; omega)
            | (go_enter Tryd.func77, Tryd.ntmps77; go_wp2; go_ret2; exact ⟨rfl, hb _ _⟩)
        · rw [decide_eq_false h5]
          first
            | (exfalso; omega)
            | (go_enter Tryd.func77, Tryd.ntmps77; go_wp2; go_ret2; exact ⟨rfl, hb _ _⟩)
theorem some_lo4 (lo : Int) : someLo lo 4 = if 55296 ≤ (if lo < 16384 then 16384 else lo) ∧ (if lo < 16384 then 16384 else lo) ≤ 57343 then 57344 else if lo < 16384 then 16384 else lo := rfl
theorem some_hi4 (hi : Int) : someHi hi 4 = if 262143 < hi then 262143 else hi := rfl
set_option maxHeartbeats 4000000 in
theorem some4 (lo hi : Int) (w : World) (h0 : 0 ≤ lo) :
    Calls Tryd.prog 77 #[.int .u32 lo, .int .u32 hi, .int .i64 4] w fun e w' => e = .returned (.tuple #[.int .u32 (someLo lo 4), .bool (decide (someLo lo 4 ≤ someHi hi 4))]) ∧ Below w.heap.size w w' := by
  rw [some_lo4, some_hi4]
  have hb : ∀ o o2, Below w.heap.size w ((w.alloc o).alloc o2) := fun o o2 => ((Below.refl _ _).alloc (Nat.le_refl _) _).alloc (by simp) _
  by_cases h2 : 262143 < hi
  · rw [if_pos h2]
    by_cases h1 : lo < 16384
    · rw [if_pos h1, if_neg (show ¬ (55296 ≤ (16384 : Int) ∧ (16384 : Int) ≤ 57343) by omega)]
      first
        | (exfalso; omega)
        | (go_enter Tryd.func77, Tryd.ntmps77; go_wp2; go_ret2; exact ⟨rfl, hb _ _⟩)
    · rw [if_neg h1]
      by_cases h3 : 55296 ≤ lo
      · by_cases h4 : lo ≤ 57343
        · rw [if_pos ⟨h3, h4⟩]
          first
            | (exfalso; omega)
            | (go_enter Tryd.func77, Tryd.ntmps77; go_wp2; go_ret2; exact ⟨rfl, hb _ _⟩)
        · rw [if_neg (show ¬ (55296 ≤ lo ∧ lo ≤ 57343) by omega)]
          by_cases h5 : lo ≤ 262143
          · rw [decide_eq_true h5]
            first
              | (exfalso; omega)
              | (go_enter Tryd.func77, Tryd.ntmps77; go_wp2; go_ret2; exact ⟨rfl, hb _ _⟩)
          · rw [decide_eq_false h5]
            first
              | (exfalso; omega)
              | (go_enter Tryd.func77, Tryd.ntmps77; go_wp2; go_ret2; exact ⟨rfl, hb _ _⟩)
      · rw [if_neg (show ¬ (55296 ≤ lo ∧ lo ≤ 57343) by omega)]
        by_cases h5 : lo ≤ 262143
        · rw [decide_eq_true h5]
          first
            | (exfalso; omega)
            | (go_enter Tryd.func77, Tryd.ntmps77; go_wp2; go_ret2; exact ⟨rfl, hb _ _⟩)
        · rw [decide_eq_false h5]
          first
            | (exfalso; omega)
            | (go_enter Tryd.func77, Tryd.ntmps77; go_wp2; go_ret2; exact ⟨rfl, hb _ _⟩)
  · rw [if_neg h2]
    by_cases h1 : lo < 16384
    · rw [if_pos h1, if_neg (show ¬ (55296 ≤ (16384 : Int) ∧ (16384 : Int) ≤ 57343) by omega)]
      by_cases h5 : (16384 : Int) ≤ hi
      · rw [decide_eq_true h5]
        first
          | (exfalso; omega)
          | (go_enter Tryd.func77, Tryd.ntmps77; go_wp2; go_ret2; exact ⟨rfl, hb _ _⟩)
      · rw [decide_eq_false h5]
        first
          | (exfalso; omega)
          | (go_enter Tryd.func77, Tryd.ntmps77; go_wp2; go_ret2; exact ⟨rfl, hb _ _⟩)
    · rw [if_neg h1]
      by_cases h3 : 55296 ≤ lo
      · by_cases h4 : lo ≤ 57343
        · rw [if_pos ⟨h3, h4⟩]
          by_cases h5 : (57344 : Int) ≤ hi
          · rw [decide_eq_true h5]
            first
              | (exfalso; omega)
              | (go_enter Tryd.func77, Tryd.ntmps77; go_wp2; go_ret2; exact ⟨rfl, hb _ _⟩)
          · rw [decide_eq_false h5]
            first
              | (exfalso; omega)
              | (go_enter Tryd.func77, Tryd.ntmps77; go_wp2; go_ret2; exact ⟨rfl, hb _ _⟩)
        · rw [if_neg (show ¬ (55296 ≤ lo ∧ lo ≤ 57343) by omega)]
          by_cases h5 : lo ≤ hi
          · rw [decide_eq_true h5]
            first
              | (exfalso; omega)
              | (go_enter Tryd.func77, Tryd.ntmps77; go_wp2; go_ret2; exact ⟨rfl, hb _ _⟩)
          · rw [decide_eq_false h5]
            first
              | (exfalso; omega)
              | (go_enter Tryd.func77, Tryd.ntmps77; go_wp2; go_ret2; exact ⟨rfl, hb _ _⟩)
      · rw [if_neg (show ¬ (55296 ≤ lo ∧ lo ≤ 57343) by omega)]
        by_cases h5 : lo ≤ hi
        · rw [decide_eq_true h5]
          first
            | (exfalso; omega)
            | (go_enter Tryd.func77, Tryd.ntmps77; go_wp2; go_ret2; exact ⟨rfl, hb _ _⟩)
        · rw [decide_eq_false h5]
          first
            | (exfalso; omega)
            | (go_enter Tryd.func77, Tryd.ntmps77; go_wp2; go_ret2; exact ⟨rfl, hb _ _⟩)
theorem some_lo5 (lo : Int) : someLo lo 5 = if 55296 ≤ (if lo < 262144 then 262144 else lo) ∧ (if lo < 262144 then 262144 else lo) ≤ 57343 then 57344 else if lo < 262144 then 262144 else lo := rfl
theorem some_hi5 (hi : Int) : someHi hi 5 = if 1114111 < hi then 1114111 else hi := rfl
set_option maxHeartbeats 4000000 in
theorem some5 (lo hi : Int) (w : World) (h0 : 0 ≤ lo) :
    Calls Tryd.prog 77 #[.int .u32 lo, .int .u32 hi, .int .i64 5] w fun e w' => e = .returned (.tuple #[.int .u32 (someLo lo 5), .bool (decide (someLo lo 5 ≤ someHi hi 5))]) ∧ Below w.heap.size w w' := by
  rw [some_lo5, some_hi5]
  have hb : ∀ o o2, Below w.heap.size w ((w.alloc o).alloc o2) := fun o o2 => ((Below.refl _ _).alloc (Nat.le_refl _) _).alloc (by simp) _
  by_cases h2 : 1114111 < hi
  · rw [if_pos h2]
    by_cases h1 : lo < 262144
    · rw [if_pos h1, if_neg (show ¬ (55296 ≤ (262144 : Int) ∧ (262144 : Int) ≤ 57343) by omega)]
      first
        | (exfalso; omega)
        | (go_enter Tryd.func77, Tryd.ntmps77; go_wp2; go_ret2; exact ⟨rfl, hb _ _⟩)
    · rw [if_neg h1]
      by_cases h3 : 55296 ≤ lo
      · by_cases h4 : lo ≤ 57343
        · rw [if_pos ⟨h3, h4⟩]
          first
            | (exfalso; omega)
            | (go_enter Tryd.func77, Tryd.ntmps77; go_wp2; go_ret2; exact ⟨rfl, hb _ _⟩)
        · rw [if_neg (show ¬ (55296 ≤ lo ∧ lo ≤ 57343) by omega)]
          by_cases h5 : lo ≤ 1114111
          · rw [decide_eq_true h5]
            first
              | (exfalso; omega)
              | (go_enter Tryd.func77, Tryd.ntmps77; go_wp2; go_ret2; exact ⟨rfl, hb _ _⟩)
          · rw [decide_eq_false h5]
            first
              | (exfalso; omega)
              | (go_enter Tryd.func77, Tryd.ntmps77; go_wp2; go_ret2; exact ⟨rfl, hb _ _⟩)
      · rw [if_neg (show ¬ (55296 ≤ lo ∧ lo ≤ 57343) by omega)]
        by_cases h5 : lo ≤ 1114111
        · rw [decide_eq_true h5]
          first
            | (exfalso; omega)
            | (go_enter Tryd.func77, Tryd.ntmps77; go_wp2; go_ret2; exact ⟨rfl, hb _ _⟩)
        · rw [decide_eq_false h5]
          first
            | (exfalso; omega)
            | (go_enter Tryd.func77, Tryd.ntmps77; go_wp2; go_ret2; exact ⟨rfl, hb _ _⟩)
  · rw [if_neg h2]
    by_cases h1 : lo < 262144
    · rw [if_pos h1, if_neg (show ¬ (55296 ≤ (262144 : Int) ∧ (262144 : Int) ≤ 57343) by omega)]
      by_cases h5 : (262144 : Int) ≤ hi
      · rw [decide_eq_true h5]
        first
          | (exfalso; omega)
          | (go_enter Tryd.func77, Tryd.ntmps77; go_wp2; go_ret2; exact ⟨rfl, hb _ _⟩)
      · rw [decide_eq_false h5]
        first
          | (exfalso; omega)
          | (go_enter Tryd.func77, Tryd.ntmps77; go_wp2; go_ret2; exact ⟨rfl, hb _ _⟩)
    · rw [if_neg h1]
      by_cases h3 : 55296 ≤ lo
      · by_cases h4 : lo ≤ 57343
        · rw [if_pos ⟨h3, h4⟩]
          by_cases h5 : (57344 : Int) ≤ hi
          · rw [decide_eq_true h5]
            first
              | (exfalso; omega)
              | (go_enter Tryd.func77, Tryd.ntmps77; go_wp2; go_ret2; exact ⟨rfl, hb _ _⟩)
          · rw [decide_eq_false h5]
            first
              | (exfalso; omega)
              | (go_enter Tryd.func77, Tryd.ntmps77; go_wp2; go_ret2; exact ⟨rfl, hb _ _⟩)
        · rw [if_neg (show ¬ (55296 ≤ lo ∧ lo ≤ 57343) by omega)]
          by_cases h5 : lo ≤ hi
          · rw [decide_eq_true h5]
            first
              | (exfalso; omega)
              | (go_enter Tryd.func77, Tryd.ntmps77; go_wp2; go_ret2; exact ⟨rfl, hb _ _⟩)
          · rw [decide_eq_false h5]
            first
              | (exfalso; omega)
              | (go_enter Tryd.func77, Tryd.ntmps77; go_wp2; go_ret2; exact ⟨rfl, hb _ _⟩)
      · rw [if_neg (show ¬ (55296 ≤ lo ∧ lo ≤ 57343) by omega)]
        by_cases h5 : lo ≤ hi
        · rw [decide_eq_true h5]
          first
            | (exfalso; omega)
            | (go_enter Tryd.func77, Tryd.ntmps77; go_wp2; go_ret2; exact ⟨rfl, hb _ _⟩)
        · rw [decide_eq_false h5]
          first
            | (exfalso; omega)
            | (go_enter Tryd.func77, Tryd.ntmps77; go_wp2; go_ret2; exact ⟨rfl, hb _ _⟩)
end M8
end Go.Proofs.YtjbgcclbomimiaaDoor
