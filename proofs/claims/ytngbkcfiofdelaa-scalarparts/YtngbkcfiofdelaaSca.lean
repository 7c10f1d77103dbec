/-
  Contracts of the functions of package scalar on one number, and of the document's answers for it, as walks over the translated text. No condition.
-/
import Derived.Test.YtngbkcfiofdelaaBase
import Derived.Test.YtngbkcfiofdelaaScaMath
namespace Go.Proofs.Ytngbkcfiofdelaa
open Go.ChangeShapes Go.WideShapes Go.ChangeAt Go.RowKit
namespace Sca
open Bas

set_option maxHeartbeats 400000 in
theorem sIs_any (c : Int) (w : World) :
    Calls Try.prog 9 #[.int .u32 c] w fun e w' => e = .returned (.bool (isB c)) ∧ w' = w := by
  by_cases h1 : c ≤ 1114111
  · by_cases h2 : 55296 ≤ c
    · by_cases h3 : c ≤ 57343
      · rw [isB_false (by omega)]
        go_enter Try.func9, Try.ntmps9
        go_wp2
        go_ret
        exact ⟨rfl, rfl⟩
      · rw [isB_true (by omega)]
        go_enter Try.func9, Try.ntmps9
        go_wp2
        go_ret
        exact ⟨rfl, rfl⟩
    · rw [isB_true (by omega)]
      go_enter Try.func9, Try.ntmps9
      go_wp2
      go_ret
      exact ⟨rfl, rfl⟩
  · rw [isB_false (by omega)]
    go_enter Try.func9, Try.ntmps9
    go_wp2
    go_ret
    exact ⟨rfl, rfl⟩

set_option maxHeartbeats 400000 in
theorem rIs_any (c : Int) (w : World) :
    Calls Try.prog 10 #[.int .u32 c] w fun e w' => e = .returned (.bool (isB c)) ∧ w' = w := by
  by_cases h1 : c ≤ 1114111
  · by_cases h2 : 55296 ≤ c
    · by_cases h3 : c ≤ 57343
      · rw [isB_false (by omega)]
        go_enter Try.func10, Try.ntmps10
        go_wp2
        go_ret
        exact ⟨rfl, rfl⟩
      · rw [isB_true (by omega)]
        go_enter Try.func10, Try.ntmps10
        go_wp2
        go_ret
        exact ⟨rfl, rfl⟩
    · rw [isB_true (by omega)]
      go_enter Try.func10, Try.ntmps10
      go_wp2
      go_ret
      exact ⟨rfl, rfl⟩
  · rw [isB_false (by omega)]
    go_enter Try.func10, Try.ntmps10
    go_wp2
    go_ret
    exact ⟨rfl, rfl⟩

set_option maxHeartbeats 1000000 in
theorem sClass_any (c : Int) (w : World) :
    Calls Try.prog 11 #[.int .u32 c] w fun e w' => e = .returned (.int .i64 (clsOf c)) ∧ w' = w := by
  rcases cls_spans c with h | ⟨h, h'⟩ | ⟨h, h'⟩ | ⟨h, h'⟩ | ⟨h, h'⟩ | ⟨h, h'⟩ | ⟨h, h'⟩ | ⟨h, h'⟩ | ⟨h, h'⟩ | h
  all_goals
    first | have hb : isB c = true := isB_true (by omega) | have hb : isB c = false := isB_false (by omega)
    go_enter Try.func11, Try.ntmps11
    go_wp2_with (first | (go_at_call 9; refine (sIs_any _ _).mono ?_; rintro e w' ⟨rfl, rfl⟩) | go_in)
    go_ret
    exact ⟨ret_int (by unfold clsOf; (repeat' split) <;> omega), rfl⟩

set_option maxHeartbeats 1000000 in
theorem rClass_any (c : Int) (w : World) :
    Calls Try.prog 12 #[.int .u32 c] w fun e w' => e = .returned (.int .i64 (clsOf c)) ∧ w' = w := by
  rcases cls_spans c with h | ⟨h, h'⟩ | ⟨h, h'⟩ | ⟨h, h'⟩ | ⟨h, h'⟩ | ⟨h, h'⟩ | ⟨h, h'⟩ | ⟨h, h'⟩ | ⟨h, h'⟩ | h
  all_goals
    first | have hb : isB c = true := isB_true (by omega) | have hb : isB c = false := isB_false (by omega)
    go_enter Try.func12, Try.ntmps12
    go_wp2_with (first | (go_at_call 10; refine (rIs_any _ _).mono ?_; rintro e w' ⟨rfl, rfl⟩) | go_in)
    go_ret
    exact ⟨ret_int (by unfold clsOf; (repeat' split) <;> omega), rfl⟩

set_option maxHeartbeats 400000 in
theorem sUnit_any (c : Int) (w : World) :
    Calls Try.prog 22 #[.int .u32 c] w fun e w' => e = .returned (.int .i64 (uOf c)) ∧ w' = w := by
  rcases cls_spans c with h | ⟨h, h'⟩ | ⟨h, h'⟩ | ⟨h, h'⟩ | ⟨h, h'⟩ | ⟨h, h'⟩ | ⟨h, h'⟩ | ⟨h, h'⟩ | ⟨h, h'⟩ | h
  all_goals
    first | have hb : isB c = true := isB_true (by omega) | have hb : isB c = false := isB_false (by omega)
    go_enter Try.func22, Try.ntmps22
    go_wp2_with (first | (go_at_call 9; refine (sIs_any _ _).mono ?_; rintro e w' ⟨rfl, rfl⟩) | go_in)
    go_ret
    exact ⟨ret_int (by unfold uOf; first | rw [if_pos (isB_true (by omega)), if_pos (by omega)] | rw [if_pos (isB_true (by omega)), if_neg (by omega)] | rw [isB_false (by omega)]; simp), rfl⟩
end Sca
end Go.Proofs.Ytngbkcfiofdelaa
