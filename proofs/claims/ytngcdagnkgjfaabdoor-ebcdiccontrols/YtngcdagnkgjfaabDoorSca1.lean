/-
  Contracts of scalar.Is, and of the document's Is and First, as walks over the translated text. The condition: the slice leads to the cells of its list.
-/
import Derived.Test.YtngcdagnkgjfaabDoorBase
import Derived.Test.YtngcdagnkgjfaabDoorScaMath
namespace Go.Proofs.YtngcdagnkgjfaabDoor
open Go.ChangeShapes Go.WideShapes Go.ChangeAt Go.RowKit
namespace Sca
open Bas
set_option linter.unusedVariables false

set_option maxHeartbeats 400000 in
theorem sIs_any (c : Int) (w : World) :
    Calls Tryd.prog 32 #[.int .u32 c] w fun e w' => e = .returned (.bool (isB c)) ∧ w' = w := by
  by_cases h1 : c ≤ 1114111
  · by_cases h2 : 55296 ≤ c
    · by_cases h3 : c ≤ 57343
      · rw [isB_false (by omega)]
        go_enter Tryd.func32, Tryd.ntmps32
        go_wp2
        go_ret
        exact ⟨rfl, rfl⟩
      · rw [isB_true (by omega)]
        go_enter Tryd.func32, Tryd.ntmps32
        go_wp2
        go_ret
        exact ⟨rfl, rfl⟩
    · rw [isB_true (by omega)]
      go_enter Tryd.func32, Tryd.ntmps32
      go_wp2
      go_ret
      exact ⟨rfl, rfl⟩
  · rw [isB_false (by omega)]
    go_enter Tryd.func32, Tryd.ntmps32
    go_wp2
    go_ret
    exact ⟨rfl, rfl⟩

set_option maxHeartbeats 400000 in
theorem rIs_any (c : Int) (w : World) :
    Calls Tryd.prog 5 #[.int .u32 c] w fun e w' => e = .returned (.bool (isB c)) ∧ w' = w := by
  by_cases h1 : c ≤ 1114111
  · by_cases h2 : 55296 ≤ c
    · by_cases h3 : c ≤ 57343
      · rw [isB_false (by omega)]
        go_enter Tryd.func5, Tryd.ntmps5
        go_wp2
        go_ret
        exact ⟨rfl, rfl⟩
      · rw [isB_true (by omega)]
        go_enter Tryd.func5, Tryd.ntmps5
        go_wp2
        go_ret
        exact ⟨rfl, rfl⟩
    · rw [isB_true (by omega)]
      go_enter Tryd.func5, Tryd.ntmps5
      go_wp2
      go_ret
      exact ⟨rfl, rfl⟩
  · rw [isB_false (by omega)]
    go_enter Tryd.func5, Tryd.ntmps5
    go_wp2
    go_ret
    exact ⟨rfl, rfl⟩

end Sca
end Go.Proofs.YtngcdagnkgjfaabDoor
