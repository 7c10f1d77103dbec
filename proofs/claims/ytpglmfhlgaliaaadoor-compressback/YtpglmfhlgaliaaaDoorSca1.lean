/-
  Contracts of scalar.Is, and of the document's Is and First, as walks over the translated text. The condition: the slice leads to the cells of its list.
-/
import Derived.Test.YtpglmfhlgaliaaaDoorBase
import Derived.Test.YtpglmfhlgaliaaaDoorScaMath
namespace Go.Proofs.YtpglmfhlgaliaaaDoor
open Go.ChangeShapes Go.WideShapes Go.ChangeAt Go.RowKit
namespace Sca
open Bas
set_option linter.unusedVariables false

set_option maxHeartbeats 400000 in
theorem sIs_any (c : Int) (w : World) :
    Calls Tryd.prog 30 #[.int .u32 c] w fun e w' => e = .returned (.bool (isB c)) ∧ w' = w := by
  by_cases h1 : c ≤ 1114111
  · by_cases h2 : 55296 ≤ c
    · by_cases h3 : c ≤ 57343
      · rw [isB_false (by omega)]
        go_enter Tryd.func30, Tryd.ntmps30
        go_wp2
        go_ret
        exact ⟨rfl, rfl⟩
      · rw [isB_true (by omega)]
        go_enter Tryd.func30, Tryd.ntmps30
        go_wp2
        go_ret
        exact ⟨rfl, rfl⟩
    · rw [isB_true (by omega)]
      go_enter Tryd.func30, Tryd.ntmps30
      go_wp2
      go_ret
      exact ⟨rfl, rfl⟩
  · rw [isB_false (by omega)]
    go_enter Tryd.func30, Tryd.ntmps30
    go_wp2
    go_ret
    exact ⟨rfl, rfl⟩

set_option maxHeartbeats 400000 in
theorem rIs_any (c : Int) (w : World) :
    Calls Tryd.prog 20 #[.int .u32 c] w fun e w' => e = .returned (.bool (isB c)) ∧ w' = w := by
  by_cases h1 : c ≤ 1114111
  · by_cases h2 : 55296 ≤ c
    · by_cases h3 : c ≤ 57343
      · rw [isB_false (by omega)]
        go_enter Tryd.func20, Tryd.ntmps20
        go_wp2
        go_ret
        exact ⟨rfl, rfl⟩
      · rw [isB_true (by omega)]
        go_enter Tryd.func20, Tryd.ntmps20
        go_wp2
        go_ret
        exact ⟨rfl, rfl⟩
    · rw [isB_true (by omega)]
      go_enter Tryd.func20, Tryd.ntmps20
      go_wp2
      go_ret
      exact ⟨rfl, rfl⟩
  · rw [isB_false (by omega)]
    go_enter Tryd.func20, Tryd.ntmps20
    go_wp2
    go_ret
    exact ⟨rfl, rfl⟩

set_option maxHeartbeats 400000 in
theorem rFirst_any (a : Option Addr) (len cap : Nat) (l : List Int) (w : World) (hr : Row .u32 w a l) (hl : l.length = len) (hm : len ≤ maxLen) :
    Calls Tryd.prog 10 #[.slice a len cap] w fun e w' => e = .returned (.int .i64 (firstL l)) ∧ w' = w := by
  unfold maxLen at hm
  obtain ⟨b, off, ha, hc⟩ := hr
  have HN : Hid (l ≠ [] → a = some ⟨b, off, none⟩) := ha
  clear ha
  go_enter Tryd.func10, Tryd.ntmps10
  go_wp2
  go_loop [3] (fun i => ∃ k : Nat, k ≤ len ∧ i = .int .i64 k ∧ ∀ j, j < k → isB (nth l j) = true) (fun i => len - (intOf i).toNat)
  case atStart => exact ⟨0, Nat.zero_le _, rfl, fun j hj => by omega⟩
  case round =>
    obtain ⟨k, hk, rfl, hall⟩ := hrel
    have HA : Hid (∀ j, j < k → isB (nth l j) = true) := hall
    clear hall
    by_cases hlt : k < len
    · obtain rfl := HN.out (ne_nil_of hl hlt)
      have hcell := hc k (by omega)
      by_cases hb : isB (nth l k) = true
      · go_wp2_with (go_at_call 20; refine (rIs_any _ _).mono ?_; rintro e w' ⟨rfl, rfl⟩)
        go_round
        case rel =>
          refine ⟨k + 1, by omega, by go_num, fun j hj => ?_⟩
          by_cases e : j = k
          · rw [e]; exact hb
          · exact HA.out j (by omega)
        case measure => simp [intOf]; omega
      · have hb' : isB (nth l k) = false := by simpa using hb
        clear hb
        go_wp2_with (go_at_call 20; refine (rIs_any _ _).mono ?_; rintro e w' ⟨rfl, rfl⟩)
        go_ret
        exact ⟨ret_int (firstL_found l k (by omega) (HA.out) hb').symm, rfl⟩
    · go_wp2
      go_ret
      exact ⟨ret_int (firstL_none l (fun j hj => HA.out j (by omega))).symm, rfl⟩

end Sca
end Go.Proofs.YtpglmfhlgaliaaaDoor
