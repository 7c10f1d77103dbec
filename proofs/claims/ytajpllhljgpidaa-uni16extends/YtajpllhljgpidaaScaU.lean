/-
  Contracts of scalar.Units and of what it calls, as walks over the translated text. The condition: the slice leads to the cells of its list.
-/
import Derived.Test.YtajpllhljgpidaaSca1
namespace Go.Proofs.Ytajpllhljgpidaa
open Go.ChangeShapes Go.WideShapes Go.ChangeAt Go.RowKit
namespace Sca
open Bas
set_option linter.unusedVariables false

set_option maxHeartbeats 400000 in
theorem sUnit_any (c : Int) (w : World) :
    Calls Try.prog 66 #[.int .u32 c] w fun e w' => e = .returned (.int .i64 (uOf c)) ∧ w' = w := by
  cases hb : isB c with
  | false =>
    have HB : Hid (isB c = false) := hb
    go_enter Try.func66, Try.ntmps66
    go_wp2_with fail
    refine (sIs_any c w).mono ?_
    rintro e w' ⟨rfl, rfl⟩
    rw [HB.out]
    go_wp2
    go_ret
    exact ⟨ret_int (by unfold uOf; rw [HB.out]; simp), rfl⟩
  | true =>
    have HB : Hid (isB c = true) := hb
    clear hb
    by_cases h : c < 65536
    · go_enter Try.func66, Try.ntmps66
      go_wp2_with fail
      refine (sIs_any c w).mono ?_
      rintro e w' ⟨rfl, rfl⟩
      rw [HB.out]
      go_wp2
      go_ret
      exact ⟨ret_int (by unfold uOf; rw [if_pos HB.out, if_pos (by omega)]), rfl⟩
    · go_enter Try.func66, Try.ntmps66
      go_wp2_with fail
      refine (sIs_any c w).mono ?_
      rintro e w' ⟨rfl, rfl⟩
      rw [HB.out]
      go_wp2
      go_ret
      exact ⟨ret_int (by unfold uOf; rw [if_pos HB.out, if_neg (by omega)]), rfl⟩
set_option maxHeartbeats 400000 in
theorem sUnits_any (a : Option Addr) (len cap : Nat) (l : List Int) (w : World) (hr : Row .u32 w a l) (hl : l.length = len) (hm : len ≤ 140737488355328) :
    Calls Try.prog 59 #[.slice a len cap] w fun e w' => e = .returned (.int .i64 (unitsL l)) ∧ w' = w := by
  obtain ⟨b, off, ha, hc⟩ := hr
  have HN : Hid (l ≠ [] → a = some ⟨b, off, none⟩) := ha
  clear ha
  go_enter Try.func59, Try.ntmps59
  go_wp2
  go_loop [3, 8] (fun n i => ∃ k : Nat, k ≤ len ∧ i = .int .i64 k ∧ n = .int .i64 (unitsL (l.take k))) (fun _ i => len - (intOf i).toNat)
  case atStart => exact ⟨0, Nat.zero_le _, rfl, rfl⟩
  case round =>
    obtain ⟨k, hk, rfl, rfl⟩ := hrel
    have hd := unitsL_take_bd l k (by omega)
    by_cases hlt : k < len
    · obtain rfl := HN.out (ne_nil_of hl hlt)
      have hcell := hc k (by omega)
      have hu := uOf_bd (nth l k)
      go_wp2_with (go_at_call 66; refine (sUnit_any _ _).mono ?_; rintro e w' ⟨rfl, rfl⟩)
      go_round
      case rel => exact ⟨k + 1, by omega, by go_num, by rw [unitsL_snoc l k (by omega)]⟩
      case measure => simp [intOf]; omega
    · go_wp2
      go_ret
      exact ⟨ret_int (by rw [List.take_of_length_le (by omega)]), rfl⟩
end Sca
end Go.Proofs.Ytajpllhljgpidaa
