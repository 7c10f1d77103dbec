/-
  Contracts of the functions of package scalar on a list of numbers, and of the document's answers for it, as walks over the translated text. The condition: the slice leads to the cells of the list.
-/
import Derived.Test.YtngbkcfiofdelaaSca
namespace Go.Proofs.Ytngbkcfiofdelaa
open Go.ChangeShapes Go.WideShapes Go.ChangeAt Go.RowKit
namespace Sca
open Bas

set_option maxHeartbeats 400000 in
theorem sFirst_any (a : Option Addr) (len cap : Nat) (l : List Int) (w : World) (hr : Row .u32 w a l) (hl : l.length = len) (hm : len ≤ maxLen) :
    Calls Try.prog 13 #[.slice a len cap] w fun e w' => e = .returned (.int .i64 (firstL l)) ∧ w' = w := by
  unfold maxLen at hm
  obtain ⟨b, off, ha, hc⟩ := hr
  have HN : Hid (l ≠ [] → a = some ⟨b, off, none⟩) := ha
  clear ha
  go_enter Try.func13, Try.ntmps13
  go_wp2
  go_loop [7] (fun i => ∃ k : Nat, k ≤ len ∧ i = .int .i64 k ∧ ∀ j, j < k → isB (nth l j) = true) (fun i => len - (intOf i).toNat)
  case atStart => exact ⟨0, Nat.zero_le _, rfl, fun j hj => by omega⟩
  case round =>
    obtain ⟨k, hk, rfl, hall⟩ := hrel
    have HA : Hid (∀ j, j < k → isB (nth l j) = true) := hall
    clear hall
    by_cases hlt : k < len
    · obtain rfl := HN.out (ne_nil_of hl hlt)
      have hcell := hc k (by omega)
      by_cases hb : isB (nth l k) = true
      · go_wp2_with (go_at_call 9; refine (sIs_any _ _).mono ?_; rintro e w' ⟨rfl, rfl⟩)
        go_round
        case rel =>
          refine ⟨k + 1, by omega, by go_num, fun j hj => ?_⟩
          by_cases e : j = k
          · rw [e]; exact hb
          · exact HA.out j (by omega)
        case measure => simp [intOf]; omega
      · have hb' : isB (nth l k) = false := by simpa using hb
        clear hb
        go_wp2_with (go_at_call 9; refine (sIs_any _ _).mono ?_; rintro e w' ⟨rfl, rfl⟩)
        go_ret
        exact ⟨ret_int (firstL_found l k (by omega) (HA.out) hb').symm, rfl⟩
    · go_wp2
      go_ret
      exact ⟨ret_int (firstL_none l (fun j hj => HA.out j (by omega))).symm, rfl⟩

set_option maxHeartbeats 400000 in
theorem rFirst_any (a : Option Addr) (len cap : Nat) (l : List Int) (w : World) (hr : Row .u32 w a l) (hl : l.length = len) (hm : len ≤ maxLen) :
    Calls Try.prog 14 #[.slice a len cap] w fun e w' => e = .returned (.int .i64 (firstL l)) ∧ w' = w := by
  unfold maxLen at hm
  obtain ⟨b, off, ha, hc⟩ := hr
  have HN : Hid (l ≠ [] → a = some ⟨b, off, none⟩) := ha
  clear ha
  go_enter Try.func14, Try.ntmps14
  go_wp2
  go_loop [3] (fun i => ∃ k : Nat, k ≤ len ∧ i = .int .i64 k ∧ ∀ j, j < k → isB (nth l j) = true) (fun i => len - (intOf i).toNat)
  case atStart => exact ⟨0, Nat.zero_le _, rfl, fun j hj => by omega⟩
  case round =>
    obtain ⟨k, hk, rfl, hall⟩ := hrel
    have HA : Hid (∀ j, j < k → isB (nth l j) = true) := hall
    clear hall
    by_cases hlt : k < len
    · obtain rfl := HN.out (ne_nil_of hl hlt)
      have hcell := hc k (by omega)
      by_cases hb : isB (nth l k) = true
      · go_wp2_with (go_at_call 10; refine (rIs_any _ _).mono ?_; rintro e w' ⟨rfl, rfl⟩)
        go_round
        case rel =>
          refine ⟨k + 1, by omega, by go_num, fun j hj => ?_⟩
          by_cases e : j = k
          · rw [e]; exact hb
          · exact HA.out j (by omega)
        case measure => simp [intOf]; omega
      · have hb' : isB (nth l k) = false := by simpa using hb
        clear hb
        go_wp2_with (go_at_call 10; refine (rIs_any _ _).mono ?_; rintro e w' ⟨rfl, rfl⟩)
        go_ret
        exact ⟨ret_int (firstL_found l k (by omega) (HA.out) hb').symm, rfl⟩
    · go_wp2
      go_ret
      exact ⟨ret_int (firstL_none l (fun j hj => HA.out j (by omega))).symm, rfl⟩

set_option maxHeartbeats 400000 in
theorem sUnits_any (a : Option Addr) (len cap : Nat) (l : List Int) (w : World) (hr : Row .u32 w a l) (hl : l.length = len) (hm : len ≤ 140737488355328) :
    Calls Try.prog 15 #[.slice a len cap] w fun e w' => e = .returned (.int .i64 (unitsL l)) ∧ w' = w := by
  obtain ⟨b, off, ha, hc⟩ := hr
  have HN : Hid (l ≠ [] → a = some ⟨b, off, none⟩) := ha
  clear ha
  go_enter Try.func15, Try.ntmps15
  go_wp2
  go_loop [3, 8] (fun n i => ∃ k : Nat, k ≤ len ∧ i = .int .i64 k ∧ n = .int .i64 (unitsL (l.take k))) (fun _ i => len - (intOf i).toNat)
  case atStart => exact ⟨0, Nat.zero_le _, rfl, rfl⟩
  case round =>
    obtain ⟨k, hk, rfl, rfl⟩ := hrel
    have hd := unitsL_take_bd l k (by omega)
    by_cases hlt : k < len
    · obtain rfl := HN.out (ne_nil_of hl hlt)
      have hcell := hc k (by omega)
      have hu := uOf_bd (nth l k)
      go_wp2_with (go_at_call 22; refine (sUnit_any _ _).mono ?_; rintro e w' ⟨rfl, rfl⟩)
      go_round
      case rel => exact ⟨k + 1, by omega, by go_num, by rw [unitsL_snoc l k (by omega)]⟩
      case measure => simp [intOf]; omega
    · go_wp2
      go_ret
      exact ⟨ret_int (by rw [List.take_of_length_le (by omega)]), rfl⟩

set_option maxHeartbeats 400000 in
theorem rUnits_any (a : Option Addr) (len cap : Nat) (l : List Int) (w : World) (hr : Row .u32 w a l) (hl : l.length = len) (hm : len ≤ 140737488355328) :
    Calls Try.prog 16 #[.slice a len cap] w fun e w' => e = .returned (.int .i64 (unitsL l)) ∧ w' = w := by
  obtain ⟨b, off, ha, hc⟩ := hr
  have HN : Hid (l ≠ [] → a = some ⟨b, off, none⟩) := ha
  clear ha
  go_enter Try.func16, Try.ntmps16
  go_wp2
  go_loop [3, 4] (fun n i => ∃ k : Nat, k ≤ len ∧ i = .int .i64 k ∧ n = .int .i64 (unitsL (l.take k))) (fun _ i => len - (intOf i).toNat)
  case atStart => exact ⟨0, Nat.zero_le _, rfl, rfl⟩
  case round =>
    obtain ⟨k, hk, rfl, rfl⟩ := hrel
    have hd := unitsL_take_bd l k (by omega)
    by_cases hlt : k < len
    · obtain rfl := HN.out (ne_nil_of hl hlt)
      have hcell := hc k (by omega)
      have HS : Hid (unitsL (l.take (k + 1)) = unitsL (l.take k) + uOf (nth l k)) := unitsL_snoc l k (by omega)
      by_cases hb : isB (nth l k) = true
      · have HB : Hid (isB (nth l k) = true) := hb
        by_cases hg : nth l k ≤ 65535
        · go_wp2_with (go_at_call 10; refine (rIs_any _ _).mono ?_; rintro e w' ⟨rfl, rfl⟩)
          go_round
          case rel => exact ⟨k + 1, by omega, by go_num, by rw [HS.out, uOf, if_pos HB.out, if_pos hg]⟩
          case measure => simp [intOf]; omega
        · go_wp2_with (go_at_call 10; refine (rIs_any _ _).mono ?_; rintro e w' ⟨rfl, rfl⟩)
          go_round
          case rel => exact ⟨k + 1, by omega, by go_num, by rw [HS.out, uOf, if_pos HB.out, if_neg (by omega)]; go_num⟩
          case measure => simp [intOf]; omega
      · have hb' : isB (nth l k) = false := by simpa using hb
        have HB : Hid (¬ isB (nth l k) = true) := hb
        clear hb
        go_wp2_with (go_at_call 10; refine (rIs_any _ _).mono ?_; rintro e w' ⟨rfl, rfl⟩)
        go_round
        case rel => exact ⟨k + 1, by omega, by go_num, by rw [HS.out, uOf, if_neg HB.out]; go_num⟩
        case measure => simp [intOf]; omega
    · go_wp2
      go_ret
      exact ⟨ret_int (by rw [List.take_of_length_le (by omega)]), rfl⟩
end Sca
end Go.Proofs.Ytngbkcfiofdelaa
