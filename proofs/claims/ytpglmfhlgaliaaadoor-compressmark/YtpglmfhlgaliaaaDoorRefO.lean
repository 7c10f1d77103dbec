/-
  Contracts of the document's Order and Same, as walks over the translated text. The condition: each slice leads to the cells of its list.
-/
import Derived.Test.YtpglmfhlgaliaaaDoorBase
import Derived.Test.YtpglmfhlgaliaaaDoorScaMath
namespace Go.Proofs.YtpglmfhlgaliaaaDoor
open Go.ChangeShapes Go.WideShapes Go.ChangeAt Go.RowKit
namespace Sca
open Bas
set_option linter.unusedVariables false

set_option maxHeartbeats 1000000 in
theorem rOrder_any (a b : Option Addr) (la lb ca cb : Nat) (l m : List Int) (w : World) (hr : Row .u32 w a l) (hs : Row .u32 w b m) (hl : l.length = la) (hm : m.length = lb) (ha : la ≤ maxLen) (hb : lb ≤ maxLen) :
    Calls Tryd.prog 24 #[.slice a la ca, .slice b lb cb] w fun e w' => e = .returned (.int .i64 (cmpL l m)) ∧ ∃ n, w' = w.drewN n := by
  unfold maxLen at ha hb
  obtain ⟨b1, o1, n1, c1⟩ := hr
  obtain ⟨b2, o2, n2, c2⟩ := hs
  have N1 : Hid (l ≠ [] → a = some ⟨b1, o1, none⟩) := n1
  have N2 : Hid (m ≠ [] → b = some ⟨b2, o2, none⟩) := n2
  clear n1 n2
  go_enter Tryd.func24, Tryd.ntmps24
  go_wp2
  go_loopw [5] (fun i wr => ∃ k : Nat, k ≤ la ∧ k ≤ lb ∧ i = .int .i64 k ∧ (∀ j, j < k → nth l j = nth m j) ∧ ∃ n, wr = w.drewN n) (fun i _ => la - (intOf i).toNat)
  case atStart => exact ⟨0, Nat.zero_le _, Nat.zero_le _, rfl, fun j hj => by omega, 0, rfl⟩
  case round =>
    obtain ⟨k, hk, hk2, rfl, hall, n, rfl⟩ := hrel
    have HA : Hid (∀ j, j < k → nth l j = nth m j) := hall
    clear hall
    by_cases hlt : k < la
    · by_cases hlt2 : k < lb
      · obtain rfl := N1.out (ne_nil_of hl hlt)
        obtain rfl := N2.out (ne_nil_of hm hlt2)
        have e1 : w.cell? ⟨b1, o1 + k, none⟩ = some (.int .u32 (nth l k)) := c1 k (by omega)
        have e2 : w.cell? ⟨b2, o2 + k, none⟩ = some (.int .u32 (nth m k)) := c2 k (by omega)
        clear c1 c2
        have i1 : (k : Int) < (la : Int) := by omega
        have i2 : (k : Int) < (lb : Int) := by omega
        rcases Int.lt_trichotomy (nth l k) (nth m k) with h | h | h
        · go_wp2
          go_quiet (fail)
          go_wp2
          go_ret
          exact ⟨ret_int (cmpL_lt l m k (by omega) (by omega) HA.out h).symm, dn2 ..⟩
        · have HE : Hid (nth l k = nth m k) := h
          have h1 : ¬ nth l k < nth m k := by omega
          have h2 : ¬ nth m k < nth l k := by omega
          clear h
          go_wp2
          go_quiet (fail)
          go_wp2
          go_quiet (fail)
          go_wp2
          go_roundw
          case rel =>
            refine ⟨k + 1, by omega, by omega, by go_num, fun j hj => ?_, _, rfl⟩
            by_cases e : j = k
            · rw [e]; exact HE.out
            · exact HA.out j (by omega)
          case measure => simp [intOf]; omega
        · have h1 : ¬ nth l k < nth m k := by omega
          go_wp2
          go_quiet (fail)
          go_wp2
          go_quiet (fail)
          go_wp2
          go_ret
          exact ⟨ret_int (cmpL_gt l m k (by omega) (by omega) HA.out h).symm, dn3 ..⟩
      · go_wp2
        go_ret
        exact ⟨ret_int (cmpL_long l m (by omega) (fun j hj => HA.out j (by omega))).symm, _, rfl⟩
    · by_cases hlt2 : la < lb
      · go_wp2
        go_ret
        exact ⟨ret_int (cmpL_short l m (by omega) (fun j hj => HA.out j (by omega))).symm, _, rfl⟩
      · go_wp2
        go_ret
        exact ⟨ret_int (cmpL_same l m (by omega) (fun j hj => HA.out j (by omega))).symm, _, rfl⟩

set_option maxHeartbeats 1000000 in
theorem rSame_any (a b : Option Addr) (la lb ca cb : Nat) (l m : List Int) (w : World) (hr : Row .u32 w a l) (hs : Row .u32 w b m) (hl : l.length = la) (hm : m.length = lb) (ha : la ≤ maxLen) (hb : lb ≤ maxLen) :
    Calls Tryd.prog 14 #[.slice a la ca, .slice b lb cb] w fun e w' => e = .returned (.bool (cmpL l m == 0)) ∧ ∃ n, w' = w.drewN n := by
  go_enter Tryd.func14, Tryd.ntmps14
  go_wp2_with (go_at_call 24; refine (rOrder_any _ _ _ _ _ _ _ _ _ hr hs hl hm ha hb).mono ?_; rintro e w' ⟨rfl, n, rfl⟩)
  go_ret
  exact ⟨rfl, _, rfl⟩

end Sca
end Go.Proofs.YtpglmfhlgaliaaaDoor
