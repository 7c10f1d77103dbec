/-
  Contracts of layer 15's plain functions, as walks over the translated text. The condition: the tables are as the program's text lays them.
-/
import Derived.Test.YtpglmfhlgaliaaaDoorStp3
import Derived.Test.YtpglmfhlgaliaaaDoorSca1
import Derived.Test.YtpglmfhlgaliaaaDoorCod
import Derived.Test.YtpglmfhlgaliaaaDoorCpsMath
import Derived.Test.YtpglmfhlgaliaaaDoorWin2
import Derived.Deep.RegionHeld3
import Derived.Deep.CutBlock
namespace Go.Proofs.YtpglmfhlgaliaaaDoor
open Go.ChangeShapes Go.WideShapes Go.ChangeAt Go.RowKit
namespace CP
open Bas Sca Stp Scn Cod Win Exp Cmp Cps
set_option linter.unusedVariables false

set_option maxHeartbeats 1000000 in
theorem one_any (b : Int) (w : World) : Calls Tryd.prog 50 #[.int .u8 b] w fun e w' => e = .returned (.string (Stp.strOf [b])) ∧ Below w.heap.size w w' := by
  have hcv := Stp.run_string (w.alloc (.cells #[.int .u8 b] 5)) (some ⟨w.heap.size, 0, none⟩) 1 1 [b] (row_new .u8 w [b] _ _ rfl) rfl
  go_enter Tryd.func50, Tryd.ntmps50
  go_wp2
  go_ret
  exact ⟨rfl, (Below.refl _ _).alloc (Nat.le_refl _) _⟩
theorem ret_str {a b : ByteArray} (h : a = b) : Ending.returned (.string a) = .returned (.string b) := by rw [h]
set_option maxHeartbeats 1000000 in
theorem unit_any (u : Int) (w : World) (h0 : 0 ≤ u) (h1 : u < 65536) : Calls Tryd.prog 51 #[.int .u32 u] w fun e w' => e = .returned (.string (Stp.strOf [u / 256, u % 256])) ∧ Below w.heap.size w w' := by
  have hcv : ∀ x y, _ := fun x y => Stp.run_string (w.alloc (.cells #[.int .u8 x, .int .u8 y] 5)) (some ⟨w.heap.size, 0, none⟩) 2 2 [x, y] (row_new .u8 w [x, y] _ _ rfl) rfl
  go_enter Tryd.func51, Tryd.ntmps51
  go_wp2
  go_ret
  exact ⟨rfl, (Below.refl _ _).alloc (Nat.le_refl _) _⟩
set_option maxHeartbeats 1000000 in
theorem numbered_any (b n : Int) (w : World) (b0 : 0 ≤ b) (b1 : b ≤ 248) (n0 : 0 ≤ n) (n1 : n ≤ 7) : Calls Tryd.prog 62 #[.int .u8 b, .int .i64 n] w fun e w' => e = .returned (.string (Stp.strOf [b + n])) ∧ Below w.heap.size w w' := by
  have e1 : IntKind.u8.wrap n = n := by rw [IntKind.wrap_u8]; omega
  have e2 : IntKind.u8.wrap (b + n) = b + n := by rw [IntKind.wrap_u8]; omega
  go_enter Tryd.func62, Tryd.ntmps62
  go_wp2_with fail
  refine (one_any (b + n) w).mono ?_
  rintro e w2 ⟨rfl, b2⟩
  go_wp2
  go_ret
  exact ⟨rfl, b2⟩
set_option maxHeartbeats 1000000 in
theorem passes_any (c : Int) (w : World) : Calls Tryd.prog 68 #[.int .u32 c] w fun e w' => e = .returned (.bool (passC c)) ∧ w' = w := by
  have HE : Hid (∀ x, passC c = x ↔ decide (c = 0 ∨ c = 9 ∨ c = 10 ∨ c = 13 ∨ (32 ≤ c ∧ c ≤ 127)) = x) := fun x => Iff.rfl
  have hr : ∀ x, (x = true ↔ (c = 0 ∨ c = 9 ∨ c = 10 ∨ c = 13 ∨ (32 ≤ c ∧ c ≤ 127))) → Ending.returned (.bool x) = .returned (.bool (passC c)) := fun x h => by
    have : x = passC c := by rw [Bool.eq_iff_iff, h, pass_iff]
    rw [this]
  have HR : Hid (∀ x, (x = true ↔ (c = 0 ∨ c = 9 ∨ c = 10 ∨ c = 13 ∨ (32 ≤ c ∧ c ≤ 127))) → Ending.returned (.bool x) = .returned (.bool (passC c))) := hr
  clear hr HE
  by_cases h0 : c = 0
  · go_enter Tryd.func68, Tryd.ntmps68
    go_wp2
    go_ret
    exact ⟨HR.out _ (by simp; omega), rfl⟩
  by_cases h9 : c = 9
  · go_enter Tryd.func68, Tryd.ntmps68
    go_wp2
    go_ret
    exact ⟨HR.out _ (by simp; omega), rfl⟩
  by_cases h10 : c = 10
  · go_enter Tryd.func68, Tryd.ntmps68
    go_wp2
    go_ret
    exact ⟨HR.out _ (by simp; omega), rfl⟩
  by_cases h13 : c = 13
  · go_enter Tryd.func68, Tryd.ntmps68
    go_wp2
    go_ret
    exact ⟨HR.out _ (by simp; omega), rfl⟩
  by_cases h32 : 32 ≤ c
  · by_cases h127 : c ≤ 127
    · go_enter Tryd.func68, Tryd.ntmps68
      go_wp2
      go_ret
      exact ⟨HR.out _ (by simp; omega), rfl⟩
    · go_enter Tryd.func68, Tryd.ntmps68
      go_wp2
      go_ret
      exact ⟨HR.out _ (by simp; omega), rfl⟩
  · go_enter Tryd.func68, Tryd.ntmps68
    go_wp2
    go_ret
    exact ⟨HR.out _ (by simp; omega), rfl⟩
theorem ret_bool' {a b : Bool} (h : a = b) : Ending.returned (.bool a) = .returned (.bool b) := by rw [h]
theorem tag_yes {c : Int} (h : 57344 ≤ c) (h2 : c ≤ 62207) : tagC c = true := by unfold tagC; simp; omega
theorem tag_no {c : Int} (h : c < 57344 ∨ 62207 < c) : tagC c = false := by unfold tagC; simp; omega
set_option maxHeartbeats 1000000 in
theorem clashes_any (c : Int) (w : World) : Calls Tryd.prog 67 #[.int .u32 c] w fun e w' => e = .returned (.bool (tagC c)) ∧ w' = w := by
  by_cases h1 : 57344 ≤ c
  · by_cases h2 : c ≤ 62207
    · rw [tag_yes h1 h2]
      go_enter Tryd.func67, Tryd.ntmps67
      go_wp2
      go_ret
      exact ⟨rfl, rfl⟩
    · rw [tag_no (by omega)]
      go_enter Tryd.func67, Tryd.ntmps67
      go_wp2
      go_ret
      exact ⟨rfl, rfl⟩
  · rw [tag_no (by omega)]
    go_enter Tryd.func67, Tryd.ntmps67
    go_wp2
    go_ret
    exact ⟨rfl, rfl⟩
/-- What is told of the first static window that holds a scalar. -/
def stV (c : Int) : Int × Int × Bool := if 0 < statC c then ((statC c : Int), nth statL (statC c), true) else (0, 0, false)
theorem ret_iub {a b c d : Int} {s t : Bool} (h : a = b) (g : c = d) (k : s = t) : Ending.returned (.tuple #[.int .i64 a, .int .u32 c, .bool s]) = .returned (.tuple #[.int .i64 b, .int .u32 d, .bool t]) := by rw [h, g, k]
theorem stat_eq (c : Int) : statC c = if hasI (nth statL 1) c = true then 1 else if hasI (nth statL 2) c = true then 2 else if hasI (nth statL 3) c = true then 3 else if hasI (nth statL 4) c = true then 4 else if hasI (nth statL 5) c = true then 5 else if hasI (nth statL 6) c = true then 6 else if hasI (nth statL 7) c = true then 7 else 0 := rfl
/-- The first one, one by one. -/
theorem stat_up {c : Int} {k : Nat} (h1 : 1 ≤ k) (h7 : k ≤ 7) (hno : ∀ j, 1 ≤ j → j < k → hasI (nth statL j) c = false) (hk : hasI (nth statL k) c = true) : statC c = k := by
  have hh : ∀ j, 1 ≤ j → j < k → ¬ hasI (nth statL j) c = true := fun j a b e => by rw [hno j a b] at e; cases e
  have hcs : k = 1 ∨ k = 2 ∨ k = 3 ∨ k = 4 ∨ k = 5 ∨ k = 6 ∨ k = 7 := by omega
  rw [stat_eq]
  rcases hcs with rfl | rfl | rfl | rfl | rfl | rfl | rfl
  · rw [if_pos hk]
  · rw [if_neg (hh 1 (by decide) (by decide)), if_pos hk]
  · rw [if_neg (hh 1 (by decide) (by decide)), if_neg (hh 2 (by decide) (by decide)), if_pos hk]
  · rw [if_neg (hh 1 (by decide) (by decide)), if_neg (hh 2 (by decide) (by decide)), if_neg (hh 3 (by decide) (by decide)), if_pos hk]
  · rw [if_neg (hh 1 (by decide) (by decide)), if_neg (hh 2 (by decide) (by decide)), if_neg (hh 3 (by decide) (by decide)), if_neg (hh 4 (by decide) (by decide)), if_pos hk]
  · rw [if_neg (hh 1 (by decide) (by decide)), if_neg (hh 2 (by decide) (by decide)), if_neg (hh 3 (by decide) (by decide)), if_neg (hh 4 (by decide) (by decide)), if_neg (hh 5 (by decide) (by decide)), if_pos hk]
  · rw [if_neg (hh 1 (by decide) (by decide)), if_neg (hh 2 (by decide) (by decide)), if_neg (hh 3 (by decide) (by decide)), if_neg (hh 4 (by decide) (by decide)), if_neg (hh 5 (by decide) (by decide)), if_neg (hh 6 (by decide) (by decide)), if_pos hk]
theorem stat_none {c : Int} (hno : ∀ j, 1 ≤ j → j < 8 → hasI (nth statL j) c = false) : statC c = 0 := by
  have hh : ∀ j, 1 ≤ j → j < 8 → ¬ hasI (nth statL j) c = true := fun j a b e => by rw [hno j a b] at e; cases e
  rw [stat_eq]
  rw [if_neg (hh 1 (by decide) (by decide)), if_neg (hh 2 (by decide) (by decide)), if_neg (hh 3 (by decide) (by decide)), if_neg (hh 4 (by decide) (by decide)), if_neg (hh 5 (by decide) (by decide)), if_neg (hh 6 (by decide) (by decide)), if_neg (hh 7 (by decide) (by decide))]
theorem stat_bd {k : Nat} (h : k < 8) : 0 ≤ nth statL k ∧ nth statL k < 4294967296 := by
  have hcs : k = 0 ∨ k = 1 ∨ k = 2 ∨ k = 3 ∨ k = 4 ∨ k = 5 ∨ k = 6 ∨ k = 7 := by omega
  rcases hcs with rfl | rfl | rfl | rfl | rfl | rfl | rfl | rfl <;> decide
set_option maxHeartbeats 2000000 in
theorem static1_any (c : Int) (w : World) (hT : Win.Tabs w) (c0 : 0 ≤ c) (c1 : c < 4294967296) :
    Calls Tryd.prog 66 #[.int .u32 c] w fun e w' => e = .returned (.tuple #[.int .i64 (stV c).1, .int .u32 (stV c).2.1, .bool (stV c).2.2]) ∧ w' = w := by
  have HT : Hid (Win.Tabs w) := hT
  clear hT
  go_enter Tryd.func66, Tryd.ntmps66
  go_wp2
  go_loopw [5] (fun i wr => ∃ k : Nat, i = .int .i64 k ∧ 1 ≤ k ∧ k ≤ 8 ∧ (∀ j, 1 ≤ j → j < k → hasI (nth statL j) c = false) ∧ wr = w) (fun i _ => 8 - (intOf i).toNat)
  case atStart => exact ⟨1, rfl, by omega, by omega, fun j h1 h2 => by omega, rfl⟩
  case round =>
    obtain ⟨k, rfl, hk1, hk8, hno, hw⟩ := hrel
    subst hw
    have HN : Hid (∀ j, 1 ≤ j → j < k → hasI (nth statL j) c = false) := hno
    clear hno
    go_wp2_with fail
    refine (Win.static_any (k : Int) _ HT.out).mono ?_
    rintro e w1 ⟨rfl, rfl⟩
    by_cases h : k < 8
    · rw [atW_yes _ k h, isW_yes (by omega) (by omega)]
      have hb := stat_bd h
      obtain ⟨o, ho⟩ : ∃ o, nth statL k = o := ⟨_, rfl⟩
      have HO : Hid (nth statL k = o) := ho
      rw [ho] at hb ⊢
      clear ho
      go_wp2_with fail
      refine (Win.holds_any o c _ hb.1 hb.2 c0 c1).mono ?_
      rintro e w2 ⟨rfl, rfl⟩
      cases hh : hasI o c with
      | true =>
        have HS : Hid (statC c = k) := stat_up hk1 (by omega) HN.out (by rw [HO.out]; exact hh)
        clear hh
        go_wp2
        refine bodyPost_ret (results_tmp3 rfl _ _ _) rfl ?_
        exact ⟨by unfold stV; rw [HS.out, if_pos (by omega), HO.out]; rfl, rfl⟩
      | false =>
        have HN2 : Hid (∀ j, 1 ≤ j → j < k + 1 → hasI (nth statL j) c = false) := fun j h1 h2 => by
          by_cases e : j = k
          · rw [e, HO.out]; exact hh
          · exact HN.out j h1 (by omega)
        clear hh
        go_wp2
        go_roundw
        case rel => exact ⟨k + 1, by go_num, by omega, by omega, HN2.out, trivial⟩
        case measure => simp [intOf]; omega
    · have hk : k = 8 := by omega
      have HS : Hid (statC c = 0) := stat_none (fun j h1 h2 => HN.out j h1 (by omega))
      rw [atW_no _ (by omega), isW_no (by omega)]
      go_wp2
      refine bodyPost_ret (results_tmp3 rfl _ _ _) rfl ?_
      exact ⟨by unfold stV; rw [HS.out, if_neg (by omega)]; rfl, rfl⟩
/-- What is told of a scalar's own window. -/
def ownV (c : Int) : Int := if 0 ≤ ownO c then ownO c else 0
def ownB (c : Int) : Bool := decide (0 ≤ ownO c)
theorem own_yes {c o : Int} (h : ownO c = o) (ho : 0 ≤ o) : ownV c = o ∧ ownB c = true := by unfold ownV ownB; rw [h, if_pos ho]; exact ⟨rfl, by simp; exact ho⟩
theorem own_no {c : Int} (h : ownO c = -1) : ownV c = 0 ∧ ownB c = false := by unfold ownV ownB; rw [h]; exact ⟨rfl, rfl⟩
theorem offI_top {x : Int} (h : 1 ≤ x) : offI x ≤ 65408 := by
  unfold offI fixI
  repeat' split
  all_goals omega
set_option maxHeartbeats 2000000 in
theorem own_any (c : Int) (w : World) (hT : Win.Tabs w) (c0 : 0 ≤ c) (c1 : c ≤ 1114111) :
    Calls Tryd.prog 73 #[.int .u32 c] w fun e w' => e = .returned (.tuple #[.int .u32 (ownV c), .bool (ownB c)]) ∧ w' = w := by
  have HT : Hid (Win.Tabs w) := hT
  rcases idx_has c with h | ⟨h1, h2, h3, h4⟩
  · have hi := idx_not h
    have HI : Hid (Calls Tryd.prog 76 #[.int .u32 c] w fun e w' => e = .returned (.tuple #[.int .u8 0, .bool false]) ∧ w' = w) := by have := index_any c w hT c0 (by omega); rwa [hi.1, hi.2] at this
    by_cases h65 : 65536 ≤ c
    · have hb : pairB 0 c = true := pairB_iff.2 ⟨by omega, by omega, h65, c1⟩
      have hp := pair_own (n := 0) (c := c) (by omega) (by omega) (by omega) c1
      have HP : Hid (Calls Tryd.prog 77 #[.int .i64 0, .int .u32 c] w fun e w' => e = .returned (.tuple #[.int .u8 (pairH 0 c), .int .u8 (pairL c), .bool true]) ∧ w' = w) := by
        have := pair_any 0 c w c0 (by omega)
        unfold pairV at this
        rwa [hb, if_pos rfl, if_pos rfl] at this
      have HE : Hid (Calls Tryd.prog 81 #[.int .u8 (pairH 0 c), .int .u8 (pairL c)] w fun e w' => e = .returned (.tuple #[.int .i64 (extN (pairH 0 c)), .int .u32 (ownO c)]) ∧ w' = w) := by
        have := ext_any (pairH 0 c) (pairL c) w (by unfold pairH; omega) (by unfold pairH; omega) (by unfold pairL; omega) (by unfold pairL; omega)
        rwa [hp.2] at this
      have ho : 0 ≤ ownO c := by unfold ownO; rw [if_pos (by omega)]; omega
      have HO := own_yes (c := c) rfl ho
      rw [HO.1, HO.2]
      generalize ownO c = o at *
      generalize extN (pairH 0 c) = x1 at *
      generalize pairH 0 c = x2 at *
      generalize pairL c = x3 at *
      clear hT hi hb hp HO h
      go_enter Tryd.func73, Tryd.ntmps73
      go_wp2_with fail
      refine HI.out.mono ?_
      rintro e w1 ⟨rfl, hw⟩
      subst hw
      go_wp2_with fail
      refine HP.out.mono ?_
      rintro e w1 ⟨rfl, hw⟩
      subst hw
      go_wp2_with fail
      refine HE.out.mono ?_
      rintro e w1 ⟨rfl, hw⟩
      subst hw
      go_wp2
      go_ret2
      exact ⟨rfl, rfl⟩
    · have hb : pairB 0 c = false := pairB_not.2 (by omega)
      have HP : Hid (Calls Tryd.prog 77 #[.int .i64 0, .int .u32 c] w fun e w' => e = .returned (.tuple #[.int .u8 0, .int .u8 0, .bool false]) ∧ w' = w) := by
        have := pair_any 0 c w c0 (by omega)
        unfold pairV at this
        rwa [hb, if_neg (by decide), if_neg (by decide)] at this
      have ho : ownO c = -1 := by unfold ownO; rw [if_neg (by omega), h, if_pos (by decide)]
      have HO := own_no ho
      rw [HO.1, HO.2]
      clear hT hi hb HO h
      go_enter Tryd.func73, Tryd.ntmps73
      go_wp2_with fail
      refine HI.out.mono ?_
      rintro e w1 ⟨rfl, hw⟩
      subst hw
      go_wp2_with fail
      refine HP.out.mono ?_
      rintro e w1 ⟨rfl, hw⟩
      subst hw
      go_wp2
      go_ret2
      exact ⟨rfl, rfl⟩
  · have hi := idx_yes (x := idxI c) (by omega)
    have HI : Hid (Calls Tryd.prog 76 #[.int .u32 c] w fun e w' => e = .returned (.tuple #[.int .u8 (idxI c), .bool true]) ∧ w' = w) := by have := index_any c w hT c0 (by omega); rwa [hi.1, hi.2] at this
    have hf := off_yes (x := idxI c) rfl h3
    have HF : Hid (Calls Tryd.prog 80 #[.int .u8 (idxI c)] w fun e w' => e = .returned (.tuple #[.int .u32 (offI (idxI c)), .bool true]) ∧ w' = w) := by have := offset_any (idxI c) w hT (by omega) (by omega); rwa [hf.1, hf.2] at this
    have ho : ownO c = offI (idxI c) := by
      have := has_iff.1 h4
      have := offI_top h1
      unfold ownO; rw [if_neg (by omega), if_neg (by omega)]
    have HO := own_yes (c := c) ho h3
    rw [HO.1, HO.2]
    generalize offI (idxI c) = x1 at *
    generalize idxI c = x2 at *
    clear hT hi hf HO h4
    go_enter Tryd.func73, Tryd.ntmps73
    go_wp2_with fail
    refine HI.out.mono ?_
    rintro e w1 ⟨rfl, hw⟩
    subst hw
    go_wp2_with fail
    refine HF.out.mono ?_
    rintro e w1 ⟨rfl, hw⟩
    subst hw
    go_wp2
    go_ret2
    exact ⟨rfl, rfl⟩
theorem twin_off {c d : Int} (h : ownO c = -1) : twinsC c (optI d) = false := by
  unfold optI
  split
  · rfl
  · unfold twinsC; rw [h]; rfl
theorem twin_is {c d : Int} (h : 0 ≤ ownO c) (hok : offOK (ownO c)) : twinsC c (optI d) = hasI (ownO c) d := by
  unfold optI
  split
  · rename_i hd
    unfold offOK at hok
    unfold twinsC
    rw [hd]
    exact (has_no.2 (by omega)).symm
  · unfold twinsC
    simp only [decide_eq_true h, Bool.true_and]
set_option maxHeartbeats 2000000 in
theorem twins_any (c d : Int) (w : World) (hT : Win.Tabs w) (c0 : 0 ≤ c) (c1 : c ≤ 1114111) (d0 : 0 ≤ d) (d1 : d < 4294967296) :
    Calls Tryd.prog 63 #[.int .u32 c, .int .u32 d] w fun e w' => e = .returned (.bool (twinsC c (optI d))) ∧ w' = w := by
  have HW := own_any c w hT c0 c1
  rcases own_cases c0 c1 with h | ⟨h, -⟩
  · have hv := own_no h
    rw [hv.1, hv.2] at HW
    have HX : Hid (Calls Tryd.prog 73 #[.int .u32 c] w fun e w' => e = .returned (.tuple #[.int .u32 0, .bool false]) ∧ w' = w) := HW
    rw [twin_off h]
    clear HW hT h hv
    go_enter Tryd.func63, Tryd.ntmps63
    go_wp2_with fail
    refine HX.out.mono ?_
    rintro e w1 ⟨rfl, hw⟩
    subst hw
    go_wp2
    go_ret
    exact ⟨rfl, rfl⟩
  · have hok := h
    unfold offOK at h
    have hv := own_yes (c := c) rfl (show 0 ≤ ownO c by omega)
    rw [hv.1, hv.2] at HW
    rw [twin_is (by omega) hok]
    generalize ownO c = o at *
    have HX : Hid (Calls Tryd.prog 73 #[.int .u32 c] w fun e w' => e = .returned (.tuple #[.int .u32 o, .bool true]) ∧ w' = w) := HW
    have HH : Hid (∀ w, Calls Tryd.prog 69 #[.int .u32 o, .int .u32 d] w fun e w' => e = .returned (.bool (hasI o d)) ∧ w' = w) := fun w => holds_any o d w (by omega) (by omega) d0 d1
    clear HW hT h hv hok
    go_enter Tryd.func63, Tryd.ntmps63
    go_wp2_with fail
    refine HX.out.mono ?_
    rintro e w1 ⟨rfl, hw⟩
    subst hw
    go_wp2_with fail
    refine (HH.out _).mono ?_
    rintro e w2 ⟨rfl, rfl⟩
    go_wp2
    go_ret
    exact ⟨rfl, rfl⟩
end CP
end Go.Proofs.YtpglmfhlgaliaaaDoor
