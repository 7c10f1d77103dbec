/-
  What a part is, and whether a byte may stand there: contracts of the decoder's questions, as walks over the translated text. The condition: its memory is there; the tables are as the program's text lays them.
-/
import Derived.Test.YtohobpjiikpdmaaDoorEXDec
namespace Go.Proofs.YtohobpjiikpdmaaDoor
open Go.ChangeShapes Go.WideShapes Go.ChangeAt Go.RowKit
namespace EX
open Bas Sca Stp Scn Cod Win
set_option linter.unusedVariables false

theorem ret_i {a b : Int} (h : a = b) : Ending.returned (.int .i64 a) = .returned (.int .i64 b) := by rw [h]
set_option maxHeartbeats 2000000 in
theorem sing_any (x : Int) (w : World) (x0 : 0 ≤ x) (x1 : x < 256) :
    Calls Tryd.prog 50 #[.int .u8 x] w fun e w' => e = .returned (.int .i64 (codeK (Exp.kindP false x))) ∧ w' = w := by
  by_cases h8 : 128 ≤ x
  · rw [kf_up h8]
    go_enter Tryd.func50, Tryd.ntmps50
    go_wp2
    go_ret
    exact ⟨rfl, rfl⟩
  · by_cases h5 : 32 ≤ x
    · rw [kf_own h5 (by omega)]
      go_enter Tryd.func50, Tryd.ntmps50
      go_wp2
      go_ret
      exact ⟨rfl, rfl⟩
    · by_cases h4 : 24 ≤ x
      · rw [kf_lay h4 (by omega)]
        go_enter Tryd.func50, Tryd.ntmps50
        go_wp2
        go_ret
        exact ⟨rfl, rfl⟩
      · by_cases h3 : 16 ≤ x
        · rw [kf_chg h3 (by omega)]
          go_enter Tryd.func50, Tryd.ntmps50
          go_wp2
          go_ret
          exact ⟨rfl, rfl⟩
        · have hcs : x = 0 ∨ x = 1 ∨ x = 2 ∨ x = 3 ∨ x = 4 ∨ x = 5 ∨ x = 6 ∨ x = 7 ∨ x = 8 ∨ x = 9 ∨ x = 10 ∨ x = 11 ∨ x = 12 ∨ x = 13 ∨ x = 14 ∨ x = 15 := by omega
          clear h8 h5 h4 h3 x0 x1
          rcases hcs with rfl | rfl | rfl | rfl | rfl | rfl | rfl | rfl | rfl | rfl | rfl | rfl | rfl | rfl | rfl | rfl
          all_goals
            go_enter Tryd.func50, Tryd.ntmps50
            go_wp2
            go_ret
            exact ⟨rfl, rfl⟩
set_option maxHeartbeats 2000000 in
theorem unic_any (x : Int) (w : World) (x0 : 0 ≤ x) (x1 : x < 256) :
    Calls Tryd.prog 49 #[.int .u8 x] w fun e w' => e = .returned (.int .i64 (codeK (Exp.kindP true x))) ∧ w' = w := by
  by_cases h1 : x ≤ 223
  · rw [kt_unit (by omega)]
    go_enter Tryd.func49, Tryd.ntmps49
    go_wp2
    go_ret
    exact ⟨rfl, rfl⟩
  · by_cases h2 : 243 ≤ x
    · rw [kt_unit (by omega)]
      go_enter Tryd.func49, Tryd.ntmps49
      go_wp2
      go_ret
      exact ⟨rfl, rfl⟩
    · by_cases h3 : x ≤ 231
      · rw [kt_chg (by omega) (by omega)]
        go_enter Tryd.func49, Tryd.ntmps49
        go_wp2
        go_ret
        exact ⟨rfl, rfl⟩
      · by_cases h4 : x ≤ 239
        · rw [kt_lay (by omega) (by omega)]
          go_enter Tryd.func49, Tryd.ntmps49
          go_wp2
          go_ret
          exact ⟨rfl, rfl⟩
        · have hcs : x = 240 ∨ x = 241 ∨ x = 242 := by omega
          clear h1 h2 h3 h4 x0 x1
          rcases hcs with rfl | rfl | rfl
          all_goals
            go_enter Tryd.func49, Tryd.ntmps49
            go_wp2
            go_ret
            exact ⟨rfl, rfl⟩
set_option maxHeartbeats 1000000 in
theorem kind_any (D : Nat) (U : Bool) (x : Int) (w : World) (h : w.cell? ⟨D, 6, none⟩ = some (.bool U)) (x0 : 0 ≤ x) (x1 : x < 256) :
    Calls Tryd.prog 40 #[.pointer (some ⟨D, 0, none⟩), .int .u8 x] w fun e w' => e = .returned (.int .i64 (codeK (Exp.kindP U x))) ∧ w' = w := by
  cases U with
  | true =>
    go_enter Tryd.func40, Tryd.ntmps40
    go_wp2_with fail
    refine (unic_any x w x0 x1).mono ?_
    rintro e w1 ⟨rfl, rfl⟩
    obtain ⟨K, hK⟩ : ∃ K, codeK (Exp.kindP true x) = K := ⟨_, rfl⟩
    rw [hK]
    have HK : Hid (codeK (Exp.kindP true x) = K) := hK
    clear hK
    go_wp2
    go_ret
    exact ⟨ret_i HK.out.symm, rfl⟩
  | false =>
    go_enter Tryd.func40, Tryd.ntmps40
    go_wp2_with fail
    refine (sing_any x w x0 x1).mono ?_
    rintro e w1 ⟨rfl, rfl⟩
    obtain ⟨K, hK⟩ : ∃ K, codeK (Exp.kindP false x) = K := ⟨_, rfl⟩
    rw [hK]
    have HK : Hid (codeK (Exp.kindP false x) = K) := hK
    clear hK
    go_wp2
    go_ret
    exact ⟨ret_i HK.out.symm, rfl⟩
theorem and252_b : ∀ i : Fin 256, (bits .and .u8 ((i.val : Nat) : Int) 252 == 220) = Exp.lowB ((i.val : Nat) : Int) := by decide +kernel
theorem and252 {x : Int} (h : 0 ≤ x) (h1 : x < 256) : (bits .and .u8 x 252 == 220) = Exp.lowB x := by
  obtain ⟨k, rfl⟩ := Int.eq_ofNat_of_zero_le h
  exact and252_b ⟨k, by omega⟩
set_option maxHeartbeats 1000000 in
theorem opens_any (D : Nat) (U : Bool) (x : Int) (w : World) (h : w.cell? ⟨D, 7, none⟩ = some (.bool U)) (x0 : 0 ≤ x) (x1 : x < 256) :
    Calls Tryd.prog 51 #[.pointer (some ⟨D, 0, none⟩), .int .u8 x] w fun e w' => e = .returned (.bool (Exp.lowB x == U)) ∧ w' = w := by
  have hA := and252 x0 x1
  obtain ⟨A, hA2⟩ : ∃ A, bits .and .u8 x 252 = A := ⟨_, rfl⟩
  rw [hA2] at hA
  obtain ⟨L, hL⟩ : ∃ L, Exp.lowB x = L := ⟨_, rfl⟩
  rw [hL] at hA ⊢
  clear hL x0 x1
  cases U <;> cases L
  all_goals
    go_enter Tryd.func51, Tryd.ntmps51
    go_wp2
    go_ret
    exact ⟨by first | rfl | simp_all, rfl⟩
/-- The question, for a part's first byte. -/
theorem cell_first {w : World} {a : Option Addr} {n : Nat} {m : List Int} {k : IntKind} (h : Row k w a m) (hm : m.length = n) {i : Nat} (hi : i < n) : ∃ g o, a = some ⟨g, o, none⟩ ∧ w.cell? ⟨g, o + i, none⟩ = some (.int k (nth m i)) := by
  obtain ⟨g, o, ha, hc⟩ := h
  have hne : m ≠ [] := fun e => by subst e; simp at hm; omega
  exact ⟨g, o, ha hne, hc i (by omega)⟩
set_option maxHeartbeats 4000000 in
theorem fits0_any (D : Nat) (H : Bool) (K x : Int) (a : Option Addr) (c : Nat) (w : World) (h : w.cell? ⟨D, 7, none⟩ = some (.bool H)) (hr : Row .u8 w a [x]) (x0 : 0 ≤ x) (x1 : x < 256) :
    Calls Tryd.prog 41 #[.pointer (some ⟨D, 0, none⟩), .int .i64 K, .slice a 1 c] w fun e w' => e = .returned (.bool (if K = 4 then Exp.lowB x == H else decide (K ≠ 0) && (!H || decide (K = 5)))) ∧ ∃ n, w' = w.drewN n := by
  obtain ⟨g, o, rfl, hc⟩ := cell_first hr rfl (i := 0) (by simp)
  replace hc : w.cell? ⟨g, o, none⟩ = some (.int .u8 x) := hc
  clear hr
  by_cases k4 : K = 4
  · subst k4
    rw [if_pos rfl]
    have HO : Hid (∀ w : World, w.cell? ⟨D, 7, none⟩ = some (.bool H) → Calls Tryd.prog 51 #[.pointer (some ⟨D, 0, none⟩), .int .u8 x] w fun e w' => e = .returned (.bool (Exp.lowB x == H)) ∧ w' = w) := fun w h => opens_any D H x w h x0 x1
    obtain ⟨L, hL⟩ : ∃ L, (Exp.lowB x == H) = L := ⟨_, rfl⟩
    rw [hL] at HO ⊢
    clear hL
    go_enter Tryd.func41, Tryd.ntmps41
    go_wp2_with fail
    go_quiet (fail)
    go_wp2_with fail
    refine (HO.out _ (by exact h)).mono ?_
    rintro e w1 ⟨rfl, rfl⟩
    go_wp2
    go_ret
    exact ⟨rfl, _, rfl⟩
  · rw [if_neg k4]
    have n4 : (K == 4) = false := by simp [k4]
    by_cases k0 : K = 0
    · subst k0
      go_enter Tryd.func41, Tryd.ntmps41
      go_wp2_with fail
      go_quiet (fail)
      go_wp2
      go_ret
      exact ⟨rfl, _, rfl⟩
    · have n0 : (K == 0) = false := by simp [k0]
      have m0 : (K != 0) = true := by simp [k0]
      rw [decide_eq_true k0, Bool.true_and]
      by_cases k5 : K = 5
      · subst k5
        cases H
        all_goals
          go_enter Tryd.func41, Tryd.ntmps41
          go_wp2_with fail
          go_quiet (fail)
          go_wp2
          go_ret
          exact ⟨rfl, _, rfl⟩
      · have n5 : (K == 5) = false := by simp [k5]
        rw [decide_eq_false k5, Bool.or_false]
        cases H
        all_goals
          go_enter Tryd.func41, Tryd.ntmps41
          go_wp2_with fail
          go_quiet (fail)
          go_wp2
          go_ret
          exact ⟨rfl, _, rfl⟩
set_option maxHeartbeats 4000000 in
theorem fits1_any (D : Nat) (H : Bool) (K y x : Int) (a : Option Addr) (c : Nat) (w : World) (h : w.cell? ⟨D, 7, none⟩ = some (.bool H)) (hT : Tabs w) (hr : Row .u8 w a [y, x]) (x0 : 0 ≤ x) (x1 : x < 256) :
    Calls Tryd.prog 41 #[.pointer (some ⟨D, 0, none⟩), .int .i64 K, .slice a 2 c] w fun e w' => e = .returned (.bool (if K = 5 then Exp.lowB x == H else if K = 8 then offB x else true)) ∧ ∃ n, w' = w.drewN n := by
  obtain ⟨g, o, rfl, hc⟩ := cell_first hr rfl (i := 1) (by simp)
  replace hc : w.cell? ⟨g, o + 1, none⟩ = some (.int .u8 x) := hc
  have HT : Hid (∀ n, Tabs (w.drewN n)) := fun n => hT.drewN n
  clear hr hT
  by_cases k5 : K = 5
  · subst k5
    rw [if_pos rfl]
    have HO : Hid (∀ w : World, w.cell? ⟨D, 7, none⟩ = some (.bool H) → Calls Tryd.prog 51 #[.pointer (some ⟨D, 0, none⟩), .int .u8 x] w fun e w' => e = .returned (.bool (Exp.lowB x == H)) ∧ w' = w) := fun w h => opens_any D H x w h x0 x1
    obtain ⟨L, hL⟩ : ∃ L, (Exp.lowB x == H) = L := ⟨_, rfl⟩
    rw [hL] at HO ⊢
    clear hL
    go_enter Tryd.func41, Tryd.ntmps41
    go_wp2_with fail
    go_quiet (fail)
    go_wp2_with fail
    refine (HO.out _ (by exact h)).mono ?_
    rintro e w1 ⟨rfl, rfl⟩
    go_wp2
    go_ret
    exact ⟨rfl, _, rfl⟩
  · rw [if_neg k5]
    have n5 : (K == 5) = false := by simp [k5]
    by_cases k8 : K = 8
    · subst k8
      rw [if_pos rfl]
      go_enter Tryd.func41, Tryd.ntmps41
      go_wp2_with fail
      go_quiet (fail)
      go_wp2_with fail
      refine (offset_any x _ (HT.out _).win x0 x1).mono ?_
      rintro e w1 ⟨rfl, rfl⟩
      go_wp2
      go_ret
      exact ⟨rfl, _, rfl⟩
    · rw [if_neg k8]
      have n8 : (K == 8) = false := by simp [k8]
      by_cases k4 : K = 4
      · subst k4
        go_enter Tryd.func41, Tryd.ntmps41
        go_wp2_with fail
        go_quiet (fail)
        go_wp2
        go_ret
        exact ⟨rfl, _, rfl⟩
      · have n4 : (K == 4) = false := by simp [k4]
        go_enter Tryd.func41, Tryd.ntmps41
        go_wp2_with fail
        go_quiet (fail)
        go_wp2
        go_ret
        exact ⟨rfl, _, rfl⟩
set_option maxHeartbeats 4000000 in
theorem fits2_any (D : Nat) (K y z x : Int) (a : Option Addr) (c : Nat) (w : World) (hr : Row .u8 w a [y, z, x]) (k8 : K ≠ 8) :
    Calls Tryd.prog 41 #[.pointer (some ⟨D, 0, none⟩), .int .i64 K, .slice a 3 c] w fun e w' => e = .returned (.bool true) ∧ ∃ n, w' = w.drewN n := by
  obtain ⟨g, o, rfl, hc⟩ := cell_first hr rfl (i := 2) (by simp)
  replace hc : w.cell? ⟨g, o + 2, none⟩ = some (.int .u8 x) := hc
  clear hr
  have n8 : (K == 8) = false := by simp [k8]
  by_cases k4 : K = 4
  · subst k4
    go_enter Tryd.func41, Tryd.ntmps41
    go_wp2_with fail
    go_quiet (fail)
    go_wp2
    go_ret
    exact ⟨rfl, _, rfl⟩
  · have n4 : (K == 4) = false := by simp [k4]
    by_cases k5 : K = 5
    · subst k5
      go_enter Tryd.func41, Tryd.ntmps41
      go_wp2_with fail
      go_quiet (fail)
      go_wp2
      go_ret
      exact ⟨rfl, _, rfl⟩
    · have n5 : (K == 5) = false := by simp [k5]
      go_enter Tryd.func41, Tryd.ntmps41
      go_wp2_with fail
      go_quiet (fail)
      go_wp2
      go_ret
      exact ⟨rfl, _, rfl⟩
end EX
end Go.Proofs.YtohobpjiikpdmaaDoor
