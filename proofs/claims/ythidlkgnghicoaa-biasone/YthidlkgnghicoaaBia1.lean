/-
  Contracts of bias's functions on numbers: clamp, Threshold, spanAt, heavier, Digit, Letter, as walks over the translated text. The condition: whole numbers of their kinds.
-/
import Derived.Test.YthidlkgnghicoaaTxt
import Derived.Test.YthidlkgnghicoaaBiaMath
import Derived.Lib.MinMax
import Derived.OwnWalk
namespace Go.Proofs.Ythidlkgnghicoaa
open Go.ChangeShapes Go.WideShapes Go.ChangeAt Go.RowKit
namespace Bia
open Bas Txt
set_option linter.unusedVariables false

theorem clamp_eq (x : Int) {l h : Int} (hl : l ≤ h) : min (max x l) h = clampI x l h := by
  unfold clampI; repeat' split
  all_goals omega
set_option maxHeartbeats 400000 in
theorem clamp_any (x l h : Int) (w : World) (hl : l ≤ h) :
    Calls Try.prog 24 #[.int .i64 x, .int .i64 l, .int .i64 h] w fun e w' => e = .returned (.int .i64 (clampI x l h)) ∧ w' = w := by
  have H : Hid (min (max x l) h = clampI x l h) := clamp_eq x hl
  go_enter Try.func24, Try.ntmps24
  go_wp2
  go_ret
  exact ⟨ret_int H.out, rfl⟩
set_option maxHeartbeats 400000 in
theorem thr_any (p b : Int) (w : World) :
    Calls Try.prog 13 #[.int .i64 p, .int .i64 b] w fun e w' => e = .returned (.int .i64 (thrI p b)) ∧ w' = w := by
  have H : Hid (clampI (36 * (clampI p 0 1000 + 1) - clampI b 0 1000) 1 26 = thrI p b) := rfl
  have h1 := clamp_rng p (l := 0) (h := 1000) (by decide)
  have h2 := clamp_rng b (l := 0) (h := 1000) (by decide)
  obtain ⟨x, hx⟩ : ∃ x, clampI p 0 1000 = x := ⟨_, rfl⟩
  obtain ⟨y, hy⟩ : ∃ y, clampI b 0 1000 = y := ⟨_, rfl⟩
  have HX : Hid (clampI p 0 1000 = x ∧ clampI b 0 1000 = y) := ⟨hx, hy⟩
  rw [hx] at h1
  rw [hy] at h2
  rw [hx, hy] at H
  clear hx hy
  go_enter Try.func13, Try.ntmps13
  go_wp2_with fail
  refine (clamp_any p 0 1000 w (by decide)).mono ?_
  rintro e w1 ⟨rfl, hw⟩
  subst hw
  rw [HX.out.1]
  go_wp2_with fail
  refine (clamp_any b 0 1000 w1 (by decide)).mono ?_
  rintro e w2 ⟨rfl, hw⟩
  subst hw
  rw [HX.out.2]
  go_wp2_with fail
  refine (clamp_any (36 * (x + 1) - y) 1 26 w2 (by decide)).mono ?_
  rintro e w3 ⟨rfl, hw⟩
  subst hw
  rw [H.out]
  go_wp2
  go_ret
  exact ⟨rfl, rfl⟩
set_option maxHeartbeats 400000 in
theorem span_any (p : Nat) (b : Int) (w : World) :
    Calls Try.prog 26 #[.int .i64 p, .int .i64 b] w fun e w' => e = .returned (.tuple #[.int .u64 (thr b p), .int .u64 (36 - (thr b p : Int))]) ∧ w' = w := by
  have HE : Hid (thrI p b = (thr b p : Int)) := thr_eq b p
  have hr := thr_rng b p
  obtain ⟨t, ht⟩ : ∃ t, thr b p = t := ⟨_, rfl⟩
  rw [ht] at HE hr ⊢
  clear ht
  go_enter Try.func26, Try.ntmps26
  go_wp2_with fail
  refine (thr_any p b w).mono ?_
  rintro e w1 ⟨rfl, hw⟩
  subst hw
  rw [HE.out]
  go_wp2
  go_ret2
  exact ⟨rfl, rfl⟩
theorem heavy_gt {w t : Nat} (h : w > top / (36 - t)) : heavy w t = top + 1 := by unfold heavy; rw [if_pos h]
theorem heavy_le {w t : Nat} (h : ¬ w > top / (36 - t)) : heavy w t = w * (36 - t) := by unfold heavy; rw [if_neg h]
set_option maxHeartbeats 400000 in
theorem heavy_any (v t : Nat) (w : World) (ht1 : 1 ≤ t) (ht : t ≤ 26) (hv : v ≤ top + 1) :
    Calls Try.prog 27 #[.int .u64 v, .int .u64 (36 - (t : Int))] w fun e w' => e = .returned (.int .u64 (heavy v t)) ∧ w' = w := by
  obtain ⟨s, hs, h0, h1⟩ : ∃ s : Nat, 36 - t = s ∧ 10 ≤ s ∧ s ≤ 35 := ⟨_, rfl, by omega, by omega⟩
  have e1 : (36 - (t : Int)) = (s : Int) := by omega
  rw [e1]
  have hq : (4611686018427387904 : Int) / (s : Int) = ((top / s : Nat) : Int) := by rw [Int.natCast_ediv]; rfl
  by_cases h : v > top / (36 - t)
  · have HH : Hid (((heavy v t : Nat) : Int) = 4611686018427387905) := by
      show _ = _
      rw [heavy_gt h]; rfl
    rw [HH.out]
    rw [hs] at h
    unfold top at hv
    go_enter Try.func27, Try.ntmps27
    go_wp2
    go_ret
    exact ⟨rfl, rfl⟩
  · have HH : Hid (((heavy v t : Nat) : Int) = (v : Int) * (s : Int)) := by
      show _ = _
      rw [heavy_le h, hs]; exact Int.natCast_mul ..
    rw [HH.out]
    rw [hs] at h
    unfold top at hv
    have hm : (v : Int) * (s : Int) ≤ 4611686018427387904 := by
      have h2 := Nat.mul_le_mul_right s (Nat.le_of_not_gt h)
      have h3 := Nat.div_mul_le_self top s
      have h4 : v * s ≤ top := by omega
      unfold top at h4
      have h5 : ((v * s : Nat) : Int) ≤ 4611686018427387904 := by omega
      rwa [Int.natCast_mul] at h5
    have hm0 : 0 ≤ (v : Int) * (s : Int) := Int.mul_nonneg (by omega) (by omega)
    go_enter Try.func27, Try.ntmps27
    go_wp2
    go_ret
    exact ⟨rfl, rfl⟩
theorem digI_cases {c d : Int} (h : digI c = d) (h0 : 0 ≤ d) : (97 ≤ c ∧ c ≤ 122 ∧ d = c - 97) ∨ (65 ≤ c ∧ c ≤ 90 ∧ d = c - 65) ∨ (48 ≤ c ∧ c ≤ 57 ∧ d = c - 48 + 26) := by
  unfold digI at h; repeat' split at h
  all_goals omega
theorem digI_none {c : Int} (h : digI c < 0) : ¬ (97 ≤ c ∧ c ≤ 122) ∧ ¬ (65 ≤ c ∧ c ≤ 90) ∧ ¬ (48 ≤ c ∧ c ≤ 57) := by
  unfold digI at h; repeat' split at h
  all_goals omega
set_option maxHeartbeats 1000000 in
theorem digit_yes (c d : Int) (w : World) (h : digI c = d) (hd : 0 ≤ d) (h0 : 0 ≤ c) (h1 : c < 256) :
    Calls Try.prog 15 #[.int .u8 c] w fun e w' => e = .returned (.tuple #[.int .i64 d, .bool true]) ∧ w' = w := by
  rcases digI_cases h hd with ⟨a1, a2, rfl⟩ | ⟨a1, a2, rfl⟩ | ⟨a1, a2, rfl⟩
  all_goals
    clear h
    go_enter Try.func15, Try.ntmps15
    go_wp2
    go_ret2
    exact ⟨rfl, rfl⟩
set_option maxHeartbeats 1000000 in
theorem digit_no (c : Int) (w : World) (h : digI c < 0) (h0 : 0 ≤ c) (h1 : c < 256) :
    Calls Try.prog 15 #[.int .u8 c] w fun e w' => e = .returned (.tuple #[.int .i64 0, .bool false]) ∧ w' = w := by
  obtain ⟨n1, n2, n3⟩ := digI_none h
  clear h
  go_enter Try.func15, Try.ntmps15
  go_wp2
  all_goals
    go_ret2
    exact ⟨rfl, rfl⟩
/-- The digits by their worth, as a text. -/
abbrev letS : ByteArray := { data := #[97, 98, 99, 100, 101, 102, 103, 104, 105, 106, 107, 108, 109, 110, 111, 112, 113, 114, 115, 116, 117, 118, 119, 120, 121, 122, 48, 49, 50, 51, 52, 53, 54, 55, 56, 57] }
theorem letS_size : letS.size = 36 := rfl
theorem letS_bytes : bytesL letS = letL := by decide +kernel
theorem let_at (d : Nat) (h : d < letS.size) : ((letS[d]'h).toNat : Int) = nth letL d := by rw [str_nth, letS_bytes]
set_option maxHeartbeats 1000000 in
theorem letter_no (d : Int) (w : World) (h : d < 0 ∨ 36 ≤ d) :
    Calls Try.prog 17 #[.int .i64 d] w fun e w' => e = .returned (.tuple #[.int .u8 0, .bool false]) ∧ w' = w := by
  rcases h with h | h
  all_goals
    go_enter Try.func17, Try.ntmps17
    go_wp2
    go_ret2
    exact ⟨rfl, rfl⟩
set_option maxHeartbeats 1000000 in
theorem letter_yes (d : Nat) (w : World) (h : d < 36) :
    Calls Try.prog 17 #[.int .i64 d] w fun e w' => e = .returned (.tuple #[.int .u8 (nth letL d), .bool true]) ∧ w' = w := by
  have i1 : (d : Int) < 36 := by omega
  go_enter Try.func17, Try.ntmps17
  go_wp2
  go_ret2
  exact ⟨congrArg (fun x => Ending.returned (.tuple #[.int .u8 x, .bool true])) (let_at d h), rfl⟩
end Bia
end Go.Proofs.Ythidlkgnghicoaa
