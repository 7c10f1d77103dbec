/-
  Contracts of the document's functions of layer 9 on numbers: bound, Threshold, Digits, Digit, as walks over the translated text. The condition: whole numbers of their kinds.
-/
import Derived.Test.YthidlkgnghicoaaBia1
namespace Go.Proofs.Ythidlkgnghicoaa
open Go.ChangeShapes Go.WideShapes Go.ChangeAt Go.RowKit
namespace Bia
open Bas Txt
set_option linter.unusedVariables false

set_option maxHeartbeats 400000 in
theorem rBound_any (x : Int) (w : World) : Calls Try.prog 25 #[.int .i64 x] w fun e w' => e = .returned (.int .i64 (clampI x 0 1000)) ∧ w' = w := by
  by_cases h1 : x < 0
  · have H : Hid (clampI x 0 1000 = 0) := clamp_lo h1
    rw [H.out]
    go_enter Try.func25, Try.ntmps25
    go_wp2
    go_ret
    exact ⟨rfl, rfl⟩
  · by_cases h2 : 1000 < x
    · have H : Hid (clampI x 0 1000 = 1000) := clamp_hi (by decide) h2
      rw [H.out]
      go_enter Try.func25, Try.ntmps25
      go_wp2
      go_ret
      exact ⟨rfl, rfl⟩
    · have H : Hid (clampI x 0 1000 = x) := clamp_in (by omega) (by omega)
      rw [H.out]
      go_enter Try.func25, Try.ntmps25
      go_wp2
      go_ret
      exact ⟨rfl, rfl⟩
set_option maxHeartbeats 1000000 in
theorem rThr_any (p b : Int) (w : World) : Calls Try.prog 14 #[.int .i64 p, .int .i64 b] w fun e w' => e = .returned (.int .i64 (thrI p b)) ∧ w' = w := by
  have H : Hid (clampI (36 * (clampI p 0 1000 + 1) - clampI b 0 1000) 1 26 = thrI p b) := rfl
  have h1 := clamp_rng p (l := 0) (h := 1000) (by decide)
  have h2 := clamp_rng b (l := 0) (h := 1000) (by decide)
  obtain ⟨x, hx⟩ : ∃ x, clampI p 0 1000 = x := ⟨_, rfl⟩
  obtain ⟨y, hy⟩ : ∃ y, clampI b 0 1000 = y := ⟨_, rfl⟩
  have HX : Hid (clampI p 0 1000 = x ∧ clampI b 0 1000 = y) := ⟨hx, hy⟩
  rw [hx] at h1
  rw [hy] at h2
  rw [hx, hy] at H
  clear hx hy
  go_enter Try.func14, Try.ntmps14
  go_wp2_with fail
  refine (rBound_any p w).mono ?_
  rintro e w1 ⟨rfl, hw⟩
  subst hw
  rw [HX.out.1]
  go_wp2_with fail
  refine (rBound_any b w1).mono ?_
  rintro e w2 ⟨rfl, hw⟩
  subst hw
  rw [HX.out.2]
  by_cases a1 : 36 * (x + 1) - y < 1
  · have HC := clamp_lo (h := 26) a1
    rw [H.out] at HC
    have HC2 : Hid (thrI p b = 1) := HC
    clear HC H
    go_wp2
    go_ret
    exact ⟨ret_int HC2.out.symm, rfl⟩
  · by_cases a2 : 26 < 36 * (x + 1) - y
    · have HC := clamp_hi (l := 1) (h := 26) (by decide) a2
      rw [H.out] at HC
      have HC2 : Hid (thrI p b = 26) := HC
      clear HC H
      go_wp2
      go_ret
      exact ⟨ret_int HC2.out.symm, rfl⟩
    · have HC := clamp_in (l := 1) (h := 26) (x := 36 * (x + 1) - y) (by omega) (by omega)
      rw [H.out] at HC
      have HC2 : Hid (thrI p b = 36 * (x + 1) - y) := HC
      clear HC H
      go_wp2
      go_ret
      exact ⟨ret_int HC2.out.symm, rfl⟩
set_option maxHeartbeats 400000 in
theorem rDigits_any (w : World) : Calls Try.prog 18 #[] w fun e w' => e = .returned (.string letS) ∧ w' = w := by
  go_enter Try.func18, Try.ntmps18
  go_wp2
  go_ret
  exact ⟨rfl, rfl⟩
theorem letS_ex : ∃ S, letS = S ∧ S.size = 36 ∧ bytesL S = letL := ⟨_, rfl, letS_size, letS_bytes⟩
theorem str_at {S : ByteArray} {l : List Int} (h : bytesL S = l) (k : Nat) (hk : k < S.size) : ((S[k]'hk).toNat : Int) = nth l k := by rw [str_nth, h]
theorem dig_hit {c : Int} (h0 : 0 ≤ c) (h1 : c < 256) {d : Nat} (hd : d < 36) (h : nth letL d = smallI c) : digI c = (d : Int) := by
  have := let_hit ⟨c.toNat, by omega⟩ ⟨d, hd⟩
  simp only at this
  rw [show ((c.toNat : Nat) : Int) = c by omega] at this
  exact this h
theorem dig_miss {c : Int} (h0 : 0 ≤ c) (h1 : c < 256) (h : ∀ d : Nat, d < 36 → nth letL d ≠ smallI c) : digI c = -1 := by
  have := let_miss ⟨c.toNat, by omega⟩
  simp only at this
  rw [show ((c.toNat : Nat) : Int) = c by omega] at this
  exact this (fun d => h d.val d.isLt)
set_option maxHeartbeats 4000000 in
theorem rDigit_any (c : Int) (w : World) (h0 : 0 ≤ c) (h1 : c < 256) : Calls Try.prog 16 #[.int .u8 c] w fun e w' => e = .returned (.int .i64 (digI c)) ∧ w' = w := by
  obtain ⟨S, hS, hz, hX⟩ := letS_ex
  have HR : Hid (∀ w, Calls Try.prog 18 #[] w fun e w' => e = .returned (.string S) ∧ w' = w) := by rw [← hS]; exact rDigits_any
  have HX : Hid (bytesL S = letL) := hX
  clear hS hX
  have HH : Hid (∀ d : Nat, d < 36 → nth letL d = smallI c → digI c = (d : Int)) := fun d => dig_hit h0 h1
  have HM : Hid ((∀ d : Nat, d < 36 → nth letL d ≠ smallI c) → digI c = -1) := dig_miss h0 h1
  obtain ⟨g, hg⟩ : ∃ g, digI c = g := ⟨_, rfl⟩
  rw [hg] at HH HM ⊢
  clear hg
  by_cases hb : 65 ≤ c ∧ c ≤ 90
  · have hb1 := hb.1
    have hb2 := hb.2
    have he : smallI c = c + 32 := by unfold smallI; rw [if_pos hb]
    rw [he] at HH HM
    clear he hb
    go_enter Try.func16, Try.ntmps16
    go_wp2
    go_loopw [3] (fun i wq => ∃ j : Nat, i = .int .i64 j ∧ j ≤ 36 ∧ (∀ i, i < j → nth letL i ≠ c + 32) ∧ wq = w) (fun i _ => 36 - (intOf i).toNat)
    case atStart => exact ⟨0, rfl, Nat.zero_le _, fun i hi => by omega, rfl⟩
    case round =>
      obtain ⟨j, rfl, hj, hall, hwq⟩ := hrel
      subst hwq
      have HA : Hid (∀ i, i < j → nth letL i ≠ c + 32) := hall
      clear hall
      by_cases hlt : j < 36
      · have i1 : (j : Int) < 36 := by omega
        have hlt2 : j < S.size := by omega
        have e1 : ((S[j]'hlt2).toNat : Int) = nth letL j := str_at HX.out _ _
        go_wp2_with fail
        refine (HR.out wr).mono ?_
        rintro e w1 ⟨rfl, hw⟩
        subst hw
        by_cases he : nth letL j = c + 32
        · have HG : Hid (g = (j : Int)) := HH.out j hlt he
          rw [he] at e1
          clear he
          go_wp2
          go_ret
          exact ⟨by rw [HG.out]; rfl, rfl⟩
        · have HN : Hid (nth letL j ≠ c + 32) := he
          have hb : (nth letL j == c + 32) = false := by simp [he]
          clear he
          go_wp2
          go_roundw
          case rel =>
            refine ⟨j + 1, by go_num, by omega, fun i hi => ?_, trivial⟩
            by_cases e : i = j
            · rw [e]; exact HN.out
            · exact HA.out i (by omega)
          case measure => simp [intOf]; omega
      · have HG : Hid (g = -1) := HM.out (fun i hi => HA.out i (by omega))
        have i1 : (36 : Int) ≤ (j : Int) := by omega
        go_wp2
        go_ret
        exact ⟨by rw [HG.out]; rfl, rfl⟩
  · have he : smallI c = c := by unfold smallI; rw [if_neg hb]
    rw [he] at HH HM
    clear he
    by_cases hb1 : 65 ≤ c
    · have hb2 : 90 < c := by omega
      clear hb
      go_enter Try.func16, Try.ntmps16
      go_wp2
      go_loopw [3] (fun i wq => ∃ j : Nat, i = .int .i64 j ∧ j ≤ 36 ∧ (∀ i, i < j → nth letL i ≠ c) ∧ wq = w) (fun i _ => 36 - (intOf i).toNat)
      case atStart => exact ⟨0, rfl, Nat.zero_le _, fun i hi => by omega, rfl⟩
      case round =>
        obtain ⟨j, rfl, hj, hall, hwq⟩ := hrel
        subst hwq
        have HA : Hid (∀ i, i < j → nth letL i ≠ c) := hall
        clear hall
        by_cases hlt : j < 36
        · have i1 : (j : Int) < 36 := by omega
          have hlt2 : j < S.size := by omega
          have e1 : ((S[j]'hlt2).toNat : Int) = nth letL j := str_at HX.out _ _
          go_wp2_with fail
          refine (HR.out wr).mono ?_
          rintro e w1 ⟨rfl, hw⟩
          subst hw
          by_cases he : nth letL j = c
          · have HG : Hid (g = (j : Int)) := HH.out j hlt he
            rw [he] at e1
            clear he
            go_wp2
            go_ret
            exact ⟨by rw [HG.out]; rfl, rfl⟩
          · have HN : Hid (nth letL j ≠ c) := he
            have hb : (nth letL j == c) = false := by simp [he]
            clear he
            go_wp2
            go_roundw
            case rel =>
              refine ⟨j + 1, by go_num, by omega, fun i hi => ?_, trivial⟩
              by_cases e : i = j
              · rw [e]; exact HN.out
              · exact HA.out i (by omega)
            case measure => simp [intOf]; omega
        · have HG : Hid (g = -1) := HM.out (fun i hi => HA.out i (by omega))
          have i1 : (36 : Int) ≤ (j : Int) := by omega
          go_wp2
          go_ret
          exact ⟨by rw [HG.out]; rfl, rfl⟩
    · clear hb
      go_enter Try.func16, Try.ntmps16
      go_wp2
      go_loopw [3] (fun i wq => ∃ j : Nat, i = .int .i64 j ∧ j ≤ 36 ∧ (∀ i, i < j → nth letL i ≠ c) ∧ wq = w) (fun i _ => 36 - (intOf i).toNat)
      case atStart => exact ⟨0, rfl, Nat.zero_le _, fun i hi => by omega, rfl⟩
      case round =>
        obtain ⟨j, rfl, hj, hall, hwq⟩ := hrel
        subst hwq
        have HA : Hid (∀ i, i < j → nth letL i ≠ c) := hall
        clear hall
        by_cases hlt : j < 36
        · have i1 : (j : Int) < 36 := by omega
          have hlt2 : j < S.size := by omega
          have e1 : ((S[j]'hlt2).toNat : Int) = nth letL j := str_at HX.out _ _
          go_wp2_with fail
          refine (HR.out wr).mono ?_
          rintro e w1 ⟨rfl, hw⟩
          subst hw
          by_cases he : nth letL j = c
          · have HG : Hid (g = (j : Int)) := HH.out j hlt he
            rw [he] at e1
            clear he
            go_wp2
            go_ret
            exact ⟨by rw [HG.out]; rfl, rfl⟩
          · have HN : Hid (nth letL j ≠ c) := he
            have hb : (nth letL j == c) = false := by simp [he]
            clear he
            go_wp2
            go_roundw
            case rel =>
              refine ⟨j + 1, by go_num, by omega, fun i hi => ?_, trivial⟩
              by_cases e : i = j
              · rw [e]; exact HN.out
              · exact HA.out i (by omega)
            case measure => simp [intOf]; omega
        · have HG : Hid (g = -1) := HM.out (fun i hi => HA.out i (by omega))
          have i1 : (36 : Int) ≤ (j : Int) := by omega
          go_wp2
          go_ret
          exact ⟨by rw [HG.out]; rfl, rfl⟩
end Bia
end Go.Proofs.Ythidlkgnghicoaa
