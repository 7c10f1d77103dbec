/-
  The contract of bias.Adapt, as a walk over the translated text. The condition: whole numbers of 64 bits.
-/
import Derived.Test.YthidlkgnghicoaaBia1
namespace Go.Proofs.Ythidlkgnghicoaa
open Go.ChangeShapes Go.WideShapes Go.ChangeAt Go.RowKit
namespace Bia
open Bas Txt
set_option linter.unusedVariables false

theorem adK_ge (d k : Nat) : 36 * k ≤ adK d k := by
  induction d using Nat.strongRecOn generalizing k with
  | _ d ih =>
    by_cases h : d > 455
    · rw [adK_more h]
      have := ih (d / 35) (Nat.div_lt_self (by omega) (by decide)) (k + 1)
      omega
    · rw [adK_last h]; exact Nat.le_add_right _ _
/-- What is known of a number and how often it was divided. -/
def AdRel (A d k : Nat) : Prop := adK d k = A ∧ d < 18446744073709551616 ∧ k ≤ 13
theorem AdRel.zero {d : Nat} (h : d < 18446744073709551616) : AdRel (adK d 0) d 0 := ⟨rfl, h, by decide⟩
theorem AdRel.next {A d k : Nat} (h : AdRel A d k) (hA : A ≤ 468) (hd : d > 455) : AdRel A (d / 35) (k + 1) := by
  obtain ⟨h1, h2, h3⟩ := h
  have := adK_ge (d / 35) (k + 1)
  rw [adK_more hd] at h1
  exact ⟨h1, by omega, by omega⟩
set_option maxHeartbeats 2000000 in
theorem adapt_go (delta points D q Z : Nat) (first : Bool) (w : World) (hd : delta < 18446744073709551616) (hp : points < 18446744073709551616)
    (hD : D = delta / (if first then 700 else 2)) (hq : q = max points 1) (hZ : Z = D / q) :
    Calls Try.prog 10 #[.int .u64 delta, .int .u64 points, .bool first] w fun e w' => e = .returned (.int .i64 (adK (D + Z) 0)) ∧ w' = w := by
  have hm : max (points : Int) 1 = (q : Int) := by omega
  have hq1 : 1 ≤ q := by omega
  have hZ1 : Z ≤ D := by rw [hZ]; exact Nat.div_le_self _ _
  have hz : (D : Int) / (q : Int) = (Z : Int) := by rw [hZ, Int.natCast_ediv]
  have hDb : D ≤ 9223372036854775807 := by rw [hD]; cases first <;> simp <;> omega
  have HA : Hid (adK (D + Z) 0 ≤ 468) := adK_max (by omega)
  have HS : Hid (AdRel (adK (D + Z) 0) (D + Z) 0) := AdRel.zero (by omega)
  obtain ⟨A, hA⟩ : ∃ A, adK (D + Z) 0 = A := ⟨_, rfl⟩
  rw [hA] at HA HS ⊢
  clear hA hZ hq
  cases first
  · have he : (delta : Int) / 2 = (D : Int) := by rw [hD]; simp
    clear hD
    go_enter Try.func10, Try.ntmps10
    go_wp2
    go_loopw [0, 7] (fun x i wr => ∃ d k : Nat, x = .int .u64 d ∧ i = .int .i64 k ∧ AdRel A d k ∧ wr = w) (fun x _ _ => (intOf x).toNat)
    case atStart => exact ⟨D + Z, 0, by go_num, rfl, HS.out, rfl⟩
    case round =>
      obtain ⟨d, k, rfl, rfl, hr, hwr⟩ := hrel
      subst hwr
      have HR : Hid (AdRel A d k) := hr
      have hd := hr.2.1
      have hk := hr.2.2
      clear hr
      by_cases hlt : d > 455
      · have HN : Hid (AdRel A (d / 35) (k + 1)) := HR.out.next HA.out hlt
        have i1 : (455 : Int) < (d : Int) := by omega
        go_wp2
        go_roundw
        case rel => exact ⟨d / 35, k + 1, by go_num, by go_num, HN.out, trivial⟩
        case measure => simp [intOf]; omega
      · have HE : Hid (A = 36 * k + 36 * d / (d + 38)) := by
          have h := HR.out.1
          rw [adK_last hlt] at h
          exact h.symm
        have hY := ad_left d
        obtain ⟨Y, hYe⟩ : ∃ Y, 36 * d / (d + 38) = Y := ⟨_, rfl⟩
        rw [hYe] at HE hY
        have hy : 36 * (d : Int) / ((d : Int) + 38) = (Y : Int) := by rw [← hYe, Int.natCast_ediv]; rfl
        clear hYe
        have i1 : (d : Int) ≤ 455 := by omega
        go_wp2
        go_ret
        exact ⟨ret_int (by rw [HE.out]; omega), rfl⟩
  · have he : (delta : Int) / 700 = (D : Int) := by rw [hD]; simp
    clear hD
    go_enter Try.func10, Try.ntmps10
    go_wp2
    go_loopw [0, 7] (fun x i wr => ∃ d k : Nat, x = .int .u64 d ∧ i = .int .i64 k ∧ AdRel A d k ∧ wr = w) (fun x _ _ => (intOf x).toNat)
    case atStart => exact ⟨D + Z, 0, by go_num, rfl, HS.out, rfl⟩
    case round =>
      obtain ⟨d, k, rfl, rfl, hr, hwr⟩ := hrel
      subst hwr
      have HR : Hid (AdRel A d k) := hr
      have hd := hr.2.1
      have hk := hr.2.2
      clear hr
      by_cases hlt : d > 455
      · have HN : Hid (AdRel A (d / 35) (k + 1)) := HR.out.next HA.out hlt
        have i1 : (455 : Int) < (d : Int) := by omega
        go_wp2
        go_roundw
        case rel => exact ⟨d / 35, k + 1, by go_num, by go_num, HN.out, trivial⟩
        case measure => simp [intOf]; omega
      · have HE : Hid (A = 36 * k + 36 * d / (d + 38)) := by
          have h := HR.out.1
          rw [adK_last hlt] at h
          exact h.symm
        have hY := ad_left d
        obtain ⟨Y, hYe⟩ : ∃ Y, 36 * d / (d + 38) = Y := ⟨_, rfl⟩
        rw [hYe] at HE hY
        have hy : 36 * (d : Int) / ((d : Int) + 38) = (Y : Int) := by rw [← hYe, Int.natCast_ediv]; rfl
        clear hYe
        have i1 : (d : Int) ≤ 455 := by omega
        go_wp2
        go_ret
        exact ⟨ret_int (by rw [HE.out]; omega), rfl⟩
theorem adapt_any (delta points : Nat) (first : Bool) (w : World) (hd : delta < 18446744073709551616) (hp : points < 18446744073709551616) :
    Calls Try.prog 10 #[.int .u64 delta, .int .u64 points, .bool first] w fun e w' => e = .returned (.int .i64 (adapt delta points first)) ∧ w' = w :=
  adapt_go delta points _ _ _ first w hd hp rfl rfl rfl
end Bia
end Go.Proofs.Ythidlkgnghicoaa
