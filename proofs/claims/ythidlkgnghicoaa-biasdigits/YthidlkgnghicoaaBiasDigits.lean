/-
  Any byte is worth what the document says, or nothing; any worth has the digit that it says, or none: the statement BiasDigits is proved, for every input. Conditions: none.
-/
import Derived.Test.YthidlkgnghicoaaBiaAwk
import Derived.Test.YthidlkgnghicoaaBiaRf1
import Derived.Test.YthidlkgnghicoaaBiaWf
namespace Go.Proofs.Ythidlkgnghicoaa.biasDigits
open Go.ChangeShapes Go.WideShapes Go.ChangeAt Go.RowKit
open Go.ChangeMaps (open_string shut_string)
open Bas Txt Bia
set_option linter.unusedVariables false

/-- What is told of a worth. -/
def letV (n : Int) : Int := if 0 ≤ n ∧ n < 36 then nth letL n.toNat else 0
def letB (n : Int) : Bool := decide (0 ≤ n ∧ n < 36)
/-- What is told of a byte. -/
def digV (c : Int) : Int := if digI c < 0 then 0 else digI c
def digB (c : Int) : Bool := decide (¬ digI c < 0)
theorem digit_any (c : Int) (w : World) (h0 : 0 ≤ c) (h1 : c < 256) :
    Calls Try.prog 15 #[.int .u8 c] w fun e w' => e = .returned (.tuple #[.int .i64 (digV c), .bool (digB c)]) ∧ w' = w := by
  by_cases h : digI c < 0
  · have e1 : digV c = 0 := by unfold digV; rw [if_pos h]
    have e2 : digB c = false := by unfold digB; simp [h]
    rw [e1, e2]; exact digit_no c w h h0 h1
  · have e1 : digV c = digI c := by unfold digV; rw [if_neg h]
    have e2 : digB c = true := by unfold digB; simp [h]
    rw [e1, e2]; exact digit_yes c _ w rfl (by omega) h0 h1
theorem letter_any (n : Int) (w : World) :
    Calls Try.prog 17 #[.int .i64 n] w fun e w' => e = .returned (.tuple #[.int .u8 (letV n), .bool (letB n)]) ∧ w' = w := by
  by_cases h : 0 ≤ n ∧ n < 36
  · have e1 : letV n = nth letL n.toNat := by unfold letV; rw [if_pos h]
    have e2 : letB n = true := by unfold letB; simp [h]
    rw [e1, e2]
    have := letter_yes n.toNat w (by omega)
    rwa [show ((n.toNat : Nat) : Int) = n by omega] at this
  · have e1 : letV n = 0 := by unfold letV; rw [if_neg h]
    have e2 : letB n = false := by unfold letB; simp [h]
    rw [e1, e2]; exact letter_no n w (by omega)
set_option maxHeartbeats 4000000 in
theorem walk (w : World) (c : Int) (wc : (Lit.int .u8 c).wf = true) (n : Int) (wn : (Lit.int .i64 n).wf = true) :
    Calls Try.prog 5 #[.int .u8 c, .int .i64 n] w fun e w' => e = .returned (.bool true) ∧ Below w.heap.size w w' := by
  obtain ⟨c0, c1⟩ := byte_of wc
  clear wc wn
  have HD : Hid (∀ w, Calls Try.prog 15 #[.int .u8 c] w fun e w' => e = .returned (.tuple #[.int .i64 (digV c), .bool (digB c)]) ∧ w' = w) := fun w => digit_any c w c0 c1
  have HR : Hid (∀ w, Calls Try.prog 16 #[.int .u8 c] w fun e w' => e = .returned (.int .i64 (digI c)) ∧ w' = w) := fun w => rDigit_any c w c0 c1
  have HL : Hid (∀ w, Calls Try.prog 17 #[.int .i64 n] w fun e w' => e = .returned (.tuple #[.int .u8 (letV n), .bool (letB n)]) ∧ w' = w) := fun w => letter_any n w
  have hdv : (digI c < 0 ∧ digV c = 0 ∧ digB c = false) ∨ (0 ≤ digI c ∧ digV c = digI c ∧ digB c = true) := by
    unfold digV digB
    by_cases h : digI c < 0
    · left; simp [h]
    · right; simp [h]; omega
  have hlv : ((n < 0 ∨ 35 < n) ∧ letV n = 0 ∧ letB n = false) ∨ (∃ k : Nat, n = (k : Int) ∧ k < 36 ∧ letV n = nth letL k ∧ letB n = true) := by
    unfold letV letB
    by_cases h : 0 ≤ n ∧ n < 36
    · right; exact ⟨n.toNat, by omega, by omega, by rw [if_pos h], by simp [h]⟩
    · left; exact ⟨by omega, by rw [if_neg h], by simp [h]⟩
  obtain ⟨dv, e1⟩ : ∃ x, digV c = x := ⟨_, rfl⟩
  obtain ⟨db, e2⟩ : ∃ x, digB c = x := ⟨_, rfl⟩
  obtain ⟨di, e3⟩ : ∃ x, digI c = x := ⟨_, rfl⟩
  obtain ⟨lv, e4⟩ : ∃ x, letV n = x := ⟨_, rfl⟩
  obtain ⟨lb, e5⟩ : ∃ x, letB n = x := ⟨_, rfl⟩
  rw [e1, e2] at HD hdv
  rw [e3] at HR hdv
  rw [e4, e5] at HL hlv
  clear e1 e2 e3 e4 e5
  obtain ⟨S, hS, hz, hX⟩ := letS_ex
  have HS : Hid (∀ w, Calls Try.prog 18 #[] w fun e w' => e = .returned (.string S) ∧ w' = w) := by rw [← hS]; exact rDigits_any
  have HX : Hid (bytesL S = letL) := hX
  clear hS hX
  go_enter Try.func5, Try.ntmps5
  go_wp2_with fail
  refine (HD.out w).mono ?_
  rintro e w1 ⟨rfl, hw⟩
  subst hw
  go_wp2_with fail
  refine (HR.out w1).mono ?_
  rintro e w2 ⟨rfl, hw⟩
  subst hw
  go_wp2_with fail
  refine (HL.out w2).mono ?_
  rintro e w3 ⟨rfl, hw⟩
  subst hw
  go_wp2_with fail
  refine (awake_any w3).mono ?_
  rintro e w4 ⟨rfl, hb⟩
  have HB : Hid (Below w3.heap.size w3 w4) := hb
  clear hb HD HR HL
  rcases hdv with ⟨a1, rfl, rfl⟩ | ⟨a1, rfl, rfl⟩
  all_goals
    rcases hlv with ⟨b1, rfl, rfl⟩ | ⟨k, rfl, hk, hkl, rfl⟩
    · rcases b1 with b1 | b1
      all_goals
        go_wp2
        go_ret
        exact ⟨rfl, HB.out⟩
    · have i1 : (k : Int) < 36 := by omega
      have hkS : k < S.size := by omega
      have e1 : ((S[k]'hkS).toNat : Int) = lv := by rw [hkl]; exact str_at HX.out _ _
      clear hkl
      go_wp2_with fail
      refine (HS.out w4).mono ?_
      rintro e w5 ⟨rfl, hw⟩
      subst hw
      go_wp2
      go_ret
      exact ⟨rfl, HB.out⟩
set_option maxRecDepth 100000 in
theorem lifted (os : Os) (started : os.Started) (H : Type) (enc : TypeId × Value → H) :
    ReturnsInHanded {} Try.checked os 5 .any (Rows.biasDigitsSpec.pre6 enc Try.prog Try.f5 Rows.biasDigitsRow.domain false) (Rows.biasDigitsSpec.post enc Try.prog Try.f5 false true false false) := by
  refine returnsInHanded_of_change (C := Try.checked) Bas.own started (by kernel_rfl) Try.func5
    (ChangeSpec.witness6 (enc := enc) (C := Try.checked) false ⟨#[], #[.int .u8 0, .int .i64 0], []⟩ 8 (by kernel_rfl) (by kernel_rfl) (by kernel_rfl) (by kernel_rfl)) ?_
  intro W base args ds gs before hval0 hW hcnd _
  have hval : ∀ (j : Nat) t v, Try.f5.params[j]? = some t → args[j]? = some v → Value.okWide Try.prog W .any base t v := hval0
  have hW' := hW
  obtain ⟨p, q, hA0, hV, rfl, hfz, hnd⟩ := hW
  have hA : DataW.TrodAll enc Try.prog W 0 (fun _ => true) true Try.f5.params.toList args.toList ds p := hA0
  rw [Try.params5] at hA hval
  obtain ⟨v0, vs0, d0, ds0, p0, q0, hargs, rfl, rfl, h0, r0⟩ := trodAll_cons hA
  obtain ⟨v1, vs1, d1, ds1, p1, q1, rfl, rfl, rfl, h1, r1⟩ := trodAll_cons r0
  obtain ⟨rfl, rfl, rfl⟩ := trodAll_nil r1
  obtain rfl : args = #[v0, v1] := by cases args; simp_all
  obtain ⟨rfl, rfl⟩ := trodVars_none hV
  have k0 := h0
  have lt0 : ∀ x ∈ p0, x.block < W.heap.size := by obtain ⟨m, hm⟩ := k0; exact DataW.trod_lt m _ _ _ hm
  have k1 := h1
  have lt1 : ∀ x ∈ p1, x.block < W.heap.size := by obtain ⟨m, hm⟩ := k1; exact DataW.trod_lt m _ _ _ hm
  obtain ⟨a0, rfl, rfl, rfl, w0⟩ := open_int Try.underlying5 (hval 0 5 v0 rfl rfl) h0
  obtain ⟨a1, rfl, rfl, rfl, w1⟩ := open_int Try.underlying3 (hval 1 3 v1 rfl rfl) h1
  refine (walk W a0 w0 a1 w1).mono fun e W' ⟨he, bel⟩ => ?_
  subst he
  exact ⟨_, rfl, _, _, _, [], _, [], hW', trodAll_mk1 (shut_bool Try.underlying4 _), (trodAll_cons_mk (Below.trod Bas.laidOut (by kernel_rfl) (of_decide_eq_true (by kernel_rfl)) k0 bel lt0) (trodAll_cons_mk (Below.trod Bas.laidOut (by kernel_rfl) (of_decide_eq_true (by kernel_rfl)) k1 bel lt1) trodAll_mk0)), rfl, bel.frame _, fun h => by cases h⟩

theorem over : Rows.biasDigitsRow.holds Try.pinned (OpenSpec.ofChange Rows.biasDigitsSpec) :=
  OpenClaim.holds_of_wide 5 Try.f5 rfl rfl rfl rfl rfl rfl rfl ⟨rfl, rfl, rfl, rfl, rfl⟩ rfl rfl rfl rfl rfl (by kernel_rfl) Try.func5 (by kernel_rfl)
    (of_decide_eq_true (by kernel_rfl)) (by unfold Func.isWrapper; first | (rw [if_pos (by decide +kernel)]; kernel_rfl) | (rw [if_neg (by decide +kernel)]; exact ⟨rfl, rfl⟩))
    (fun os started H enc _ => lifted os started H enc)
end Go.Proofs.Ythidlkgnghicoaa.biasDigits
namespace Go.Proofs.Ythidlkgnghicoaa
/-- The statement. -/
theorem biasDigits_proved : Rows.BiasDigitsSaid := biasDigits.over
end Go.Proofs.Ythidlkgnghicoaa
