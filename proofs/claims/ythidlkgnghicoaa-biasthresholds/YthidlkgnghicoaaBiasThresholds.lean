/-
  The threshold of any place is the document's, from 1 to 26, and doesn't fall from place to place: the statement BiasThresholds is proved, for every input. Conditions: none.
-/
import Derived.Test.YthidlkgnghicoaaBiaAwk
import Derived.Test.YthidlkgnghicoaaBiaRf1
namespace Go.Proofs.Ythidlkgnghicoaa.biasThresholds
open Go.ChangeShapes Go.WideShapes Go.ChangeAt Go.RowKit
open Go.ChangeMaps (open_string shut_string)
open Bas Txt Bia
set_option linter.unusedVariables false

set_option maxHeartbeats 4000000 in
theorem walk (w : World) (p : Int) (wp : (Lit.int .i64 p).wf = true) (b : Int) (wb : (Lit.int .i64 b).wf = true) :
    Calls Try.prog 4 #[.int .i64 p, .int .i64 b] w fun e w' => e = .returned (.bool true) ∧ Below w.heap.size w w' := by
  clear wp wb
  have hr := thrI_rng p b
  have hm := thrI_mono (show p ≤ p + 1 by omega) b
  have HT : Hid (∀ w, Calls Try.prog 13 #[.int .i64 p, .int .i64 b] w fun e w' => e = .returned (.int .i64 (thrI p b)) ∧ w' = w) := thr_any p b
  have HR : Hid (∀ w, Calls Try.prog 14 #[.int .i64 p, .int .i64 b] w fun e w' => e = .returned (.int .i64 (thrI p b)) ∧ w' = w) := rThr_any p b
  have HN : Hid (∀ w, Calls Try.prog 13 #[.int .i64 (p + 1), .int .i64 b] w fun e w' => e = .returned (.int .i64 (thrI (p + 1) b)) ∧ w' = w) := thr_any (p + 1) b
  obtain ⟨t, ht⟩ : ∃ t, thrI p b = t := ⟨_, rfl⟩
  obtain ⟨u, hu⟩ : ∃ u, thrI (p + 1) b = u := ⟨_, rfl⟩
  rw [ht] at HT HR hr hm
  rw [hu] at HN hm
  clear ht hu
  obtain ⟨r1, r2⟩ := hr
  go_enter Try.func4, Try.ntmps4
  go_wp2_with fail
  refine (HT.out w).mono ?_
  rintro e w1 ⟨rfl, hw⟩
  subst hw
  go_wp2_with fail
  refine (awake_any w1).mono ?_
  rintro e w2 ⟨rfl, hb⟩
  have HB : Hid (Below w1.heap.size w1 w2) := hb
  clear hb
  go_wp2_with fail
  refine (HR.out w2).mono ?_
  rintro e w3 ⟨rfl, hw⟩
  subst hw
  by_cases h1 : p < 0
  · go_wp2
    go_ret
    exact ⟨rfl, HB.out⟩
  · by_cases h2 : 900 < p
    · go_wp2
      go_ret
      exact ⟨rfl, HB.out⟩
    · go_wp2_with fail
      refine (HN.out w3).mono ?_
      rintro e w4 ⟨rfl, hw⟩
      subst hw
      go_wp2
      go_ret
      exact ⟨rfl, HB.out⟩
set_option maxRecDepth 100000 in
theorem lifted (os : Os) (started : os.Started) (H : Type) (enc : TypeId × Value → H) :
    ReturnsInHanded {} Try.checked os 4 .any (Rows.biasThresholdsSpec.pre6 enc Try.prog Try.f4 Rows.biasThresholdsRow.domain false) (Rows.biasThresholdsSpec.post enc Try.prog Try.f4 false true false false) := by
  refine returnsInHanded_of_change (C := Try.checked) Bas.own started (by kernel_rfl) Try.func4
    (ChangeSpec.witness6 (enc := enc) (C := Try.checked) false ⟨#[], #[.int .i64 0, .int .i64 0], []⟩ 8 (by kernel_rfl) (by kernel_rfl) (by kernel_rfl) (by kernel_rfl)) ?_
  intro W base args ds gs before hval0 hW hcnd _
  have hval : ∀ (j : Nat) t v, Try.f4.params[j]? = some t → args[j]? = some v → Value.okWide Try.prog W .any base t v := hval0
  have hW' := hW
  obtain ⟨p, q, hA0, hV, rfl, hfz, hnd⟩ := hW
  have hA : DataW.TrodAll enc Try.prog W 0 (fun _ => true) true Try.f4.params.toList args.toList ds p := hA0
  rw [Try.params4] at hA hval
  obtain ⟨v0, vs0, d0, ds0, p0, q0, hargs, rfl, rfl, h0, r0⟩ := trodAll_cons hA
  obtain ⟨v1, vs1, d1, ds1, p1, q1, rfl, rfl, rfl, h1, r1⟩ := trodAll_cons r0
  obtain ⟨rfl, rfl, rfl⟩ := trodAll_nil r1
  obtain rfl : args = #[v0, v1] := by cases args; simp_all
  obtain ⟨rfl, rfl⟩ := trodVars_none hV
  have k0 := h0
  have lt0 : ∀ x ∈ p0, x.block < W.heap.size := by obtain ⟨m, hm⟩ := k0; exact DataW.trod_lt m _ _ _ hm
  have k1 := h1
  have lt1 : ∀ x ∈ p1, x.block < W.heap.size := by obtain ⟨m, hm⟩ := k1; exact DataW.trod_lt m _ _ _ hm
  obtain ⟨a0, rfl, rfl, rfl, w0⟩ := open_int Try.underlying3 (hval 0 3 v0 rfl rfl) h0
  obtain ⟨a1, rfl, rfl, rfl, w1⟩ := open_int Try.underlying3 (hval 1 3 v1 rfl rfl) h1
  refine (walk W a0 w0 a1 w1).mono fun e W' ⟨he, bel⟩ => ?_
  subst he
  exact ⟨_, rfl, _, _, _, [], _, [], hW', trodAll_mk1 (shut_bool Try.underlying4 _), (trodAll_cons_mk (Below.trod Bas.laidOut (by kernel_rfl) (of_decide_eq_true (by kernel_rfl)) k0 bel lt0) (trodAll_cons_mk (Below.trod Bas.laidOut (by kernel_rfl) (of_decide_eq_true (by kernel_rfl)) k1 bel lt1) trodAll_mk0)), rfl, bel.frame _, fun h => by cases h⟩

theorem over : Rows.biasThresholdsRow.holds Try.pinned (OpenSpec.ofChange Rows.biasThresholdsSpec) :=
  OpenClaim.holds_of_wide 4 Try.f4 rfl rfl rfl rfl rfl rfl rfl ⟨rfl, rfl, rfl, rfl, rfl⟩ rfl rfl rfl rfl rfl (by kernel_rfl) Try.func4 (by kernel_rfl)
    (of_decide_eq_true (by kernel_rfl)) (by unfold Func.isWrapper; first | (rw [if_pos (by decide +kernel)]; kernel_rfl) | (rw [if_neg (by decide +kernel)]; exact ⟨rfl, rfl⟩))
    (fun os started H enc _ => lifted os started H enc)
end Go.Proofs.Ythidlkgnghicoaa.biasThresholds
namespace Go.Proofs.Ythidlkgnghicoaa
/-- The statement. -/
theorem biasThresholds_proved : Rows.BiasThresholdsSaid := biasThresholds.over
end Go.Proofs.Ythidlkgnghicoaa
