/-
  Behind any number the bias is the document's, from 0 to 1000: the statement BiasAdapts is proved, for every input. Conditions: none.
-/
import Derived.Test.YthidlkgnghicoaaBiaAwk
import Derived.Test.YthidlkgnghicoaaBiaRf2
import Derived.Test.YthidlkgnghicoaaBiaWf
namespace Go.Proofs.Ythidlkgnghicoaa.biasAdapts
open Go.ChangeShapes Go.WideShapes Go.ChangeAt Go.RowKit
open Go.ChangeMaps (open_string shut_string)
open Bas Txt Bia
set_option linter.unusedVariables false

set_option maxHeartbeats 4000000 in
theorem walk (w : World) (d : Int) (wd : (Lit.int .u64 d).wf = true) (p : Int) (wp : (Lit.int .u64 p).wf = true) (f : Bool) :
    Calls Try.prog 3 #[.int .u64 d, .int .u64 p, .bool f] w fun e w' => e = .returned (.bool true) ∧ Below w.heap.size w w' := by
  obtain ⟨d, rfl, hd⟩ := u64_of wd
  obtain ⟨p, rfl, hp⟩ := u64_of wp
  clear wd wp
  have hA : adapt d p f ≤ 468 := by
    unfold adapt
    apply adK_max
    have h1 : d / (if f then 700 else 2) ≤ 9223372036854775807 := by cases f <;> simp <;> omega
    have h2 : d / (if f then 700 else 2) / max p 1 ≤ d / (if f then 700 else 2) := Nat.div_le_self _ _
    omega
  have HC : Hid (∀ w, Calls Try.prog 10 #[.int .u64 d, .int .u64 p, .bool f] w fun e w' => e = .returned (.int .i64 (adapt d p f)) ∧ w' = w) := fun w => adapt_any d p f w hd hp
  have HR : Hid (∀ w, Calls Try.prog 12 #[.int .u64 d, .int .u64 p, .bool f] w fun e w' => e = .returned (.int .i64 (adapt d p f)) ∧ w' = w) := fun w => rAdapt_any d p f w hd hp
  obtain ⟨A, hAe⟩ : ∃ A, adapt d p f = A := ⟨_, rfl⟩
  rw [hAe] at HC HR hA
  clear hAe
  have i1 : (A : Int) ≤ 1000 := by omega
  go_enter Try.func3, Try.ntmps3
  go_wp2_with fail
  refine (HC.out w).mono ?_
  rintro e w1 ⟨rfl, hw⟩
  subst hw
  go_wp2_with fail
  refine (awake_any w1).mono ?_
  rintro e w2 ⟨rfl, hb⟩
  have HB : Hid (Below w1.heap.size w1 w2) := hb
  clear hb
  go_wp2_with fail
  refine (HR.out w2).mono ?_
  rintro e w3 ⟨rfl, hw⟩
  subst hw
  go_wp2
  go_ret
  exact ⟨rfl, HB.out⟩
set_option maxRecDepth 100000 in
theorem lifted (os : Os) (started : os.Started) (H : Type) (enc : TypeId × Value → H) :
    ReturnsInHanded {} Try.checked os 3 .any (Rows.biasAdaptsSpec.pre6 enc Try.prog Try.f3 Rows.biasAdaptsRow.domain false) (Rows.biasAdaptsSpec.post enc Try.prog Try.f3 false true false false) := by
  refine returnsInHanded_of_change (C := Try.checked) Bas.own started (by kernel_rfl) Try.func3
    (ChangeSpec.witness6 (enc := enc) (C := Try.checked) false ⟨#[], #[.int .u64 0, .int .u64 0, .bool false], []⟩ 8 (by kernel_rfl) (by kernel_rfl) (by kernel_rfl) (by kernel_rfl)) ?_
  intro W base args ds gs before hval0 hW hcnd _
  have hval : ∀ (j : Nat) t v, Try.f3.params[j]? = some t → args[j]? = some v → Value.okWide Try.prog W .any base t v := hval0
  have hW' := hW
  obtain ⟨p, q, hA0, hV, rfl, hfz, hnd⟩ := hW
  have hA : DataW.TrodAll enc Try.prog W 0 (fun _ => true) true Try.f3.params.toList args.toList ds p := hA0
  rw [Try.params3] at hA hval
  obtain ⟨v0, vs0, d0, ds0, p0, q0, hargs, rfl, rfl, h0, r0⟩ := trodAll_cons hA
  obtain ⟨v1, vs1, d1, ds1, p1, q1, rfl, rfl, rfl, h1, r1⟩ := trodAll_cons r0
  obtain ⟨v2, vs2, d2, ds2, p2, q2, rfl, rfl, rfl, h2, r2⟩ := trodAll_cons r1
  obtain ⟨rfl, rfl, rfl⟩ := trodAll_nil r2
  obtain rfl : args = #[v0, v1, v2] := by cases args; simp_all
  obtain ⟨rfl, rfl⟩ := trodVars_none hV
  have k0 := h0
  have lt0 : ∀ x ∈ p0, x.block < W.heap.size := by obtain ⟨m, hm⟩ := k0; exact DataW.trod_lt m _ _ _ hm
  have k1 := h1
  have lt1 : ∀ x ∈ p1, x.block < W.heap.size := by obtain ⟨m, hm⟩ := k1; exact DataW.trod_lt m _ _ _ hm
  have k2 := h2
  have lt2 : ∀ x ∈ p2, x.block < W.heap.size := by obtain ⟨m, hm⟩ := k2; exact DataW.trod_lt m _ _ _ hm
  obtain ⟨a0, rfl, rfl, rfl, w0⟩ := open_int Try.underlying22 (hval 0 22 v0 rfl rfl) h0
  obtain ⟨a1, rfl, rfl, rfl, w1⟩ := open_int Try.underlying22 (hval 1 22 v1 rfl rfl) h1
  obtain ⟨a2, rfl, rfl, rfl⟩ := open_bool Try.underlying4 (hval 2 4 v2 rfl rfl) h2
  refine (walk W a0 w0 a1 w1 a2).mono fun e W' ⟨he, bel⟩ => ?_
  subst he
  exact ⟨_, rfl, _, _, _, [], _, [], hW', trodAll_mk1 (shut_bool Try.underlying4 _), (trodAll_cons_mk (Below.trod Bas.laidOut (by kernel_rfl) (of_decide_eq_true (by kernel_rfl)) k0 bel lt0) (trodAll_cons_mk (Below.trod Bas.laidOut (by kernel_rfl) (of_decide_eq_true (by kernel_rfl)) k1 bel lt1) (trodAll_cons_mk (Below.trod Bas.laidOut (by kernel_rfl) (of_decide_eq_true (by kernel_rfl)) k2 bel lt2) trodAll_mk0))), rfl, bel.frame _, fun h => by cases h⟩

theorem over : Rows.biasAdaptsRow.holds Try.pinned (OpenSpec.ofChange Rows.biasAdaptsSpec) :=
  OpenClaim.holds_of_wide 3 Try.f3 rfl rfl rfl rfl rfl rfl rfl ⟨rfl, rfl, rfl, rfl, rfl⟩ rfl rfl rfl rfl rfl (by kernel_rfl) Try.func3 (by kernel_rfl)
    (of_decide_eq_true (by kernel_rfl)) (by unfold Func.isWrapper; first | (rw [if_pos (by decide +kernel)]; kernel_rfl) | (rw [if_neg (by decide +kernel)]; exact ⟨rfl, rfl⟩))
    (fun os started H enc _ => lifted os started H enc)
end Go.Proofs.Ythidlkgnghicoaa.biasAdapts
namespace Go.Proofs.Ythidlkgnghicoaa
/-- The statement. -/
theorem biasAdapts_proved : Rows.BiasAdaptsSaid := biasAdapts.over
end Go.Proofs.Ythidlkgnghicoaa
