/-
  Digits that are got are put again as they were, with small letters: the statement BiasOne is proved, for every input. Conditions: none.
-/
import Derived.Test.YthidlkgnghicoaaBiaAwk
import Derived.Test.YthidlkgnghicoaaBia4
import Derived.Test.YthidlkgnghicoaaBiaRf3
import Derived.Test.YthidlkgnghicoaaBiaRf5
import Derived.Deep.DeepCutAuto
import Derived.Deep.CutBlock
import Derived.Deep.RegionHeld3
namespace Go.Proofs.Ythidlkgnghicoaa.biasOne
open Go.ChangeShapes Go.WideShapes Go.ChangeAt Go.RowKit
open Go.ChangeMaps (open_string shut_string)
open Bas Txt Bia
set_option linter.unusedVariables false

theorem one (b : Int) (s : ByteArray) (N e : Nat) (h : getF b 0 0 0 1 ((bytesL s).drop 0) = (N, e, 0)) :
    1 ≤ e ∧ e ≤ s.size ∧ N ≤ 4611686018427387904 ∧ strOf (putL b 0 N) = strOf ((bytesL (s.extract 0 e)).map smallI) := by
  rw [List.drop_zero] at h
  obtain ⟨n, k, h1, h2, h3, h4, h5, h6⟩ := put_get b (bytesL s) 0 0 0 1 N e (bytesL_byte s) (Nat.le_refl _) (Nat.zero_le _) h
  rw [Nat.zero_add] at h1 h5
  rw [Nat.mul_one] at h5
  subst h1 h5
  rw [bytesL_length] at h3
  exact ⟨h2, h3, h4, by rw [h6, bytesL_ext, List.drop_zero]⟩
set_option maxHeartbeats 4000000 in
theorem walk (w : World) (s : ByteArray) (ws : s.size ≤ maxLen) (b : Int) (wb : (Lit.int .i64 b).wf = true) :
    Calls Try.prog 9 #[.string s, .int .i64 b] w fun e w' => e = .returned (.bool true) ∧ Below w.heap.size w w' := by
  clear wb
  unfold maxLen at ws
  go_enter Try.func9, Try.ntmps9
  go_wp2_with fail
  refine (awake_any w).mono ?_
  rintro e w1 ⟨rfl, hb⟩
  have HB1 : Hid (Below w.heap.size w w1) := hb
  clear hb
  by_cases hs : s.size ≤ 300
  · have hs' : (s.size : Int) ≤ 300 := by omega
    have HA : Hid (∀ w, Calls Try.prog 21 #[.string s, .int .i64 0, .int .i64 b] w fun e w' => e = .returned (getV (getF b 0 0 0 1 ((bytesL s).drop 0))) ∧ w' = w) := fun w => get_any s 0 b w (by omega) (Nat.zero_le _)
    have HE : Hid ((getF b 0 0 0 1 ((bytesL s).drop 0)).2.2 ≠ 0 → getF b 0 0 0 1 ((bytesL s).drop 0) = (0, 0, (getF b 0 0 0 1 ((bytesL s).drop 0)).2.2)) := getF_err b _ 0 0 0 1
    have HO : Hid (∀ N e, getF b 0 0 0 1 ((bytesL s).drop 0) = (N, e, 0) → 1 ≤ e ∧ e ≤ s.size ∧ N ≤ 4611686018427387904 ∧ strOf (putL b 0 N) = strOf ((bytesL (s.extract 0 e)).map smallI)) := one b s
    obtain ⟨R, hR⟩ : ∃ R, getF b 0 0 0 1 ((bytesL s).drop 0) = R := ⟨_, rfl⟩
    rw [hR] at HA HE HO
    clear hR
    obtain ⟨n, q, er⟩ := R
    by_cases he : er = 0
    · subst he
      obtain ⟨o1, o2, o3, o4⟩ := HO.out n q rfl
      clear HE HO
      have H4 : Hid (strOf (putL b 0 n) = strOf ((bytesL (s.extract 0 q)).map smallI)) := o4
      clear o4
      unfold getV at HA
      simp only at HA
      have j1 : (1 : Int) ≤ (q : Int) := by omega
      have j2 : (q : Int) ≤ (s.size : Int) := by omega
      have hez : (s.extract 0 q).size ≤ 1000000 := by simp; omega
      go_wp2_with fail
      refine (HA.out w1).mono ?_
      rintro e w2 ⟨rfl, hw⟩
      subst hw
      have HP : Hid (∀ w, Calls Try.prog 19 #[.int .u64 n, .int .i64 b] w fun e w' => e = .returned (.string (strOf ((bytesL (s.extract 0 q)).map smallI))) ∧ Below w.heap.size w w') := fun w => by
        have := put_any n b w (by omega)
        rw [H4.out] at this
        exact this
      have HM : Hid (∀ w, Calls Try.prog 23 #[.string (s.extract 0 q)] w fun e w' => e = .returned (.string (strOf ((bytesL (s.extract 0 q)).map smallI))) ∧ Below w.heap.size w w') := fun w => rSmall_any (s.extract 0 q) w hez
      obtain ⟨x, hx⟩ : ∃ x, strOf ((bytesL (s.extract 0 q)).map smallI) = x := ⟨_, rfl⟩
      rw [hx] at HP HM
      clear hx H4 hez HA
      go_upto_region 6 with fail
      have B9 : Below w.heap.size w w2.drew := below_two HB1.out ((Below.refl _ _).drew)
      clear HB1
      go_region_held3 (fun w' => True) (exact trivial) (first
        | (go_at_call 19; refine (HP.out _).mono ?_; rintro e w6 ⟨rfl, b6⟩; have B9 := below_two B9 b6; clear b6)
        | (go_at_call 23; refine (HM.out _).mono ?_; rintro e w7 ⟨rfl, b7⟩; have B9 := below_two B9 b7; clear b7))
      all_goals
        go_wp2
        go_ret
        exact ⟨rfl, B9⟩
    · have h0 := HE.out he
      clear HE HO
      simp only [Prod.mk.injEq] at h0
      obtain ⟨rfl, rfl, -⟩ := h0
      unfold getV at HA
      simp only at HA
      have i1 : (er : Int) ≠ 0 := by omega
      go_wp2_with fail
      refine (HA.out w1).mono ?_
      rintro e w2 ⟨rfl, hw⟩
      subst hw
      go_wp2
      go_ret
      exact ⟨rfl, HB1.out⟩
  · have hs' : (300 : Int) < (s.size : Int) := by omega
    go_wp2_with fail
    refine (awake_any w1).mono ?_
    rintro e w2 ⟨rfl, hb2⟩
    have HB2 : Hid (Below w.heap.size w w2) := below_two HB1.out hb2
    clear hb2
    go_wp2
    go_ret
    exact ⟨rfl, HB2.out⟩
set_option maxRecDepth 100000 in
theorem lifted (os : Os) (started : os.Started) (H : Type) (enc : TypeId × Value → H) :
    ReturnsInHanded {} Try.checked os 9 .any (Rows.biasOneSpec.pre6 enc Try.prog Try.f9 Rows.biasOneRow.domain false) (Rows.biasOneSpec.post enc Try.prog Try.f9 false true false false) := by
  refine returnsInHanded_of_change (C := Try.checked) Bas.own started (by kernel_rfl) Try.func9
    (ChangeSpec.witness6 (enc := enc) (C := Try.checked) false ⟨#[], #[.string ByteArray.empty, .int .i64 0], []⟩ 8 (by kernel_rfl) (by kernel_rfl) (by kernel_rfl) (by kernel_rfl)) ?_
  intro W base args ds gs before hval0 hW hcnd _
  have hval : ∀ (j : Nat) t v, Try.f9.params[j]? = some t → args[j]? = some v → Value.okWide Try.prog W .any base t v := hval0
  have hW' := hW
  obtain ⟨p, q, hA0, hV, rfl, hfz, hnd⟩ := hW
  have hA : DataW.TrodAll enc Try.prog W 0 (fun _ => true) true Try.f9.params.toList args.toList ds p := hA0
  rw [Try.params9] at hA hval
  obtain ⟨v0, vs0, d0, ds0, p0, q0, hargs, rfl, rfl, h0, r0⟩ := trodAll_cons hA
  obtain ⟨v1, vs1, d1, ds1, p1, q1, rfl, rfl, rfl, h1, r1⟩ := trodAll_cons r0
  obtain ⟨rfl, rfl, rfl⟩ := trodAll_nil r1
  obtain rfl : args = #[v0, v1] := by cases args; simp_all
  obtain ⟨rfl, rfl⟩ := trodVars_none hV
  have k0 := h0
  have lt0 : ∀ x ∈ p0, x.block < W.heap.size := by obtain ⟨m, hm⟩ := k0; exact DataW.trod_lt m _ _ _ hm
  have k1 := h1
  have lt1 : ∀ x ∈ p1, x.block < W.heap.size := by obtain ⟨m, hm⟩ := k1; exact DataW.trod_lt m _ _ _ hm
  obtain ⟨a0, rfl, rfl, rfl, w0⟩ := open_string Try.underlying9 (hval 0 9 v0 rfl rfl) h0
  obtain ⟨a1, rfl, rfl, rfl, w1⟩ := open_int Try.underlying3 (hval 1 3 v1 rfl rfl) h1
  refine (walk W a0 w0 a1 w1).mono fun e W' ⟨he, bel⟩ => ?_
  subst he
  exact ⟨_, rfl, _, _, _, [], _, [], hW', trodAll_mk1 (shut_bool Try.underlying4 _), (trodAll_cons_mk (Below.trod Bas.laidOut (by kernel_rfl) (of_decide_eq_true (by kernel_rfl)) k0 bel lt0) (trodAll_cons_mk (Below.trod Bas.laidOut (by kernel_rfl) (of_decide_eq_true (by kernel_rfl)) k1 bel lt1) trodAll_mk0)), rfl, bel.frame _, fun h => by cases h⟩

theorem over : Rows.biasOneRow.holds Try.pinned (OpenSpec.ofChange Rows.biasOneSpec) :=
  OpenClaim.holds_of_wide 9 Try.f9 rfl rfl rfl rfl rfl rfl rfl ⟨rfl, rfl, rfl, rfl, rfl⟩ rfl rfl rfl rfl rfl (by kernel_rfl) Try.func9 (by kernel_rfl)
    (of_decide_eq_true (by kernel_rfl)) (by unfold Func.isWrapper; first | (rw [if_pos (by decide +kernel)]; kernel_rfl) | (rw [if_neg (by decide +kernel)]; exact ⟨rfl, rfl⟩))
    (fun os started H enc _ => lifted os started H enc)
end Go.Proofs.Ythidlkgnghicoaa.biasOne
namespace Go.Proofs.Ythidlkgnghicoaa
/-- The statement. -/
theorem biasOne_proved : Rows.BiasOneSaid := biasOne.over
end Go.Proofs.Ythidlkgnghicoaa
