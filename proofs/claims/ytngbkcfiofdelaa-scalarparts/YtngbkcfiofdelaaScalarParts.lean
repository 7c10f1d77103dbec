/-
  What stands ahead of two lists plays no part for their order; units of two lists are those of both: the statement ScalarParts is proved, for every input. Conditions: none.
-/
import Derived.Test.YtngbkcfiofdelaaScaA
import Derived.Test.YtngbkcfiofdelaaScaJ
namespace Go.Proofs.Ytngbkcfiofdelaa.scalarParts
open Go.ChangeShapes Go.WideShapes Go.ChangeAt Go.RowKit
open Go.ChangeMaps (open_string shut_string)
open Bas Sca
set_option linter.unusedVariables false

theorem flat2 (a b : List Int) : [a, b].flatten = a ++ b := by simp

set_option maxHeartbeats 4000000 in
theorem short (w : World) (a0 : Option Addr) (n0 c0 : Nat) (l0 : List Int) (I0 : Ints .u32 w a0 n0 c0 l0) (a1 : Option Addr) (n1 c1 : Nat) (l1 : List Int) (I1 : Ints .u32 w a1 n1 c1 l1) (a2 : Option Addr) (n2 c2 : Nat) (l2 : List Int) (I2 : Ints .u32 w a2 n2 c2 l2)
    (h0 : n0 ≤ 500) (h1 : n1 ≤ 500) (h2 : n2 ≤ 500) :
    Calls Try.prog 7 #[.slice a0 n0 c0, .slice a1 n1 c1, .slice a2 n2 c2] w fun e w' => e = .returned (.bool true) ∧ Below w.heap.size w w' := by
  have HF : Hid (cmpL (l2 ++ l0) (l2 ++ l1) = cmpL l0 l1) := cmpL_front l2 l0 l1
  have HU : Hid (unitsL (l2 ++ l0) = unitsL l2 + unitsL l0) := unitsL_append l2 l0
  have u0 := unitsL_bd l0
  have u2 := unitsL_bd l2
  have e0 := I0.len
  have e1 := I1.len
  have e2 := I2.len
  go_enter Try.func7, Try.ntmps7
  go_wp2_with fail
  refine (awake_any _).mono ?_
  rintro e w1 ⟨rfl, hb1⟩
  have J0 := I0.mono hb1
  have J1 := I1.mono hb1
  have J2 := I2.mono hb1
  clear I0 I1 I2
  go_wp2_with fail
  refine (join_any _ 2 2 [l2, l0] _ (by exact rows2_pair J2 J0 _ rfl) rfl (by simp; omega) (by unfold maxLen; omega)).mono ?_
  rintro e w2 ⟨v1, rfl, o1, b1⟩
  have B1 : Below w1.heap.size w1 w2 := below_two ((Below.refl _ _).alloc (Nat.le_refl _) _) b1
  clear b1
  rw [flat2] at o1
  have y1 : (l2 ++ l0).length = n2 + n0 := by simp; omega
  obtain ⟨x1, d1, hv1, s1, z1, _, _⟩ := o1.row
  rw [y1] at hv1 z1
  subst hv1
  have Y1 : Hid ((l2 ++ l0).length = n2 + n0) := y1
  clear y1
  have K0 := J0.mono B1
  have K1 := J1.mono B1
  have K2 := J2.mono B1
  clear J0 J1 J2 o1
  have B2 := below_two hb1 B1
  clear hb1 B1
  go_wp2_with fail
  refine (join_any _ 2 2 [l2, l1] _ (by exact rows2_pair K2 K1 _ rfl) rfl (by simp; omega) (by unfold maxLen; omega)).mono ?_
  rintro e w3 ⟨v2, rfl, o2, b2⟩
  have B3 : Below w2.heap.size w2 w3 := below_two ((Below.refl _ _).alloc (Nat.le_refl _) _) b2
  clear b2
  rw [flat2] at o2
  have y2 : (l2 ++ l1).length = n2 + n1 := by simp; omega
  obtain ⟨x2, d2, hv2, s2, z2, _, _⟩ := o2.row
  rw [y2] at hv2 z2
  subst hv2
  have Y2 : Hid ((l2 ++ l1).length = n2 + n1) := y2
  clear y2
  have L0 := K0.mono B3
  have L1 := K1.mono B3
  have L2 := K2.mono B3
  have t1 := s1.mono B3
  clear K0 K1 K2 o2 s1
  have B4 := below_two B2 B3
  clear B2 B3
  go_wp2_with fail
  refine (sOrder_any _ _ _ _ _ _ _ _ _ t1 s2 Y1.out Y2.out z1 z2).mono ?_
  rintro e w4 ⟨rfl, hw⟩; subst hw
  rw [HF.out]
  go_wp2_with fail
  refine (sOrder_any _ _ _ _ _ _ _ _ _ L0.row L1.row L0.len L1.len L0.max L1.max).mono ?_
  rintro e w4 ⟨rfl, hw⟩; subst hw
  go_wp2_with fail
  refine (sUnits_any _ _ _ _ _ t1 Y1.out (by omega)).mono ?_
  rintro e w4 ⟨rfl, hw⟩; subst hw
  rw [HU.out]
  go_wp2_with fail
  refine (sUnits_any _ _ _ _ _ L2.row L2.len (by omega)).mono ?_
  rintro e w4 ⟨rfl, hw⟩; subst hw
  go_wp2_with fail
  refine (sUnits_any _ _ _ _ _ L0.row L0.len (by omega)).mono ?_
  rintro e w4 ⟨rfl, hw⟩; subst hw
  go_wp2
  go_ret
  exact ⟨rfl, B4⟩

set_option maxHeartbeats 1000000 in
theorem walk (w : World) (a0 : Option Addr) (n0 c0 : Nat) (l0 : List Int) (I0 : Ints .u32 w a0 n0 c0 l0) (a1 : Option Addr) (n1 c1 : Nat) (l1 : List Int) (I1 : Ints .u32 w a1 n1 c1 l1) (a2 : Option Addr) (n2 c2 : Nat) (l2 : List Int) (I2 : Ints .u32 w a2 n2 c2 l2) :
    Calls Try.prog 7 #[.slice a0 n0 c0, .slice a1 n1 c1, .slice a2 n2 c2] w fun e w' => e = .returned (.bool true) ∧ Below w.heap.size w w' := by
  by_cases h0 : n0 ≤ 500
  · by_cases h1 : n1 ≤ 500
    · by_cases h2 : n2 ≤ 500
      · exact short w a0 n0 c0 l0 I0 a1 n1 c1 l1 I1 a2 n2 c2 l2 I2 h0 h1 h2
      · clear I0 I1 I2
        go_enter Try.func7, Try.ntmps7
        go_wp2_with fail
        refine (awake_any _).mono ?_
        rintro e w1 ⟨rfl, hb1⟩
        go_wp2_with fail
        refine (awake_any _).mono ?_
        rintro e w2 ⟨rfl, hb2⟩
        go_wp2
        go_ret
        exact ⟨rfl, below_two hb1 hb2⟩
    · clear I0 I1 I2
      go_enter Try.func7, Try.ntmps7
      go_wp2_with fail
      refine (awake_any _).mono ?_
      rintro e w1 ⟨rfl, hb1⟩
      go_wp2_with fail
      refine (awake_any _).mono ?_
      rintro e w2 ⟨rfl, hb2⟩
      go_wp2
      go_ret
      exact ⟨rfl, below_two hb1 hb2⟩
  · clear I0 I1 I2
    go_enter Try.func7, Try.ntmps7
    go_wp2_with fail
    refine (awake_any _).mono ?_
    rintro e w1 ⟨rfl, hb1⟩
    go_wp2_with fail
    refine (awake_any _).mono ?_
    rintro e w2 ⟨rfl, hb2⟩
    go_wp2
    go_ret
    exact ⟨rfl, below_two hb1 hb2⟩

set_option maxRecDepth 100000 in
theorem lifted (os : Os) (started : os.Started) (H : Type) (enc : TypeId × Value → H) :
    ReturnsInHanded {} Try.checked os 7 .any (Rows.scalarPartsSpec.pre6 enc Try.prog Try.f7 Rows.scalarPartsRow.domain false) (Rows.scalarPartsSpec.post enc Try.prog Try.f7 false true false false) := by
  refine returnsInHanded_of_change (C := Try.checked) Bas.own started (by kernel_rfl) Try.func7
    (ChangeSpec.witness6 (enc := enc) (C := Try.checked) false ⟨#[], #[.slice none 0 0, .slice none 0 0, .slice none 0 0], []⟩ 8 (by kernel_rfl) (by kernel_rfl) (by kernel_rfl) (by kernel_rfl)) ?_
  intro W base args ds gs before hval0 hW hcnd _
  have hval : ∀ (j : Nat) t v, Try.f7.params[j]? = some t → args[j]? = some v → Value.okWide Try.prog W .any base t v := hval0
  have hW' := hW
  obtain ⟨p, q, hA0, hV, rfl, hfz, hnd⟩ := hW
  have hA : DataW.TrodAll enc Try.prog W 0 (fun _ => true) true Try.f7.params.toList args.toList ds p := hA0
  rw [Try.params7] at hA hval
  obtain ⟨v0, vs0, d0, ds0, p0, q0, hargs, rfl, rfl, h0, r0⟩ := trodAll_cons hA
  obtain ⟨v1, vs1, d1, ds1, p1, q1, rfl, rfl, rfl, h1, r1⟩ := trodAll_cons r0
  obtain ⟨v2, vs2, d2, ds2, p2, q2, rfl, rfl, rfl, h2, r2⟩ := trodAll_cons r1
  obtain ⟨rfl, rfl, rfl⟩ := trodAll_nil r2
  obtain rfl : args = #[v0, v1, v2] := by cases args; simp_all
  obtain ⟨rfl, rfl⟩ := trodVars_none hV
  have k0 := h0
  have lt0 : ∀ x ∈ p0, x.block < W.heap.size := by obtain ⟨m, hm⟩ := k0; exact DataW.trod_lt m _ _ _ hm
  have k1 := h1
  have lt1 : ∀ x ∈ p1, x.block < W.heap.size := by obtain ⟨m, hm⟩ := k1; exact DataW.trod_lt m _ _ _ hm
  have k2 := h2
  have lt2 : ∀ x ∈ p2, x.block < W.heap.size := by obtain ⟨m, hm⟩ := k2; exact DataW.trod_lt m _ _ _ hm
  obtain ⟨a0, n0, c0, rfl⟩ := okWide_slice Try.underlying26 (hval 0 26 v0 rfl rfl)
  obtain ⟨l0, I0⟩ : ∃ l : List Int, Bas.Ints .u32 W a0 n0 c0 l := by
    obtain ⟨fuel, hf⟩ := h0
    rcases open_ints Try.underlying26 Try.underlying22 (by kernel_rfl) hf with ⟨hcs, _⟩ | ⟨x, l, c, zs, hcs, _, hl, hm, hz, _, hcell, hwz⟩
    · simp [Value.cells] at hcs
      obtain ⟨rfl, rfl, rfl⟩ := hcs
      exact ⟨[], Bas.row_nil _ _ _, rfl, by unfold maxLen; omega, by simp, fun _ => rfl⟩
    · simp [Value.cells] at hcs
      obtain ⟨rfl, rfl, rfl⟩ := hcs
      have hz' : zs.length = c0 := by simpa using hz
      exact ⟨zs.take n0, Bas.row_of _ _ _ _ _ (by omega) hcell, by simp; omega, by omega, fun n hn => hwz n (List.mem_of_mem_take hn), fun h => by cases h⟩
  obtain ⟨a1, n1, c1, rfl⟩ := okWide_slice Try.underlying26 (hval 1 26 v1 rfl rfl)
  obtain ⟨l1, I1⟩ : ∃ l : List Int, Bas.Ints .u32 W a1 n1 c1 l := by
    obtain ⟨fuel, hf⟩ := h1
    rcases open_ints Try.underlying26 Try.underlying22 (by kernel_rfl) hf with ⟨hcs, _⟩ | ⟨x, l, c, zs, hcs, _, hl, hm, hz, _, hcell, hwz⟩
    · simp [Value.cells] at hcs
      obtain ⟨rfl, rfl, rfl⟩ := hcs
      exact ⟨[], Bas.row_nil _ _ _, rfl, by unfold maxLen; omega, by simp, fun _ => rfl⟩
    · simp [Value.cells] at hcs
      obtain ⟨rfl, rfl, rfl⟩ := hcs
      have hz' : zs.length = c1 := by simpa using hz
      exact ⟨zs.take n1, Bas.row_of _ _ _ _ _ (by omega) hcell, by simp; omega, by omega, fun n hn => hwz n (List.mem_of_mem_take hn), fun h => by cases h⟩
  obtain ⟨a2, n2, c2, rfl⟩ := okWide_slice Try.underlying26 (hval 2 26 v2 rfl rfl)
  obtain ⟨l2, I2⟩ : ∃ l : List Int, Bas.Ints .u32 W a2 n2 c2 l := by
    obtain ⟨fuel, hf⟩ := h2
    rcases open_ints Try.underlying26 Try.underlying22 (by kernel_rfl) hf with ⟨hcs, _⟩ | ⟨x, l, c, zs, hcs, _, hl, hm, hz, _, hcell, hwz⟩
    · simp [Value.cells] at hcs
      obtain ⟨rfl, rfl, rfl⟩ := hcs
      exact ⟨[], Bas.row_nil _ _ _, rfl, by unfold maxLen; omega, by simp, fun _ => rfl⟩
    · simp [Value.cells] at hcs
      obtain ⟨rfl, rfl, rfl⟩ := hcs
      have hz' : zs.length = c2 := by simpa using hz
      exact ⟨zs.take n2, Bas.row_of _ _ _ _ _ (by omega) hcell, by simp; omega, by omega, fun n hn => hwz n (List.mem_of_mem_take hn), fun h => by cases h⟩
  refine (walk W a0 n0 c0 l0 I0 a1 n1 c1 l1 I1 a2 n2 c2 l2 I2).mono fun e W' ⟨he, bel⟩ => ?_
  subst he
  exact ⟨_, rfl, _, _, _, [], _, [], hW', trodAll_mk1 (shut_bool Try.underlying4 _), (trodAll_cons_mk (Below.trod Bas.laidOut (by kernel_rfl) (of_decide_eq_true (by kernel_rfl)) k0 bel lt0) (trodAll_cons_mk (Below.trod Bas.laidOut (by kernel_rfl) (of_decide_eq_true (by kernel_rfl)) k1 bel lt1) (trodAll_cons_mk (Below.trod Bas.laidOut (by kernel_rfl) (of_decide_eq_true (by kernel_rfl)) k2 bel lt2) trodAll_mk0))), rfl, bel.frame _, fun h => by cases h⟩

theorem over : Rows.scalarPartsRow.holds Try.pinned (OpenSpec.ofChange Rows.scalarPartsSpec) :=
  OpenClaim.holds_of_wide 7 Try.f7 rfl rfl rfl rfl rfl rfl rfl ⟨rfl, rfl, rfl, rfl, rfl⟩ rfl rfl rfl rfl rfl (by kernel_rfl) Try.func7 (by kernel_rfl)
    (of_decide_eq_true (by kernel_rfl)) (by unfold Func.isWrapper; first | (rw [if_pos (by decide +kernel)]; kernel_rfl) | (rw [if_neg (by decide +kernel)]; exact ⟨rfl, rfl⟩))
    (fun os started H enc _ => lifted os started H enc)
end Go.Proofs.Ytngbkcfiofdelaa.scalarParts
namespace Go.Proofs.Ytngbkcfiofdelaa
/-- The statement. -/
theorem scalarParts_proved : Rows.ScalarPartsSaid := scalarParts.over
end Go.Proofs.Ytngbkcfiofdelaa
