/-
  Any two lists stand to each other as the document says; turned it is turned, and through a third one it goes on: the statement ScalarOrder is proved, for every input. Conditions: none.
-/
import Derived.Test.YtngbkcfiofdelaaScaA
namespace Go.Proofs.Ytngbkcfiofdelaa.scalarOrder
open Go.ChangeShapes Go.WideShapes Go.ChangeAt Go.RowKit
open Go.ChangeMaps (open_string shut_string)
open Bas Sca
set_option linter.unusedVariables false

set_option maxHeartbeats 4000000 in
theorem short (w : World) (a0 : Option Addr) (n0 c0 : Nat) (l0 : List Int) (I0 : Ints .u32 w a0 n0 c0 l0) (a1 : Option Addr) (n1 c1 : Nat) (l1 : List Int) (I1 : Ints .u32 w a1 n1 c1 l1) (a2 : Option Addr) (n2 c2 : Nat) (l2 : List Int) (I2 : Ints .u32 w a2 n2 c2 l2)
    (h0 : n0 ≤ 500) (h1 : n1 ≤ 500) (h2 : n2 ≤ 500) :
    Calls Try.prog 5 #[.slice a0 n0 c0, .slice a1 n1 c1, .slice a2 n2 c2] w fun e w' => e = .returned (.bool true) ∧ Below w.heap.size w w' := by
  obtain ⟨r0, g0, m0, _, _⟩ := I0
  obtain ⟨r1, g1, m1, _, _⟩ := I1
  obtain ⟨r2, g2, m2, _, _⟩ := I2
  have d1 := cmpL_bd l0 l1
  go_enter Try.func5, Try.ntmps5
  go_wp2_with fail
  refine (awake_any _).mono ?_
  rintro e w1 ⟨rfl, hb1⟩
  have q0 := r0.mono hb1
  have q1 := r1.mono hb1
  have q2 := r2.mono hb1
  clear r0 r1 r2
  go_wp2_with fail
  refine (sOrder_any _ _ _ _ _ _ _ _ _ q0 q1 g0 g1 m0 m1).mono ?_
  rintro e w2 ⟨rfl, hw⟩; subst hw
  go_wp2_with fail
  refine (sOrder_any _ _ _ _ _ _ _ _ _ q1 q2 g1 g2 m1 m2).mono ?_
  rintro e w2 ⟨rfl, hw⟩; subst hw
  go_wp2_with fail
  refine (sOrder_any _ _ _ _ _ _ _ _ _ q0 q2 g0 g2 m0 m2).mono ?_
  rintro e w2 ⟨rfl, hw⟩; subst hw
  go_wp2_with fail
  refine (rOrder_any _ _ _ _ _ _ _ _ _ q0 q1 g0 g1 m0 m1).mono ?_
  rintro e w3 ⟨rfl, nd, hw⟩; subst hw
  go_wp2_with fail
  refine (sOrder_any _ _ _ _ _ _ _ _ _ (row_drewN q1 nd) (row_drewN q0 nd) g1 g0 m1 m0).mono ?_
  rintro e w3 ⟨rfl, hw⟩; subst hw
  rw [cmpL_turn l0 l1]
  go_wp2_with fail
  refine (sOrder_any _ _ _ _ _ _ _ _ _ (row_drewN q0 nd) (row_drewN q0 nd) g0 g0 m0 m0).mono ?_
  rintro e w3 ⟨rfl, hw⟩; subst hw
  rw [cmpL_self]
  by_cases t1 : 0 < cmpL l0 l1
  · go_wp2
    go_ret
    exact ⟨rfl, below_two hb1 (below_dn _ _)⟩
  · by_cases t2 : 0 < cmpL l1 l2
    · go_wp2
      go_ret
      exact ⟨rfl, below_two hb1 (below_dn _ _)⟩
    · obtain ⟨t3, t4⟩ := cmpL_le_trans l0 l1 l2 (by omega) (by omega)
      have T4 : Hid (cmpL l0 l2 = 0 ↔ cmpL l0 l1 = 0 ∧ cmpL l1 l2 = 0) := t4
      clear t4
      by_cases t5 : cmpL l0 l1 = 0
      · by_cases t6 : cmpL l1 l2 = 0
        · have t7 : cmpL l0 l2 = 0 := T4.out.2 ⟨t5, t6⟩
          go_wp2
          go_ret
          exact ⟨rfl, below_two hb1 (below_dn _ _)⟩
        · have t7 : (cmpL l0 l2 == 0) = false := by
            rw [beq_eq_false_iff_ne]; intro h; exact t6 (T4.out.1 h).2
          have t8 : (cmpL l1 l2 == 0) = false := by rw [beq_eq_false_iff_ne]; exact t6
          go_wp2
          go_ret
          exact ⟨rfl, below_two hb1 (below_dn _ _)⟩
      · have t7 : (cmpL l0 l2 == 0) = false := by
          rw [beq_eq_false_iff_ne]; intro h; exact t5 (T4.out.1 h).1
        have t8 : (cmpL l0 l1 == 0) = false := by rw [beq_eq_false_iff_ne]; exact t5
        go_wp2
        go_ret
        exact ⟨rfl, below_two hb1 (below_dn _ _)⟩

set_option maxHeartbeats 1000000 in
theorem walk (w : World) (a0 : Option Addr) (n0 c0 : Nat) (l0 : List Int) (I0 : Ints .u32 w a0 n0 c0 l0) (a1 : Option Addr) (n1 c1 : Nat) (l1 : List Int) (I1 : Ints .u32 w a1 n1 c1 l1) (a2 : Option Addr) (n2 c2 : Nat) (l2 : List Int) (I2 : Ints .u32 w a2 n2 c2 l2) :
    Calls Try.prog 5 #[.slice a0 n0 c0, .slice a1 n1 c1, .slice a2 n2 c2] w fun e w' => e = .returned (.bool true) ∧ Below w.heap.size w w' := by
  by_cases h0 : n0 ≤ 500
  · by_cases h1 : n1 ≤ 500
    · by_cases h2 : n2 ≤ 500
      · exact short w a0 n0 c0 l0 I0 a1 n1 c1 l1 I1 a2 n2 c2 l2 I2 h0 h1 h2
      · clear I0 I1 I2
        go_enter Try.func5, Try.ntmps5
        go_wp2_with fail
        refine (awake_any _).mono ?_
        rintro e w1 ⟨rfl, hb1⟩
        go_wp2_with fail
        refine (awake_any _).mono ?_
        rintro e w2 ⟨rfl, hb2⟩
        go_wp2
        go_ret
        exact ⟨rfl, below_two hb1 hb2⟩
    · clear I0 I1 I2
      go_enter Try.func5, Try.ntmps5
      go_wp2_with fail
      refine (awake_any _).mono ?_
      rintro e w1 ⟨rfl, hb1⟩
      go_wp2_with fail
      refine (awake_any _).mono ?_
      rintro e w2 ⟨rfl, hb2⟩
      go_wp2
      go_ret
      exact ⟨rfl, below_two hb1 hb2⟩
  · clear I0 I1 I2
    go_enter Try.func5, Try.ntmps5
    go_wp2_with fail
    refine (awake_any _).mono ?_
    rintro e w1 ⟨rfl, hb1⟩
    go_wp2_with fail
    refine (awake_any _).mono ?_
    rintro e w2 ⟨rfl, hb2⟩
    go_wp2
    go_ret
    exact ⟨rfl, below_two hb1 hb2⟩

set_option maxRecDepth 100000 in
theorem lifted (os : Os) (started : os.Started) (H : Type) (enc : TypeId × Value → H) :
    ReturnsInHanded {} Try.checked os 5 .any (Rows.scalarOrderSpec.pre6 enc Try.prog Try.f5 Rows.scalarOrderRow.domain false) (Rows.scalarOrderSpec.post enc Try.prog Try.f5 false true false false) := by
  refine returnsInHanded_of_change (C := Try.checked) Bas.own started (by kernel_rfl) Try.func5
    (ChangeSpec.witness6 (enc := enc) (C := Try.checked) false ⟨#[], #[.slice none 0 0, .slice none 0 0, .slice none 0 0], []⟩ 8 (by kernel_rfl) (by kernel_rfl) (by kernel_rfl) (by kernel_rfl)) ?_
  intro W base args ds gs before hval0 hW hcnd _
  have hval : ∀ (j : Nat) t v, Try.f5.params[j]? = some t → args[j]? = some v → Value.okWide Try.prog W .any base t v := hval0
  have hW' := hW
  obtain ⟨p, q, hA0, hV, rfl, hfz, hnd⟩ := hW
  have hA : DataW.TrodAll enc Try.prog W 0 (fun _ => true) true Try.f5.params.toList args.toList ds p := hA0
  rw [Try.params5] at hA hval
  obtain ⟨v0, vs0, d0, ds0, p0, q0, hargs, rfl, rfl, h0, r0⟩ := trodAll_cons hA
  obtain ⟨v1, vs1, d1, ds1, p1, q1, rfl, rfl, rfl, h1, r1⟩ := trodAll_cons r0
  obtain ⟨v2, vs2, d2, ds2, p2, q2, rfl, rfl, rfl, h2, r2⟩ := trodAll_cons r1
  obtain ⟨rfl, rfl, rfl⟩ := trodAll_nil r2
  obtain rfl : args = #[v0, v1, v2] := by cases args; simp_all
  obtain ⟨rfl, rfl⟩ := trodVars_none hV
  have k0 := h0
  have lt0 : ∀ x ∈ p0, x.block < W.heap.size := by obtain ⟨m, hm⟩ := k0; exact DataW.trod_lt m _ _ _ hm
  have k1 := h1
  have lt1 : ∀ x ∈ p1, x.block < W.heap.size := by obtain ⟨m, hm⟩ := k1; exact DataW.trod_lt m _ _ _ hm
  have k2 := h2
  have lt2 : ∀ x ∈ p2, x.block < W.heap.size := by obtain ⟨m, hm⟩ := k2; exact DataW.trod_lt m _ _ _ hm
  obtain ⟨a0, n0, c0, rfl⟩ := okWide_slice Try.underlying26 (hval 0 26 v0 rfl rfl)
  obtain ⟨l0, I0⟩ : ∃ l : List Int, Bas.Ints .u32 W a0 n0 c0 l := by
    obtain ⟨fuel, hf⟩ := h0
    rcases open_ints Try.underlying26 Try.underlying22 (by kernel_rfl) hf with ⟨hcs, _⟩ | ⟨x, l, c, zs, hcs, _, hl, hm, hz, _, hcell, hwz⟩
    · simp [Value.cells] at hcs
      obtain ⟨rfl, rfl, rfl⟩ := hcs
      exact ⟨[], Bas.row_nil _ _ _, rfl, by unfold maxLen; omega, by simp, fun _ => rfl⟩
    · simp [Value.cells] at hcs
      obtain ⟨rfl, rfl, rfl⟩ := hcs
      have hz' : zs.length = c0 := by simpa using hz
      exact ⟨zs.take n0, Bas.row_of _ _ _ _ _ (by omega) hcell, by simp; omega, by omega, fun n hn => hwz n (List.mem_of_mem_take hn), fun h => by cases h⟩
  obtain ⟨a1, n1, c1, rfl⟩ := okWide_slice Try.underlying26 (hval 1 26 v1 rfl rfl)
  obtain ⟨l1, I1⟩ : ∃ l : List Int, Bas.Ints .u32 W a1 n1 c1 l := by
    obtain ⟨fuel, hf⟩ := h1
    rcases open_ints Try.underlying26 Try.underlying22 (by kernel_rfl) hf with ⟨hcs, _⟩ | ⟨x, l, c, zs, hcs, _, hl, hm, hz, _, hcell, hwz⟩
    · simp [Value.cells] at hcs
      obtain ⟨rfl, rfl, rfl⟩ := hcs
      exact ⟨[], Bas.row_nil _ _ _, rfl, by unfold maxLen; omega, by simp, fun _ => rfl⟩
    · simp [Value.cells] at hcs
      obtain ⟨rfl, rfl, rfl⟩ := hcs
      have hz' : zs.length = c1 := by simpa using hz
      exact ⟨zs.take n1, Bas.row_of _ _ _ _ _ (by omega) hcell, by simp; omega, by omega, fun n hn => hwz n (List.mem_of_mem_take hn), fun h => by cases h⟩
  obtain ⟨a2, n2, c2, rfl⟩ := okWide_slice Try.underlying26 (hval 2 26 v2 rfl rfl)
  obtain ⟨l2, I2⟩ : ∃ l : List Int, Bas.Ints .u32 W a2 n2 c2 l := by
    obtain ⟨fuel, hf⟩ := h2
    rcases open_ints Try.underlying26 Try.underlying22 (by kernel_rfl) hf with ⟨hcs, _⟩ | ⟨x, l, c, zs, hcs, _, hl, hm, hz, _, hcell, hwz⟩
    · simp [Value.cells] at hcs
      obtain ⟨rfl, rfl, rfl⟩ := hcs
      exact ⟨[], Bas.row_nil _ _ _, rfl, by unfold maxLen; omega, by simp, fun _ => rfl⟩
    · simp [Value.cells] at hcs
      obtain ⟨rfl, rfl, rfl⟩ := hcs
      have hz' : zs.length = c2 := by simpa using hz
      exact ⟨zs.take n2, Bas.row_of _ _ _ _ _ (by omega) hcell, by simp; omega, by omega, fun n hn => hwz n (List.mem_of_mem_take hn), fun h => by cases h⟩
  refine (walk W a0 n0 c0 l0 I0 a1 n1 c1 l1 I1 a2 n2 c2 l2 I2).mono fun e W' ⟨he, bel⟩ => ?_
  subst he
  exact ⟨_, rfl, _, _, _, [], _, [], hW', trodAll_mk1 (shut_bool Try.underlying4 _), (trodAll_cons_mk (Below.trod Bas.laidOut (by kernel_rfl) (of_decide_eq_true (by kernel_rfl)) k0 bel lt0) (trodAll_cons_mk (Below.trod Bas.laidOut (by kernel_rfl) (of_decide_eq_true (by kernel_rfl)) k1 bel lt1) (trodAll_cons_mk (Below.trod Bas.laidOut (by kernel_rfl) (of_decide_eq_true (by kernel_rfl)) k2 bel lt2) trodAll_mk0))), rfl, bel.frame _, fun h => by cases h⟩

theorem over : Rows.scalarOrderRow.holds Try.pinned (OpenSpec.ofChange Rows.scalarOrderSpec) :=
  OpenClaim.holds_of_wide 5 Try.f5 rfl rfl rfl rfl rfl rfl rfl ⟨rfl, rfl, rfl, rfl, rfl⟩ rfl rfl rfl rfl rfl (by kernel_rfl) Try.func5 (by kernel_rfl)
    (of_decide_eq_true (by kernel_rfl)) (by unfold Func.isWrapper; first | (rw [if_pos (by decide +kernel)]; kernel_rfl) | (rw [if_neg (by decide +kernel)]; exact ⟨rfl, rfl⟩))
    (fun os started H enc _ => lifted os started H enc)
end Go.Proofs.Ytngbkcfiofdelaa.scalarOrder
namespace Go.Proofs.Ytngbkcfiofdelaa
/-- The statement. -/
theorem scalarOrder_proved : Rows.ScalarOrderSaid := scalarOrder.over
end Go.Proofs.Ytngbkcfiofdelaa
