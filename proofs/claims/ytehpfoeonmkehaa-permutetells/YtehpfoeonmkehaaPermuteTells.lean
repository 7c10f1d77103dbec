/-
  Any byte becomes the one that the document says, and comes from the one that it says: the statement PermuteTells is proved, for every input. Conditions: none.
-/
import Derived.Test.YtehpfoeonmkehaaPerAwk
import Derived.Test.YtehpfoeonmkehaaPerRf3
namespace Go.Proofs.Ytehpfoeonmkehaa.permuteTells
open Go.ChangeShapes Go.WideShapes Go.ChangeAt Go.RowKit
open Go.ChangeMaps (open_string shut_string)
open Bas Txt Per
set_option linter.unusedVariables false

theorem byte_of {x : Int} (h : (Lit.int .u8 x).wf = true) : 0 ≤ x ∧ x < 256 := by
  have e1 : IntKind.u8.min = 0 := rfl
  have e2 : IntKind.u8.max = 255 := rfl
  simp only [Lit.wf, e1, e2, Bool.and_eq_true, decide_eq_true_eq] at h
  omega
set_option maxHeartbeats 4000000 in
theorem walk (w : World) (a0 : Int) (w0 : (Lit.int .u8 a0).wf = true) :
    Calls Try.prog 3 #[.int .u8 a0] w fun e w' => e = .returned (.bool true) ∧ Below w.heap.size w w' := by
  obtain ⟨p0, p1⟩ := byte_of w0
  clear w0
  go_enter Try.func3, Try.ntmps3
  go_wp2_with fail
  refine (new_any w).mono ?_
  rintro e w1 ⟨b, rfl, ht, hb⟩
  have HT : Hid (TabAt w1 b ∧ Below w.heap.size w w1) := ⟨ht, hb⟩
  clear ht hb
  go_wp2_with fail
  refine (awake_any w1).mono ?_
  rintro e w2 ⟨rfl, hb2⟩
  have HT2 : Hid (TabAt w2 b ∧ Below w.heap.size w w2) := ⟨HT.out.1.below hb2, below_two HT.out.2 hb2⟩
  clear hb2 HT
  go_wp2_with fail
  refine (to_any b a0 w2 HT2.out.1 p0 p1).mono ?_
  rintro e w3 ⟨rfl, hw⟩
  subst hw
  go_wp2_with fail
  refine (rTo_any a0 w3 p0 p1).mono ?_
  rintro e w4 ⟨rfl, hb4⟩
  have HT4 : Hid (TabAt w4 b ∧ Below w.heap.size w w4) := ⟨HT2.out.1.below hb4, below_two HT2.out.2 hb4⟩
  clear hb4 HT2
  go_wp2_with fail
  refine (from_any b a0 w4 HT4.out.1 p0 p1).mono ?_
  rintro e w5 ⟨rfl, hw⟩
  subst hw
  go_wp2_with fail
  refine (rFrom_any a0 w5 p0 p1).mono ?_
  rintro e w6 ⟨rfl, hb6⟩
  have HT6 : Hid (Below w.heap.size w w6) := below_two HT4.out.2 hb6
  clear hb6 HT4
  go_wp2
  go_ret
  exact ⟨rfl, HT6.out⟩
set_option maxRecDepth 100000 in
theorem lifted (os : Os) (started : os.Started) (H : Type) (enc : TypeId × Value → H) :
    ReturnsInHanded {} Try.checked os 3 .any (Rows.permuteTellsSpec.pre6 enc Try.prog Try.f3 Rows.permuteTellsRow.domain false) (Rows.permuteTellsSpec.post enc Try.prog Try.f3 false true false false) := by
  refine returnsInHanded_of_change (C := Try.checked) Bas.own started (by kernel_rfl) Try.func3
    (ChangeSpec.witness6 (enc := enc) (C := Try.checked) false ⟨#[], #[.int .u8 0], []⟩ 8 (by kernel_rfl) (by kernel_rfl) (by kernel_rfl) (by kernel_rfl)) ?_
  intro W base args ds gs before hval0 hW hcnd _
  have hval : ∀ (j : Nat) t v, Try.f3.params[j]? = some t → args[j]? = some v → Value.okWide Try.prog W .any base t v := hval0
  have hW' := hW
  obtain ⟨p, q, hA0, hV, rfl, hfz, hnd⟩ := hW
  have hA : DataW.TrodAll enc Try.prog W 0 (fun _ => true) true Try.f3.params.toList args.toList ds p := hA0
  rw [Try.params3] at hA hval
  obtain ⟨v0, vs0, d0, ds0, p0, q0, hargs, rfl, rfl, h0, r0⟩ := trodAll_cons hA
  obtain ⟨rfl, rfl, rfl⟩ := trodAll_nil r0
  obtain rfl : args = #[v0] := by cases args; simp_all
  obtain ⟨rfl, rfl⟩ := trodVars_none hV
  have k0 := h0
  have lt0 : ∀ x ∈ p0, x.block < W.heap.size := by obtain ⟨m, hm⟩ := k0; exact DataW.trod_lt m _ _ _ hm
  obtain ⟨a0, rfl, rfl, rfl, w0⟩ := open_int Try.underlying5 (hval 0 5 v0 rfl rfl) h0
  refine (walk W a0 w0).mono fun e W' ⟨he, bel⟩ => ?_
  subst he
  exact ⟨_, rfl, _, _, _, [], _, [], hW', trodAll_mk1 (shut_bool Try.underlying4 _), (trodAll_cons_mk (Below.trod Bas.laidOut (by kernel_rfl) (of_decide_eq_true (by kernel_rfl)) k0 bel lt0) trodAll_mk0), rfl, bel.frame _, fun h => by cases h⟩

theorem over : Rows.permuteTellsRow.holds Try.pinned (OpenSpec.ofChange Rows.permuteTellsSpec) :=
  OpenClaim.holds_of_wide 3 Try.f3 rfl rfl rfl rfl rfl rfl rfl ⟨rfl, rfl, rfl, rfl, rfl⟩ rfl rfl rfl rfl rfl (by kernel_rfl) Try.func3 (by kernel_rfl)
    (of_decide_eq_true (by kernel_rfl)) (by unfold Func.isWrapper; first | (rw [if_pos (by decide +kernel)]; kernel_rfl) | (rw [if_neg (by decide +kernel)]; exact ⟨rfl, rfl⟩))
    (fun os started H enc _ => lifted os started H enc)
end Go.Proofs.Ytehpfoeonmkehaa.permuteTells
namespace Go.Proofs.Ytehpfoeonmkehaa
/-- The statement. -/
theorem permuteTells_proved : Rows.PermuteTellsSaid := permuteTells.over
end Go.Proofs.Ytehpfoeonmkehaa
