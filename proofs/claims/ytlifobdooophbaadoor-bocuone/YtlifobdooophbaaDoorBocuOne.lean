/-
  Proved: a text that denotes something is written again as it was. No condition.
-/
import Derived.Test.YtlifobdooophbaaDoorBOLaw2
import Derived.Test.YtlifobdooophbaaDoorDifTab
namespace Go.Proofs.YtlifobdooophbaaDoor
open Go.ChangeShapes Go.WideShapes Go.ChangeAt Go.RowKit
open Go.ChangeMaps (open_string shut_string)
namespace bocuOne
open Bas Sca Stp Scn Cod BO
set_option linter.unusedVariables false

set_option maxHeartbeats 8000000 in
set_option maxRecDepth 100000 in
theorem walk (w : World) (hT : Dif.Tabs w) (s : ByteArray) (hwf : s.size ≤ maxLen) :
    Calls Tryd.prog 6 #[.string s] w fun e w' => e = .returned (.bool true) ∧ Below w.heap.size w w' := by
  have HT : Hid (Dif.Tabs w) := hT
  obtain ⟨π, -⟩ : ∃ π : Par, π = π := ⟨(), rfl⟩
  clear hwf hT
  have HB0 : Hid (Below w.heap.size w w) := Below.refl _ _
  go_enter Tryd.func6, Tryd.ntmps6
  go_wp2_with fail
  refine (awake_any _ (HT.out.below HB0.out)).mono ?_
  rintro e w1 ⟨rfl, b1⟩
  have HB1 : Hid (Below w.heap.size w w1) := below_two HB0.out b1
  clear b1 HB0
  go_wp2_with fail
  refine (great_any _ none none 0 0 0 0 w1).mono ?_
  rintro e w1' ⟨rfl, rfl⟩
  obtain ⟨g, hg⟩ : ∃ g, (decide ((s.size : Int) > 400) || (decide (0 > 200) || decide (0 > 200))) = g := ⟨_, rfl⟩
  rw [hg]
  cases g with
  | true =>
    clear hg
    go_wp2_with fail
    refine (awake_any _ (HT.out.below HB1.out)).mono ?_
    rintro e w2 ⟨rfl, b2⟩
    go_wp2
    go_ret
    exact ⟨rfl, below_two HB1.out b2⟩
  | false =>
    obtain ⟨h400, -, -⟩ := great_no hg
    clear hg
    go_wp2_with fail
    refine (rHas_any s 255 w1' (by omega) (by omega)).mono ?_
    rintro e w1h ⟨rfl, hw⟩
    rw [hw]
    clear hw w1h
    by_cases hm : (255 : Int) ∈ bytesL s
    · rw [decide_eq_true hm]
      clear hm
      go_wp2_with fail
      refine (awake_any _ (HT.out.below HB1.out)).mono ?_
      rintro e w2 ⟨rfl, b2⟩
      go_wp2
      go_ret
      exact ⟨rfl, below_two HB1.out b2⟩
    · rw [decide_eq_false hm]
      have HFF : Hid (∀ x ∈ bytesL s, x ≠ 255) := fun x hx e => hm (e ▸ hx)
      clear hm
      obtain ⟨X, hX⟩ : ∃ X, X = scan (stepU π) (st0 π) (bytesL s) := ⟨_, rfl⟩
      have hXt : X.told.length ≤ 400 := by
        rw [hX]; have := scan_short (stepU π) (step_one π) (bytesL s) (st0 π); rw [bytesL_length] at this; omega
      have HX : Hid (X = scan (stepU π) (st0 π) (bytesL s)) := hX
      clear hX
      go_wp2_with fail
      refine (newD_any π _ rfl (HT.out.below HB1.out)).mono ?_
      rintro e w2 ⟨rfl, D2, z2, B2⟩
      obtain ⟨N, hN⟩ : ∃ N, N = w1'.heap.size := ⟨_, rfl⟩
      have HN : Hid (w.heap.size ≤ N) := by show w.heap.size ≤ N; rw [hN]; exact HB1.out.size
      rw [← hN] at D2 z2 B2 ⊢
      have HB2 : Hid (Below w.heap.size w w2) := HB1.out.trans (B2.mono HN.out)
      clear hN
      go_wp2_with fail
      refine (read_any N _ _ s none none 0 0 0 0 [] [] X w2 D2 HX.out (ints_none _ _) (ints_none _ _) (fun b' o' h0 e h => by omega) (fun b' o' h0 e h => by omega) (by omega) (by omega) (by omega)).mono ?_
      rintro e w3 ⟨vo, rfl, v3, u3, s3, f3, D3, C3⟩
      have HB3 : Hid (Below w.heap.size w w3) := HB2.out.trans (C3.below HB2.out.size (fun k j hk h => by have := footD_nil h; have := HN.out; omega))
      obtain ⟨ao, co, hvo, -⟩ := s3.form
      obtain ⟨tl, htl⟩ : ∃ tl, X.told.length = tl := ⟨_, rfl⟩
      rw [htl] at hvo hXt
      subst hvo
      have HD3 : Hid (BaseAt w3 N 0 X.eaten (endQ X) (endE X) ∧ Seg .u32 w3 (.slice ao tl co) X.told) := ⟨D3.base, s3⟩
      clear D2 z2 B2 s3 f3 D3 C3 HB2
      go_wp2_with fail
      refine (fail_any N 0 _ (endQ X) (endE X) w3 HD3.out.1).mono ?_
      rintro e w4 ⟨rfl, b4⟩
      have HD4 : Hid (Seg .u32 w4 (.slice ao tl co) X.told ∧ Below w.heap.size w w4) := ⟨HD3.out.2.chg (chg_of_below b4 (Nat.le_refl _) (fun _ _ => False)) (fun _ _ _ h => h), below_two HB3.out b4⟩
      clear b4 HD3 HB3
      have hfl := fld (endQ X) (failAt X.eaten (endQ X))
      by_cases hq : endQ X = 0
      · have HSC : Hid (Stp.strOf (txtS π X.told) = s ∧ ∀ c ∈ X.told, isB c = true ∧ 0 ≤ c) := whole_text π s X HX.out hq HFF.out
        obtain ⟨fa, hfa⟩ : ∃ fa, failAt X.eaten (endQ X) = fa := ⟨_, rfl⟩
        rw [hfa] at hfl ⊢
        rw [hq] at hfl ⊢
        clear hq hfa
        go_wp2_with fail
        refine (newEn_any π _ rfl (HT.out.below HD4.out.2)).mono ?_
        rintro e w5 ⟨rfl, E5, z5, B5⟩
        obtain ⟨M, hM⟩ : ∃ M, M = w4.heap.size := ⟨_, rfl⟩
        have HM : Hid (w.heap.size ≤ M ∧ M = w4.heap.size) := ⟨by rw [hM]; exact HD4.out.2.size, hM⟩
        rw [← hM] at E5 z5 B5 ⊢
        have HB5 : Hid (Below w.heap.size w w5) := HD4.out.2.trans (B5.mono HM.out.1)
        have B5' : Below w4.heap.size w4 w5 := by rw [← hM]; exact B5
        have s5 := HD4.out.1.chg (chg_of_below B5' (Nat.le_refl _) (fun _ _ => False)) (fun _ _ _ h => h)
        clear hM hfl
        go_wp2_with fail
        refine (write_any M _ ao tl co X.told none none 0 0 0 0 [] [] w5 E5 (came_seg s5 (fun g hg hf => by have := HD4.out.1.lt hg; have := footE_nil hf; have := HM.out.2; omega)) (fun c hc => by have := HSC.out.2 c hc; have := isB_iff.1 this.1; omega) (ints_none _ _) (ints_none _ _) (fun b' o' h0 e h => by omega) (fun b' o' h0 e h => by omega) (by omega) (by omega) (by omega)).mono ?_
        rintro e w6 ⟨rfl, sg6, v6, E6, C6⟩
        have HB6 : Hid (Below w.heap.size w w6) := HB5.out.trans (C6.below HB5.out.size (fun k j hk h => by have := footE_nil h; have := HM.out.1; omega))
        rw [HSC.out.1]
        go_wp2
        go_ret
        exact ⟨rfl, HB6.out⟩
      · have hq' : (endQ X == 0) = false := by simp [hq]
        clear hq
        go_wp2
        go_ret
        exact ⟨rfl, HD4.out.2⟩
theorem reads (os : Os) {H : Type} (enc : TypeId × Value → H) : ∃ places, DataW.whole enc Tryd.prog ((({ World.holding Tryd.prog os ⟨#[], #[], []⟩ with heap := (((World.holding Tryd.prog os ⟨#[], #[], []⟩).heap.modify 0 Dif.lay0).modify 1 Dif.lay1) } : World)).forCall (fun _ _ => 0) ⟨#[], #[.string ByteArray.empty], []⟩).memory Tryd.f6.params.toList Rows.bocuOneSpec.vars false #[.string ByteArray.empty].toList 8 = some ([.lit (.string [])], [], places) :=
  ⟨[], by kernel_rfl⟩
set_option maxRecDepth 100000 in
theorem lifted (os : Os) (started : os.Started) (H : Type) (enc : TypeId × Value → H) (Fi : Stop.Interp) :
    ReturnsInHanded {} Tryd.checked os 6 .any ((OpenSpec.ofChange Rows.bocuOneSpec).preRow enc Tryd.prog Tryd.f6 Rows.bocuOneRow.domain false Rows.bocuOneRow.laid) (((OpenSpec.ofChange Rows.bocuOneSpec).at Fi).post enc Tryd.prog Tryd.f6 false true false false) := by
  obtain ⟨places, hx⟩ := reads os enc
  refine returnsInHanded_of_row (C := Tryd.checked) (s := OpenSpec.ofChange Rows.bocuOneSpec) Bas.own started (by kernel_rfl) Tryd.func6
    (witness_row_at (enc := enc) (C := Tryd.checked) false (({ World.holding Tryd.prog os ⟨#[], #[], []⟩ with heap := (((World.holding Tryd.prog os ⟨#[], #[], []⟩).heap.modify 0 Dif.lay0).modify 1 Dif.lay1) } : World)) #[.string ByteArray.empty] rfl (by kernel_rfl) (by kernel_rfl) (by kernel_rfl)
      (OpenSpec.preRow_of_cond 8 hx (by kernel_rfl) (fun k hk => by cases hk) (by kernel_rfl) (Dif.laid_met os _))) ?_
  intro W base args ds gs before hval0 hW _ _ _ hL _ _
  have hval : ∀ (j : Nat) t v, Tryd.f6.params[j]? = some t → args[j]? = some v → Value.okWide Tryd.prog W .any base t v := hval0
  have hW' := hW
  obtain ⟨p, q, hA0, hV, rfl, hfz, hnd⟩ := hW
  have hA : DataW.TrodAll enc Tryd.prog W 0 (fun _ => true) true Tryd.f6.params.toList args.toList ds p := hA0
  rw [Tryd.params6] at hA hval
  obtain ⟨v0, vs0, d0, ds0, p0, q0, hargs, rfl, rfl, h0, r0⟩ := trodAll_cons hA
  obtain ⟨rfl, rfl, rfl⟩ := trodAll_nil r0
  obtain rfl : args = #[v0] := by cases args; simp_all
  obtain ⟨rfl, rfl⟩ := trodVars_none hV
  have k0 := h0
  have lt0 : ∀ x ∈ p0, x.block < W.heap.size := by obtain ⟨m, hm⟩ := k0; exact DataW.trod_lt m _ _ _ hm
  obtain ⟨a0, rfl, rfl, rfl, w0⟩ := open_string Tryd.underlying9 (hval 0 9 v0 rfl rfl) h0
  refine (walk W (Dif.tabs_of hL) a0 w0).mono fun e W' ⟨he, bel⟩ => ?_
  subst he
  exact ⟨_, rfl, _, _, _, [], _, [], hW', trodAll_mk1 (shut_bool Tryd.underlying4 _), (trodAll_cons_mk (Below.trod Bas.laidOut (by kernel_rfl) (of_decide_eq_true (by kernel_rfl)) k0 bel lt0) trodAll_mk0), rfl, bel.frame _, fun h => by cases h⟩


theorem over : Rows.bocuOneRow.holds Tryd.pinned (OpenSpec.ofChange Rows.bocuOneSpec) :=
  OpenClaim.holds_of_cond 6 Tryd.f6 rfl rfl rfl rfl rfl rfl rfl ⟨rfl, rfl, rfl, rfl, rfl⟩ rfl rfl rfl rfl rfl (by kernel_rfl) Tryd.func6 (by kernel_rfl)
    (of_decide_eq_true (by kernel_rfl)) (by unfold Func.isWrapper; first | (rw [if_pos (by decide +kernel)]; kernel_rfl) | (rw [if_neg (by decide +kernel)]; exact ⟨rfl, rfl⟩))
    (fun os started H enc _ Fi => by rw [OpenClaim.pre_eq_preRow]; exact lifted os started H enc Fi)
theorem plain (f : FuncId) (fn : Func) (hf : Tryd.pinned.checked.prog.funcNamed Rows.bocuOneRow.func = some f) (hfn : Tryd.pinned.checked.prog.funcs[f]? = some fn) :
    false = Tryd.pinned.checked.prog.looks [] ∧ ∀ (j : Nat) t, fn.params[j]? = some t → Tryd.pinned.checked.prog.wantsStandIn t = false := by
  obtain rfl : f = 6 := Option.some.inj ((show Tryd.prog.funcNamed Rows.bocuOneRow.func = some 6 by kernel_rfl).symm.trans hf) |>.symm
  obtain rfl : fn = Tryd.f6 := (Option.some.inj (Tryd.func6.symm.trans hfn)).symm
  refine ⟨by kernel_rfl, fun j t ht => ?_⟩
  rw [Tryd.params6] at ht
  have hm : t ∈ [9] := by simpa using Array.mem_of_getElem? ht
  have hall : ([9].all fun u => !Tryd.prog.wantsStandIn u) = true := by kernel_rfl
  exact (show Tryd.prog.wantsStandIn t = false by simpa using List.all_eq_true.1 hall t hm)
end Go.Proofs.YtlifobdooophbaaDoor.bocuOne
namespace Go.Proofs.YtlifobdooophbaaDoor
/-- The statement: the tied card. -/
theorem bocuOne_proved : Rows.BocuOneCardSaid :=
  Claim7.holds_tied_plain_at .later [] _ _ _ _ bocuOne.over (fun _ h => by cases h) (by kernel_rfl) (fun _ h => by cases h) bocuOne_row_tie rfl ⟨rfl, rfl⟩ (by kernel_rfl) rfl bocuOne.plain (by kernel_rfl)
end Go.Proofs.YtlifobdooophbaaDoor
