/-
  Any number has the index that the document says, or none, and the window that it stands for holds it: the statement WindowIndexes is proved, for every input. The condition is the card's own: the listed tables are as the program's text lays them.
-/
import Derived.Test.YtgjmnghgpjfjmaaDoorWinAwk
import Derived.Test.YtgjmnghgpjfjmaaDoorWinTab
import Derived.Test.YtgjmnghgpjfjmaaDoorWinRf1
namespace Go.Proofs.YtgjmnghgpjfjmaaDoor.windowIndexes
open Go.ChangeShapes Go.WideShapes Go.ChangeAt Go.RowKit
open Go.ChangeMaps (open_string shut_string)
open Bas Win
set_option linter.unusedVariables false

set_option maxHeartbeats 4000000 in
theorem walk (w : World) (hT : Tabs w) (c : Int) (wc : (Lit.int .u32 c).wf = true) :
    Calls Tryd.prog 4 #[.int .u32 c] w fun e w' => e = .returned (.bool true) ∧ Below w.heap.size w w' := by
  obtain ⟨c0, c1⟩ := u32_of wc
  have HT : Hid (Tabs w) := hT
  clear wc hT
  have hx := idx_has c
  go_enter Tryd.func4, Tryd.ntmps4
  go_wp2_with fail
  refine (index_any c w HT.out c0 c1).mono ?_
  rintro e w1 ⟨rfl, hw⟩
  rw [hw]
  clear hw w1
  go_wp2_with fail
  refine (rIndex_any c w c0 c1).mono ?_
  rintro e w1 ⟨rfl, hB⟩
  have HB : Hid (Below w.heap.size w w1 ∧ Tabs w1) := ⟨hB, HT.out.below hB⟩
  clear hB HT
  go_wp2_with fail
  refine (awake_any w1 HB.out.2).mono ?_
  rintro e w2 ⟨rfl, hB⟩
  have HB2 : Hid (Below w.heap.size w w2 ∧ Tabs w2) := ⟨below_two HB.out.1 hB, HB.out.2.below hB⟩
  clear hB HB
  rcases hx with hx | ⟨x0, x1, x2, x3⟩
  · rw [hx]
    rw [show idxV (-1) = 0 from rfl, show idxB (-1) = false from rfl]
    clear hx
    go_wp2_with fail
    refine (offset_any 0 w2 HB2.out.2 (by decide) (by decide)).mono ?_
    rintro e w3 ⟨rfl, hw⟩
    rw [hw, show offV 0 = 0 from rfl, show offB 0 = false from rfl]
    clear hw w3
    go_wp2
    go_ret
    exact ⟨rfl, HB2.out.1⟩
  · have hv := idx_yes (show 0 ≤ idxI c by omega)
    have HO : Hid (offV (idxI c) = offI (idxI c) ∧ offB (idxI c) = true) := off_yes rfl x2
    have hrg := offV_rng (idxI c)
    rw [HO.out.1] at hrg
    have HH : Hid (hasI (offI (idxI c)) c = true) := x3
    rw [hv.1, hv.2]
    obtain ⟨x, hx⟩ : ∃ x, idxI c = x := ⟨_, rfl⟩
    rw [hx] at x0 x1 x2 HO HH hrg ⊢
    clear hx hv x3
    have m1 : max x 0 = x := by omega
    go_wp2_with fail
    refine (offset_any x w2 HB2.out.2 (by omega) (by omega)).mono ?_
    rintro e w3 ⟨rfl, hw⟩
    rw [hw, HO.out.1, HO.out.2]
    clear hw w3
    go_wp2_with fail
    refine (holds_any (offI x) c w2 hrg.1 hrg.2 c0 c1).mono ?_
    rintro e w3 ⟨rfl, hw⟩
    rw [hw, HH.out]
    clear hw w3
    go_wp2
    go_ret
    exact ⟨rfl, HB2.out.1⟩
theorem reads (os : Os) {H : Type} (enc : TypeId × Value → H) : ∃ places, DataW.whole enc Tryd.prog ((({ World.holding Tryd.prog os ⟨#[], #[], []⟩ with heap := (((World.holding Tryd.prog os ⟨#[], #[], []⟩).heap.modify 0 Win.lay0).modify 1 Win.lay1) } : World)).forCall (fun _ _ => 0) ⟨#[], #[.int .u32 0], []⟩).memory Tryd.f4.params.toList Rows.windowIndexesSpec.vars false #[.int .u32 0].toList 8 = some ([.lit (.int .u32 0)], [], places) :=
  ⟨[], by kernel_rfl⟩
set_option maxRecDepth 100000 in
theorem lifted (os : Os) (started : os.Started) (H : Type) (enc : TypeId × Value → H) (Fi : Stop.Interp) :
    ReturnsInHanded {} Tryd.checked os 4 .any ((OpenSpec.ofChange Rows.windowIndexesSpec).preRow enc Tryd.prog Tryd.f4 Rows.windowIndexesRow.domain false Rows.windowIndexesRow.laid) (((OpenSpec.ofChange Rows.windowIndexesSpec).at Fi).post enc Tryd.prog Tryd.f4 false true false false) := by
  obtain ⟨places, hx⟩ := reads os enc
  refine returnsInHanded_of_row (C := Tryd.checked) (s := OpenSpec.ofChange Rows.windowIndexesSpec) Bas.own started (by kernel_rfl) Tryd.func4
    (witness_row_at (enc := enc) (C := Tryd.checked) false (({ World.holding Tryd.prog os ⟨#[], #[], []⟩ with heap := (((World.holding Tryd.prog os ⟨#[], #[], []⟩).heap.modify 0 Win.lay0).modify 1 Win.lay1) } : World)) #[.int .u32 0] rfl (by kernel_rfl) (by kernel_rfl) (by kernel_rfl)
      (OpenSpec.preRow_of_cond 8 hx (by kernel_rfl) (fun k hk => by cases hk) (by kernel_rfl) (Win.laid_met os _))) ?_
  intro W base args ds gs before hval0 hW _ _ _ hL _ _
  have hval : ∀ (j : Nat) t v, Tryd.f4.params[j]? = some t → args[j]? = some v → Value.okWide Tryd.prog W .any base t v := hval0
  have hW' := hW
  obtain ⟨p, q, hA0, hV, rfl, hfz, hnd⟩ := hW
  have hA : DataW.TrodAll enc Tryd.prog W 0 (fun _ => true) true Tryd.f4.params.toList args.toList ds p := hA0
  rw [Tryd.params4] at hA hval
  obtain ⟨v0, vs0, d0, ds0, p0, q0, hargs, rfl, rfl, h0, r0⟩ := trodAll_cons hA
  obtain ⟨rfl, rfl, rfl⟩ := trodAll_nil r0
  obtain rfl : args = #[v0] := by cases args; simp_all
  obtain ⟨rfl, rfl⟩ := trodVars_none hV
  have k0 := h0
  have lt0 : ∀ x ∈ p0, x.block < W.heap.size := by obtain ⟨m, hm⟩ := k0; exact DataW.trod_lt m _ _ _ hm
  obtain ⟨a0, rfl, rfl, rfl, w0⟩ := open_int Tryd.underlying22 (hval 0 22 v0 rfl rfl) h0
  refine (walk W (Win.tabs_of hL) a0 w0).mono fun e W' ⟨he, bel⟩ => ?_
  subst he
  exact ⟨_, rfl, _, _, _, [], _, [], hW', trodAll_mk1 (shut_bool Tryd.underlying4 _), (trodAll_cons_mk (Below.trod Bas.laidOut (by kernel_rfl) (of_decide_eq_true (by kernel_rfl)) k0 bel lt0) trodAll_mk0), rfl, bel.frame _, fun h => by cases h⟩


theorem over : Rows.windowIndexesRow.holds Tryd.pinned (OpenSpec.ofChange Rows.windowIndexesSpec) :=
  OpenClaim.holds_of_cond 4 Tryd.f4 rfl rfl rfl rfl rfl rfl rfl ⟨rfl, rfl, rfl, rfl, rfl⟩ rfl rfl rfl rfl rfl (by kernel_rfl) Tryd.func4 (by kernel_rfl)
    (of_decide_eq_true (by kernel_rfl)) (by unfold Func.isWrapper; first | (rw [if_pos (by decide +kernel)]; kernel_rfl) | (rw [if_neg (by decide +kernel)]; exact ⟨rfl, rfl⟩))
    (fun os started H enc _ Fi => by rw [OpenClaim.pre_eq_preRow]; exact lifted os started H enc Fi)
theorem plain (f : FuncId) (fn : Func) (hf : Tryd.pinned.checked.prog.funcNamed Rows.windowIndexesRow.func = some f) (hfn : Tryd.pinned.checked.prog.funcs[f]? = some fn) :
    false = Tryd.pinned.checked.prog.looks [] ∧ ∀ (j : Nat) t, fn.params[j]? = some t → Tryd.pinned.checked.prog.wantsStandIn t = false := by
  obtain rfl : f = 4 := Option.some.inj ((show Tryd.prog.funcNamed Rows.windowIndexesRow.func = some 4 by kernel_rfl).symm.trans hf) |>.symm
  obtain rfl : fn = Tryd.f4 := (Option.some.inj (Tryd.func4.symm.trans hfn)).symm
  refine ⟨by kernel_rfl, fun j t ht => ?_⟩
  rw [Tryd.params4] at ht
  have hm : t ∈ [22] := by simpa using Array.mem_of_getElem? ht
  have hall : ([22].all fun u => !Tryd.prog.wantsStandIn u) = true := by kernel_rfl
  exact (show Tryd.prog.wantsStandIn t = false by simpa using List.all_eq_true.1 hall t hm)
end Go.Proofs.YtgjmnghgpjfjmaaDoor.windowIndexes
namespace Go.Proofs.YtgjmnghgpjfjmaaDoor
/-- The statement: the tied card. -/
theorem windowIndexes_proved : Rows.WindowIndexesCardSaid :=
  Claim7.holds_tied_plain_at .later [] _ _ _ _ windowIndexes.over (fun _ h => by cases h) (by kernel_rfl) (fun _ h => by cases h) windowIndexes_row_tie rfl ⟨rfl, rfl⟩ (by kernel_rfl) rfl windowIndexes.plain (by kernel_rfl)
end Go.Proofs.YtgjmnghgpjfjmaaDoor
