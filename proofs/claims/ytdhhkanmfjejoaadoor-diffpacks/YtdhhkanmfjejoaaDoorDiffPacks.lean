/-
  Any difference has the bytes that the document says, or is refused: the statement DiffPacks, the theorem of stage 11, is proved, for every input. The condition is the card's own: the listed tables are as the program's text lays them.
-/
import Derived.Test.YtdhhkanmfjejoaaDoorDifAwk
import Derived.Test.YtdhhkanmfjejoaaDoorDifTab
import Derived.Test.YtdhhkanmfjejoaaDoorDifRf2
import Derived.Test.YtdhhkanmfjejoaaDoorDifWf
namespace Go.Proofs.YtdhhkanmfjejoaaDoor.diffPacks
open Go.ChangeShapes Go.WideShapes Go.ChangeAt Go.RowKit
open Go.ChangeMaps (open_string shut_string)
open Bas Txt Dif
set_option linter.unusedVariables false

set_option maxHeartbeats 8000000 in
theorem walk (w : World) (hT : Tabs w) (d : Int) (wd : (Lit.int .i64 d).wf = true) :
    Calls Tryd.prog 3 #[.int .i64 d] w fun e w' => e = .returned (.bool true) ∧ Below w.heap.size w w' := by
  have HT : Hid (Tabs w) := hT
  clear wd hT
  by_cases h : inR d
  · have HPK : Hid (∀ w, Tabs w → Calls Tryd.prog 9 #[.int .i64 d] w fun e w' => e = .returned (.tuple #[.string (strOf (packL d)), .bool true]) ∧ Below w.heap.size w w') := fun w hT => pack_yes d w hT h
    have HRP : Hid (∀ w, Calls Tryd.prog 11 #[.int .i64 d] w fun e w' => e = .returned (.string (strOf (packL d))) ∧ Below w.heap.size w w') := fun w => rPack_any d w h
    obtain ⟨S, hS⟩ : ∃ S, strOf (packL d) = S := ⟨_, rfl⟩
    rw [hS] at HPK HRP
    unfold inR at h
    obtain ⟨h1, h2⟩ := h
    clear hS
    go_enter Tryd.func3, Tryd.ntmps3
    go_wp2_with fail
    refine (HPK.out w HT.out).mono ?_
    rintro e w1 ⟨rfl, b1⟩
    have H1 : Hid (Below w.heap.size w w1 ∧ Tabs w1) := ⟨b1, HT.out.below b1⟩
    clear b1
    go_wp2_with fail
    refine (awake_any w1 H1.out.2).mono ?_
    rintro e w2 ⟨rfl, b1⟩
    have H2 : Hid (Below w.heap.size w w2) := below_two H1.out.1 b1
    clear b1 H1
    go_wp2_with fail
    refine (HRP.out w2).mono ?_
    rintro e w3 ⟨rfl, b1⟩
    have H3 : Hid (Below w.heap.size w w3) := below_two H2.out b1
    clear b1 H2
    go_wp2
    go_ret
    exact ⟨rfl, H3.out⟩
  · have hcs : d < -1114111 ∨ 1114111 < d := by unfold inR at h; omega
    have HPK : Hid (∀ w, Calls Tryd.prog 9 #[.int .i64 d] w fun e w' => e = .returned (.tuple #[.string { data := #[] }, .bool false]) ∧ w' = w) := fun w => pack_no d w h
    clear h
    rcases hcs with h | h
    all_goals
      go_enter Tryd.func3, Tryd.ntmps3
      go_wp2_with fail
      refine (HPK.out w).mono ?_
      rintro e w1 ⟨rfl, hw⟩
      rw [hw]
      clear hw w1
      go_wp2_with fail
      refine (awake_any w HT.out).mono ?_
      rintro e w2 ⟨rfl, b1⟩
      have H2 : Hid (Below w.heap.size w w2 ∧ Tabs w2) := ⟨b1, HT.out.below b1⟩
      clear b1
      go_wp2_with fail
      refine (awake_any w2 H2.out.2).mono ?_
      rintro e w3 ⟨rfl, b1⟩
      have H3 : Hid (Below w.heap.size w w3) := below_two H2.out.1 b1
      clear b1 H2
      go_wp2
      go_ret
      exact ⟨rfl, H3.out⟩
theorem reads (os : Os) {H : Type} (enc : TypeId × Value → H) : ∃ places, DataW.whole enc Tryd.prog ((({ World.holding Tryd.prog os ⟨#[], #[], []⟩ with heap := (((World.holding Tryd.prog os ⟨#[], #[], []⟩).heap.modify 0 Dif.lay0).modify 1 Dif.lay1) } : World)).forCall (fun _ _ => 0) ⟨#[], #[.int .i64 0], []⟩).memory Tryd.f3.params.toList Rows.diffPacksSpec.vars false #[.int .i64 0].toList 8 = some ([.lit (.int .i64 0)], [], places) :=
  ⟨[], by kernel_rfl⟩
set_option maxRecDepth 100000 in
theorem lifted (os : Os) (started : os.Started) (H : Type) (enc : TypeId × Value → H) (Fi : Stop.Interp) :
    ReturnsInHanded {} Tryd.checked os 3 .any ((OpenSpec.ofChange Rows.diffPacksSpec).preRow enc Tryd.prog Tryd.f3 Rows.diffPacksRow.domain false Rows.diffPacksRow.laid) (((OpenSpec.ofChange Rows.diffPacksSpec).at Fi).post enc Tryd.prog Tryd.f3 false true false false) := by
  obtain ⟨places, hx⟩ := reads os enc
  refine returnsInHanded_of_row (C := Tryd.checked) (s := OpenSpec.ofChange Rows.diffPacksSpec) Bas.own started (by kernel_rfl) Tryd.func3
    (witness_row_at (enc := enc) (C := Tryd.checked) false (({ World.holding Tryd.prog os ⟨#[], #[], []⟩ with heap := (((World.holding Tryd.prog os ⟨#[], #[], []⟩).heap.modify 0 Dif.lay0).modify 1 Dif.lay1) } : World)) #[.int .i64 0] rfl (by kernel_rfl) (by kernel_rfl) (by kernel_rfl)
      (OpenSpec.preRow_of_cond 8 hx (by kernel_rfl) (fun k hk => by cases hk) (by kernel_rfl) (Dif.laid_met os _))) ?_
  intro W base args ds gs before hval0 hW _ _ _ hL _ _
  have hval : ∀ (j : Nat) t v, Tryd.f3.params[j]? = some t → args[j]? = some v → Value.okWide Tryd.prog W .any base t v := hval0
  have hW' := hW
  obtain ⟨p, q, hA0, hV, rfl, hfz, hnd⟩ := hW
  have hA : DataW.TrodAll enc Tryd.prog W 0 (fun _ => true) true Tryd.f3.params.toList args.toList ds p := hA0
  rw [Tryd.params3] at hA hval
  obtain ⟨v0, vs0, d0, ds0, p0, q0, hargs, rfl, rfl, h0, r0⟩ := trodAll_cons hA
  obtain ⟨rfl, rfl, rfl⟩ := trodAll_nil r0
  obtain rfl : args = #[v0] := by cases args; simp_all
  obtain ⟨rfl, rfl⟩ := trodVars_none hV
  have k0 := h0
  have lt0 : ∀ x ∈ p0, x.block < W.heap.size := by obtain ⟨m, hm⟩ := k0; exact DataW.trod_lt m _ _ _ hm
  obtain ⟨a0, rfl, rfl, rfl, w0⟩ := open_int Tryd.underlying3 (hval 0 3 v0 rfl rfl) h0
  refine (walk W (Dif.tabs_of hL) a0 w0).mono fun e W' ⟨he, bel⟩ => ?_
  subst he
  exact ⟨_, rfl, _, _, _, [], _, [], hW', trodAll_mk1 (shut_bool Tryd.underlying4 _), (trodAll_cons_mk (Below.trod Bas.laidOut (by kernel_rfl) (of_decide_eq_true (by kernel_rfl)) k0 bel lt0) trodAll_mk0), rfl, bel.frame _, fun h => by cases h⟩


theorem over : Rows.diffPacksRow.holds Tryd.pinned (OpenSpec.ofChange Rows.diffPacksSpec) :=
  OpenClaim.holds_of_cond 3 Tryd.f3 rfl rfl rfl rfl rfl rfl rfl ⟨rfl, rfl, rfl, rfl, rfl⟩ rfl rfl rfl rfl rfl (by kernel_rfl) Tryd.func3 (by kernel_rfl)
    (of_decide_eq_true (by kernel_rfl)) (by unfold Func.isWrapper; first | (rw [if_pos (by decide +kernel)]; kernel_rfl) | (rw [if_neg (by decide +kernel)]; exact ⟨rfl, rfl⟩))
    (fun os started H enc _ Fi => by rw [OpenClaim.pre_eq_preRow]; exact lifted os started H enc Fi)
theorem plain (f : FuncId) (fn : Func) (hf : Tryd.pinned.checked.prog.funcNamed Rows.diffPacksRow.func = some f) (hfn : Tryd.pinned.checked.prog.funcs[f]? = some fn) :
    false = Tryd.pinned.checked.prog.looks [] ∧ ∀ (j : Nat) t, fn.params[j]? = some t → Tryd.pinned.checked.prog.wantsStandIn t = false := by
  obtain rfl : f = 3 := Option.some.inj ((show Tryd.prog.funcNamed Rows.diffPacksRow.func = some 3 by kernel_rfl).symm.trans hf) |>.symm
  obtain rfl : fn = Tryd.f3 := (Option.some.inj (Tryd.func3.symm.trans hfn)).symm
  refine ⟨by kernel_rfl, fun j t ht => ?_⟩
  rw [Tryd.params3] at ht
  have hm : t ∈ [3] := by simpa using Array.mem_of_getElem? ht
  have hall : ([3].all fun u => !Tryd.prog.wantsStandIn u) = true := by kernel_rfl
  exact (show Tryd.prog.wantsStandIn t = false by simpa using List.all_eq_true.1 hall t hm)
end Go.Proofs.YtdhhkanmfjejoaaDoor.diffPacks
namespace Go.Proofs.YtdhhkanmfjejoaaDoor
/-- The statement: the tied card. -/
theorem diffPacks_proved : Rows.DiffPacksCardSaid :=
  Claim7.holds_tied_plain_at .later [] _ _ _ _ diffPacks.over (fun _ h => by cases h) (by kernel_rfl) (fun _ h => by cases h) diffPacks_row_tie rfl ⟨rfl, rfl⟩ (by kernel_rfl) rfl diffPacks.plain (by kernel_rfl)
end Go.Proofs.YtdhhkanmfjejoaaDoor
