/-
  Behind any number the next one is held against the number that the document says; of a scalar that is no further from it than 187660: the statement DiffPrev is proved, for every input. The condition is the card's own: the listed tables are as the program's text lays them.
-/
import Derived.Test.YtdhhkanmfjejoaaDoorDifAwk
import Derived.Test.YtdhhkanmfjejoaaDoorDifTab
import Derived.Test.YtdhhkanmfjejoaaDoorDifRf1
import Derived.Test.YtdhhkanmfjejoaaDoorDifWf
namespace Go.Proofs.YtdhhkanmfjejoaaDoor.diffPrev
open Go.ChangeShapes Go.WideShapes Go.ChangeAt Go.RowKit
open Go.ChangeMaps (open_string shut_string)
open Bas Txt Dif
set_option linter.unusedVariables false

theorem prev_near {c : Int} (h0 : 0 ≤ c) (h : c ≤ 1114111) : prevI c - c ≤ 187660 ∧ c - prevI c ≤ 187660 := by
  unfold prevI; repeat' split
  all_goals omega
theorem prev_rng {c : Int} (h0 : 0 ≤ c) (h : c < 4294967296) : 0 ≤ prevI c ∧ prevI c < 4294967296 := by
  unfold prevI; repeat' split
  all_goals omega
set_option maxHeartbeats 4000000 in
theorem walk (w : World) (hT : Tabs w) (c : Int) (wc : (Lit.int .u32 c).wf = true) :
    Calls Tryd.prog 6 #[.int .u32 c] w fun e w' => e = .returned (.bool true) ∧ Below w.heap.size w w' := by
  obtain ⟨c0, c1⟩ := u32_of wc
  have HT : Hid (Tabs w) := hT
  clear wc hT
  have HP : Hid (∀ w, Calls Tryd.prog 18 #[.int .u32 c] w fun e w' => e = .returned (.int .u32 (prevI c)) ∧ w' = w) := fun w => prev_any c w c0 c1
  have HR : Hid (∀ w, Calls Tryd.prog 19 #[.int .u32 c] w fun e w' => e = .returned (.int .u32 (prevI c)) ∧ w' = w) := fun w => rPrev_any c w c0 c1
  have hn : c ≤ 1114111 → prevI c - c ≤ 187660 ∧ c - prevI c ≤ 187660 := fun h => prev_near c0 h
  have hr := prev_rng c0 c1
  obtain ⟨p, hp⟩ : ∃ p, prevI c = p := ⟨_, rfl⟩
  rw [hp] at HP HR hn hr
  clear hp
  go_enter Tryd.func6, Tryd.ntmps6
  go_wp2_with fail
  refine (HP.out w).mono ?_
  rintro e w1 ⟨rfl, hw⟩
  rw [hw]
  clear hw w1
  go_wp2_with fail
  refine (awake_any w HT.out).mono ?_
  rintro e w2 ⟨rfl, hB⟩
  have HB : Hid (Below w.heap.size w w2) := hB
  clear hB
  go_wp2_with fail
  refine (HR.out w2).mono ?_
  rintro e w3 ⟨rfl, hw⟩
  rw [hw]
  clear hw w3 HP HR
  by_cases hc : c ≤ 1114111
  · obtain ⟨n1, n2⟩ := hn hc
    clear hn
    go_wp2
    go_ret
    exact ⟨rfl, HB.out⟩
  · have hc2 : 1114111 < c := by omega
    clear hn hc
    go_wp2
    go_ret
    exact ⟨rfl, HB.out⟩
theorem reads (os : Os) {H : Type} (enc : TypeId × Value → H) : ∃ places, DataW.whole enc Tryd.prog ((({ World.holding Tryd.prog os ⟨#[], #[], []⟩ with heap := (((World.holding Tryd.prog os ⟨#[], #[], []⟩).heap.modify 0 Dif.lay0).modify 1 Dif.lay1) } : World)).forCall (fun _ _ => 0) ⟨#[], #[.int .u32 0], []⟩).memory Tryd.f6.params.toList Rows.diffPrevSpec.vars false #[.int .u32 0].toList 8 = some ([.lit (.int .u32 0)], [], places) :=
  ⟨[], by kernel_rfl⟩
set_option maxRecDepth 100000 in
theorem lifted (os : Os) (started : os.Started) (H : Type) (enc : TypeId × Value → H) (Fi : Stop.Interp) :
    ReturnsInHanded {} Tryd.checked os 6 .any ((OpenSpec.ofChange Rows.diffPrevSpec).preRow enc Tryd.prog Tryd.f6 Rows.diffPrevRow.domain false Rows.diffPrevRow.laid) (((OpenSpec.ofChange Rows.diffPrevSpec).at Fi).post enc Tryd.prog Tryd.f6 false true false false) := by
  obtain ⟨places, hx⟩ := reads os enc
  refine returnsInHanded_of_row (C := Tryd.checked) (s := OpenSpec.ofChange Rows.diffPrevSpec) Bas.own started (by kernel_rfl) Tryd.func6
    (witness_row_at (enc := enc) (C := Tryd.checked) false (({ World.holding Tryd.prog os ⟨#[], #[], []⟩ with heap := (((World.holding Tryd.prog os ⟨#[], #[], []⟩).heap.modify 0 Dif.lay0).modify 1 Dif.lay1) } : World)) #[.int .u32 0] rfl (by kernel_rfl) (by kernel_rfl) (by kernel_rfl)
      (OpenSpec.preRow_of_cond 8 hx (by kernel_rfl) (fun k hk => by cases hk) (by kernel_rfl) (Dif.laid_met os _))) ?_
  intro W base args ds gs before hval0 hW _ _ _ hL _ _
  have hval : ∀ (j : Nat) t v, Tryd.f6.params[j]? = some t → args[j]? = some v → Value.okWide Tryd.prog W .any base t v := hval0
  have hW' := hW
  obtain ⟨p, q, hA0, hV, rfl, hfz, hnd⟩ := hW
  have hA : DataW.TrodAll enc Tryd.prog W 0 (fun _ => true) true Tryd.f6.params.toList args.toList ds p := hA0
  rw [Tryd.params6] at hA hval
  obtain ⟨v0, vs0, d0, ds0, p0, q0, hargs, rfl, rfl, h0, r0⟩ := trodAll_cons hA
  obtain ⟨rfl, rfl, rfl⟩ := trodAll_nil r0
  obtain rfl : args = #[v0] := by cases args; simp_all
  obtain ⟨rfl, rfl⟩ := trodVars_none hV
  have k0 := h0
  have lt0 : ∀ x ∈ p0, x.block < W.heap.size := by obtain ⟨m, hm⟩ := k0; exact DataW.trod_lt m _ _ _ hm
  obtain ⟨a0, rfl, rfl, rfl, w0⟩ := open_int Tryd.underlying40 (hval 0 40 v0 rfl rfl) h0
  refine (walk W (Dif.tabs_of hL) a0 w0).mono fun e W' ⟨he, bel⟩ => ?_
  subst he
  exact ⟨_, rfl, _, _, _, [], _, [], hW', trodAll_mk1 (shut_bool Tryd.underlying4 _), (trodAll_cons_mk (Below.trod Bas.laidOut (by kernel_rfl) (of_decide_eq_true (by kernel_rfl)) k0 bel lt0) trodAll_mk0), rfl, bel.frame _, fun h => by cases h⟩


theorem over : Rows.diffPrevRow.holds Tryd.pinned (OpenSpec.ofChange Rows.diffPrevSpec) :=
  OpenClaim.holds_of_cond 6 Tryd.f6 rfl rfl rfl rfl rfl rfl rfl ⟨rfl, rfl, rfl, rfl, rfl⟩ rfl rfl rfl rfl rfl (by kernel_rfl) Tryd.func6 (by kernel_rfl)
    (of_decide_eq_true (by kernel_rfl)) (by unfold Func.isWrapper; first | (rw [if_pos (by decide +kernel)]; kernel_rfl) | (rw [if_neg (by decide +kernel)]; exact ⟨rfl, rfl⟩))
    (fun os started H enc _ Fi => by rw [OpenClaim.pre_eq_preRow]; exact lifted os started H enc Fi)
theorem plain (f : FuncId) (fn : Func) (hf : Tryd.pinned.checked.prog.funcNamed Rows.diffPrevRow.func = some f) (hfn : Tryd.pinned.checked.prog.funcs[f]? = some fn) :
    false = Tryd.pinned.checked.prog.looks [] ∧ ∀ (j : Nat) t, fn.params[j]? = some t → Tryd.pinned.checked.prog.wantsStandIn t = false := by
  obtain rfl : f = 6 := Option.some.inj ((show Tryd.prog.funcNamed Rows.diffPrevRow.func = some 6 by kernel_rfl).symm.trans hf) |>.symm
  obtain rfl : fn = Tryd.f6 := (Option.some.inj (Tryd.func6.symm.trans hfn)).symm
  refine ⟨by kernel_rfl, fun j t ht => ?_⟩
  rw [Tryd.params6] at ht
  have hm : t ∈ [40] := by simpa using Array.mem_of_getElem? ht
  have hall : ([40].all fun u => !Tryd.prog.wantsStandIn u) = true := by kernel_rfl
  exact (show Tryd.prog.wantsStandIn t = false by simpa using List.all_eq_true.1 hall t hm)
end Go.Proofs.YtdhhkanmfjejoaaDoor.diffPrev
namespace Go.Proofs.YtdhhkanmfjejoaaDoor
/-- The statement: the tied card. -/
theorem diffPrev_proved : Rows.DiffPrevCardSaid :=
  Claim7.holds_tied_plain_at .later [] _ _ _ _ diffPrev.over (fun _ h => by cases h) (by kernel_rfl) (fun _ h => by cases h) diffPrev_row_tie rfl ⟨rfl, rfl⟩ (by kernel_rfl) rfl diffPrev.plain (by kernel_rfl)
end Go.Proofs.YtdhhkanmfjejoaaDoor
