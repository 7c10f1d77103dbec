/-
  Any bytes begin just the differences that the document says, or none: the statement DiffRanges is proved, for every input. The condition is the card's own: the listed tables are as the program's text lays them.
-/
import Derived.Test.YtdhhkanmfjejoaaDoorDifAwk
import Derived.Test.YtdhhkanmfjejoaaDoorDifTab
import Derived.Test.YtdhhkanmfjejoaaDoorDifRf3
import Derived.Test.YtdhhkanmfjejoaaDoorDifWf
namespace Go.Proofs.YtdhhkanmfjejoaaDoor.diffRanges
open Go.ChangeShapes Go.WideShapes Go.ChangeAt Go.RowKit
open Go.ChangeMaps (open_string shut_string)
open Bas Txt Dif
set_option linter.unusedVariables false

theorem empty_of {s : ByteArray} (h : s.size = 0) : s = { data := #[] } := by
  cases s with
  | mk d =>
    have : d.size = 0 := h
    rw [Array.eq_empty_of_size_eq_zero this]
theorem range_all (s : ByteArray) (w : World) (hT : Tabs w) (hs : s.size ≤ 1000000) :
    Calls Tryd.prog 12 #[.string s] w fun e w' => e = .returned (rngV (rngL (bytesL s))) ∧ Below w.heap.size w w' := by
  by_cases h : s.size = 0
  · rw [empty_of h]
    exact (range_nil w).mono fun e w' ⟨he, hw⟩ => ⟨he, by rw [hw]; exact Below.refl _ _⟩
  · exact range_any s w hT (by omega) hs
theorem rRange_all (s : ByteArray) (w : World) (hs : s.size ≤ 1000000) :
    Calls Tryd.prog 13 #[.string s] w fun e w' => e = .returned (rrV (rngL (bytesL s))) ∧ Below w.heap.size w w' := by
  by_cases h : s.size = 0
  · rw [empty_of h]
    exact (rRange_nil w).mono fun e w' ⟨he, hw⟩ => ⟨he, by rw [hw]; exact Below.refl _ _⟩
  · exact rRange_any s w (by omega) hs
theorem rng_pos {l : List Int} {x y : Int} {n : Nat} (h : rngL l = some (x, y, n)) : 1 ≤ n := by
  cases l with
  | nil => simp [rngL] at h
  | cons b r =>
    simp only [rngL] at h
    split at h
    · simp at h
    · cases hh : rngF (ltI b).toNat (lbI b) r with
      | none => rw [hh] at h; simp at h
      | some z => rw [hh] at h; simp at h; omega
set_option maxHeartbeats 8000000 in
theorem walk (w : World) (hT : Tabs w) (s : ByteArray) (hs : s.size ≤ maxLen) :
    Calls Tryd.prog 4 #[.string s] w fun e w' => e = .returned (.bool true) ∧ Below w.heap.size w w' := by
  have HT : Hid (Tabs w) := hT
  clear hT
  unfold maxLen at hs
  go_enter Tryd.func4, Tryd.ntmps4
  go_wp2_with fail
  refine (awake_any w HT.out).mono ?_
  rintro e w1 ⟨rfl, b1⟩
  have H1 : Hid (Below w.heap.size w w1 ∧ Tabs w1) := ⟨b1, HT.out.below b1⟩
  clear b1
  by_cases h : s.size ≤ 100
  · have i1 : (s.size : Int) ≤ 100 := by omega
    have HRA : Hid (∀ w, Tabs w → Calls Tryd.prog 12 #[.string s] w fun e w' => e = .returned (rngV (rngL (bytesL s))) ∧ Below w.heap.size w w') := fun w hT => range_all s w hT (by omega)
    have HRR : Hid (∀ w, Calls Tryd.prog 13 #[.string s] w fun e w' => e = .returned (rrV (rngL (bytesL s))) ∧ Below w.heap.size w w') := fun w => rRange_all s w (by omega)
    have HPO : Hid (∀ x y n, rngL (bytesL s) = some (x, y, n) → 1 ≤ n) := fun x y n h => rng_pos h
    obtain ⟨R, hR⟩ : ∃ R, rngL (bytesL s) = R := ⟨_, rfl⟩
    rw [hR] at HRA HRR HPO
    clear hR
    cases R with
    | none =>
      unfold rngV at HRA
      unfold rrV at HRR
      go_wp2_with fail
      refine (HRA.out w1 H1.out.2).mono ?_
      rintro e w2 ⟨rfl, b1⟩
      have H2 : Hid (Below w.heap.size w w2) := below_two H1.out.1 b1
      clear b1 H1
      go_wp2_with fail
      refine (HRR.out w2).mono ?_
      rintro e w3 ⟨rfl, b1⟩
      have H3 : Hid (Below w.heap.size w w3) := below_two H2.out b1
      clear b1 H2 HPO
      go_wp2
      go_ret
      exact ⟨rfl, H3.out⟩
    | some z =>
      obtain ⟨x, y, n⟩ := z
      have hn := HPO.out x y n rfl
      have i2 : (0 : Int) < (n : Int) := by omega
      unfold rngV at HRA
      unfold rrV at HRR
      clear HPO
      go_wp2_with fail
      refine (HRA.out w1 H1.out.2).mono ?_
      rintro e w2 ⟨rfl, b1⟩
      have H2 : Hid (Below w.heap.size w w2) := below_two H1.out.1 b1
      clear b1 H1
      go_wp2_with fail
      refine (HRR.out w2).mono ?_
      rintro e w3 ⟨rfl, b1⟩
      have H3 : Hid (Below w.heap.size w w3) := below_two H2.out b1
      clear b1 H2
      go_wp2
      go_ret
      exact ⟨ret_bool (show decide (0 < n) = true by rw [decide_eq_true_iff]; omega), H3.out⟩
  · have i1 : 100 < (s.size : Int) := by omega
    go_wp2_with fail
    refine (awake_any w1 H1.out.2).mono ?_
    rintro e w2 ⟨rfl, b1⟩
    have H2 : Hid (Below w.heap.size w w2) := below_two H1.out.1 b1
    clear b1 H1
    go_wp2
    go_ret
    exact ⟨rfl, H2.out⟩
theorem reads (os : Os) {H : Type} (enc : TypeId × Value → H) : ∃ places, DataW.whole enc Tryd.prog ((({ World.holding Tryd.prog os ⟨#[], #[], []⟩ with heap := (((World.holding Tryd.prog os ⟨#[], #[], []⟩).heap.modify 0 Dif.lay0).modify 1 Dif.lay1) } : World)).forCall (fun _ _ => 0) ⟨#[], #[.string ByteArray.empty], []⟩).memory Tryd.f4.params.toList Rows.diffRangesSpec.vars false #[.string ByteArray.empty].toList 8 = some ([.lit (.string [])], [], places) :=
  ⟨[], by kernel_rfl⟩
set_option maxRecDepth 100000 in
theorem lifted (os : Os) (started : os.Started) (H : Type) (enc : TypeId × Value → H) (Fi : Stop.Interp) :
    ReturnsInHanded {} Tryd.checked os 4 .any ((OpenSpec.ofChange Rows.diffRangesSpec).preRow enc Tryd.prog Tryd.f4 Rows.diffRangesRow.domain false Rows.diffRangesRow.laid) (((OpenSpec.ofChange Rows.diffRangesSpec).at Fi).post enc Tryd.prog Tryd.f4 false true false false) := by
  obtain ⟨places, hx⟩ := reads os enc
  refine returnsInHanded_of_row (C := Tryd.checked) (s := OpenSpec.ofChange Rows.diffRangesSpec) Bas.own started (by kernel_rfl) Tryd.func4
    (witness_row_at (enc := enc) (C := Tryd.checked) false (({ World.holding Tryd.prog os ⟨#[], #[], []⟩ with heap := (((World.holding Tryd.prog os ⟨#[], #[], []⟩).heap.modify 0 Dif.lay0).modify 1 Dif.lay1) } : World)) #[.string ByteArray.empty] rfl (by kernel_rfl) (by kernel_rfl) (by kernel_rfl)
      (OpenSpec.preRow_of_cond 8 hx (by kernel_rfl) (fun k hk => by cases hk) (by kernel_rfl) (Dif.laid_met os _))) ?_
  intro W base args ds gs before hval0 hW _ _ _ hL _ _
  have hval : ∀ (j : Nat) t v, Tryd.f4.params[j]? = some t → args[j]? = some v → Value.okWide Tryd.prog W .any base t v := hval0
  have hW' := hW
  obtain ⟨p, q, hA0, hV, rfl, hfz, hnd⟩ := hW
  have hA : DataW.TrodAll enc Tryd.prog W 0 (fun _ => true) true Tryd.f4.params.toList args.toList ds p := hA0
  rw [Tryd.params4] at hA hval
  obtain ⟨v0, vs0, d0, ds0, p0, q0, hargs, rfl, rfl, h0, r0⟩ := trodAll_cons hA
  obtain ⟨rfl, rfl, rfl⟩ := trodAll_nil r0
  obtain rfl : args = #[v0] := by cases args; simp_all
  obtain ⟨rfl, rfl⟩ := trodVars_none hV
  have k0 := h0
  have lt0 : ∀ x ∈ p0, x.block < W.heap.size := by obtain ⟨m, hm⟩ := k0; exact DataW.trod_lt m _ _ _ hm
  obtain ⟨a0, rfl, rfl, rfl, w0⟩ := open_string Tryd.underlying9 (hval 0 9 v0 rfl rfl) h0
  refine (walk W (Dif.tabs_of hL) a0 w0).mono fun e W' ⟨he, bel⟩ => ?_
  subst he
  exact ⟨_, rfl, _, _, _, [], _, [], hW', trodAll_mk1 (shut_bool Tryd.underlying4 _), (trodAll_cons_mk (Below.trod Bas.laidOut (by kernel_rfl) (of_decide_eq_true (by kernel_rfl)) k0 bel lt0) trodAll_mk0), rfl, bel.frame _, fun h => by cases h⟩


theorem over : Rows.diffRangesRow.holds Tryd.pinned (OpenSpec.ofChange Rows.diffRangesSpec) :=
  OpenClaim.holds_of_cond 4 Tryd.f4 rfl rfl rfl rfl rfl rfl rfl ⟨rfl, rfl, rfl, rfl, rfl⟩ rfl rfl rfl rfl rfl (by kernel_rfl) Tryd.func4 (by kernel_rfl)
    (of_decide_eq_true (by kernel_rfl)) (by unfold Func.isWrapper; first | (rw [if_pos (by decide +kernel)]; kernel_rfl) | (rw [if_neg (by decide +kernel)]; exact ⟨rfl, rfl⟩))
    (fun os started H enc _ Fi => by rw [OpenClaim.pre_eq_preRow]; exact lifted os started H enc Fi)
theorem plain (f : FuncId) (fn : Func) (hf : Tryd.pinned.checked.prog.funcNamed Rows.diffRangesRow.func = some f) (hfn : Tryd.pinned.checked.prog.funcs[f]? = some fn) :
    false = Tryd.pinned.checked.prog.looks [] ∧ ∀ (j : Nat) t, fn.params[j]? = some t → Tryd.pinned.checked.prog.wantsStandIn t = false := by
  obtain rfl : f = 4 := Option.some.inj ((show Tryd.prog.funcNamed Rows.diffRangesRow.func = some 4 by kernel_rfl).symm.trans hf) |>.symm
  obtain rfl : fn = Tryd.f4 := (Option.some.inj (Tryd.func4.symm.trans hfn)).symm
  refine ⟨by kernel_rfl, fun j t ht => ?_⟩
  rw [Tryd.params4] at ht
  have hm : t ∈ [9] := by simpa using Array.mem_of_getElem? ht
  have hall : ([9].all fun u => !Tryd.prog.wantsStandIn u) = true := by kernel_rfl
  exact (show Tryd.prog.wantsStandIn t = false by simpa using List.all_eq_true.1 hall t hm)
end Go.Proofs.YtdhhkanmfjejoaaDoor.diffRanges
namespace Go.Proofs.YtdhhkanmfjejoaaDoor
/-- The statement: the tied card. -/
theorem diffRanges_proved : Rows.DiffRangesCardSaid :=
  Claim7.holds_tied_plain_at .later [] _ _ _ _ diffRanges.over (fun _ h => by cases h) (by kernel_rfl) (fun _ h => by cases h) diffRanges_row_tie rfl ⟨rfl, rfl⟩ (by kernel_rfl) rfl diffRanges.plain (by kernel_rfl)
end Go.Proofs.YtdhhkanmfjejoaaDoor
