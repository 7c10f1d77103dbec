/-
  Any byte is worth what the document says, or nothing; any worth has the byte that it says, or none; and bytes rise as worths do: the statement DiffTrails is proved, for every input. The condition is the card's own: the listed tables are as the program's text lays them.
-/
import Derived.Test.YtdhhkanmfjejoaaDoorDifAwk
import Derived.Test.YtdhhkanmfjejoaaDoorDifTab
import Derived.Test.YtdhhkanmfjejoaaDoorDifRf1
import Derived.Test.YtdhhkanmfjejoaaDoorDifWf
namespace Go.Proofs.YtdhhkanmfjejoaaDoor.diffTrails
open Go.ChangeShapes Go.WideShapes Go.ChangeAt Go.RowKit
open Go.ChangeMaps (open_string shut_string)
open Bas Txt Dif
set_option linter.unusedVariables false

/-- What is told of a worth. -/
def bytV (n : Int) : Int := if 0 ≤ n ∧ n < 243 then trB n.toNat else 0
def bytB (n : Int) : Bool := decide (0 ≤ n ∧ n < 243)
theorem byte_any (n : Int) (w : World) (hT : Tabs w) :
    Calls Tryd.prog 16 #[.int .i64 n] w fun e w' => e = .returned (.tuple #[.int .u8 (bytV n), .bool (bytB n)]) ∧ Below w.heap.size w w' := by
  by_cases h : 0 ≤ n ∧ n < 243
  · have e1 : bytV n = trB n.toNat := by unfold bytV; rw [if_pos h]
    have e2 : bytB n = true := by unfold bytB; simp [h]
    rw [e1, e2]
    have := byte_yes n.toNat w hT (by omega)
    rw [show ((n.toNat : Nat) : Int) = n by omega] at this
    exact this.mono fun e w' ⟨he, k, hk⟩ => ⟨he, by rw [hk]; exact below_dn _ _⟩
  · have e1 : bytV n = 0 := by unfold bytV; rw [if_neg h]
    have e2 : bytB n = false := by unfold bytB; simp [h]
    rw [e1, e2]
    exact (byte_no n w (by omega)).mono fun e w' ⟨he, hk⟩ => ⟨he, by rw [hk]; exact Below.refl _ _⟩
theorem byt_cases (n : Int) : ((n < 0 ∨ 242 < n) ∧ bytV n = 0 ∧ bytB n = false) ∨ (∃ k : Nat, n = (k : Int) ∧ k < 243 ∧ bytV n = trB k ∧ bytB n = true) := by
  unfold bytV bytB
  by_cases h : 0 ≤ n ∧ n < 243
  · right; exact ⟨n.toNat, by omega, by omega, by rw [if_pos h], by simp [h]⟩
  · left; exact ⟨by omega, by rw [if_neg h], by simp [h]⟩
theorem trB_iff {v w : Nat} : trB v < trB w ↔ v < w := by
  constructor
  · intro h
    rcases Nat.lt_trichotomy v w with e | e | e
    · exact e
    · subst e; omega
    · have := trB_lt e; omega
  · exact trB_lt
set_option maxHeartbeats 8000000 in
set_option maxRecDepth 100000 in
theorem walk (w : World) (hT : Tabs w) (b : Int) (wb : (Lit.int .u8 b).wf = true) (m : Int) (wm : (Lit.int .i64 m).wf = true) (n : Int) (wn : (Lit.int .i64 n).wf = true) :
    Calls Tryd.prog 5 #[.int .u8 b, .int .i64 m, .int .i64 n] w fun e w' => e = .returned (.bool true) ∧ Below w.heap.size w w' := by
  obtain ⟨c0, c1⟩ := byte_of wb
  have HT : Hid (Tabs w) := hT
  clear wb wm wn hT
  have HD : Hid (∀ w, Tabs w → Calls Tryd.prog 14 #[.int .u8 b] w fun e w' => e = .returned (.tuple #[.int .i64 (worV b), .bool (worB b)]) ∧ Below w.heap.size w w') := fun w hT => trail_any b w hT c0 c1
  have HR : Hid (∀ w, Calls Tryd.prog 15 #[.int .u8 b] w fun e w' => e = .returned (.int .i64 (wor b)) ∧ Below w.heap.size w w') := fun w => rWorth_any b w c0 c1
  have HM : Hid (∀ w, Tabs w → Calls Tryd.prog 16 #[.int .i64 m] w fun e w' => e = .returned (.tuple #[.int .u8 (bytV m), .bool (bytB m)]) ∧ Below w.heap.size w w') := fun w hT => byte_any m w hT
  have HN : Hid (∀ w, Tabs w → Calls Tryd.prog 16 #[.int .i64 n] w fun e w' => e = .returned (.tuple #[.int .u8 (bytV n), .bool (bytB n)]) ∧ Below w.heap.size w w') := fun w hT => byte_any n w hT
  have hdv : (wor b < 0 ∧ worV b = 0 ∧ worB b = false) ∨ (0 ≤ wor b ∧ worV b = wor b ∧ worB b = true) := by
    unfold worV worB
    by_cases h : wor b < 0
    · left; simp [h]
    · right; simp [h]; omega
  have hmv := byt_cases m
  have hnv := byt_cases n
  obtain ⟨dv, e1⟩ : ∃ x, worV b = x := ⟨_, rfl⟩
  obtain ⟨db, e2⟩ : ∃ x, worB b = x := ⟨_, rfl⟩
  obtain ⟨di, e3⟩ : ∃ x, wor b = x := ⟨_, rfl⟩
  obtain ⟨mv, e4⟩ : ∃ x, bytV m = x := ⟨_, rfl⟩
  obtain ⟨mb, e5⟩ : ∃ x, bytB m = x := ⟨_, rfl⟩
  obtain ⟨nv, e6⟩ : ∃ x, bytV n = x := ⟨_, rfl⟩
  obtain ⟨nb, e7⟩ : ∃ x, bytB n = x := ⟨_, rfl⟩
  rw [e1, e2] at HD hdv
  rw [e3] at HR hdv
  rw [e4, e5] at HM hmv
  rw [e6, e7] at HN hnv
  clear e1 e2 e3 e4 e5 e6 e7
  go_enter Tryd.func5, Tryd.ntmps5
  go_wp2_with fail
  refine (HD.out w HT.out).mono ?_
  rintro e w1 ⟨rfl, b1⟩
  have H1 : Hid (Below w.heap.size w w1 ∧ Tabs w1) := ⟨b1, HT.out.below b1⟩
  clear b1
  go_wp2_with fail
  refine (HR.out w1).mono ?_
  rintro e w2 ⟨rfl, b1⟩
  have H2 : Hid (Below w.heap.size w w2 ∧ Tabs w2) := ⟨below_two H1.out.1 b1, H1.out.2.below b1⟩
  clear b1 H1
  go_wp2_with fail
  refine (HM.out w2 H2.out.2).mono ?_
  rintro e w3 ⟨rfl, b1⟩
  have H3 : Hid (Below w.heap.size w w3 ∧ Tabs w3) := ⟨below_two H2.out.1 b1, H2.out.2.below b1⟩
  clear b1 H2
  go_wp2_with fail
  refine (HN.out w3 H3.out.2).mono ?_
  rintro e w4 ⟨rfl, b1⟩
  have H4 : Hid (Below w.heap.size w w4 ∧ Tabs w4) := ⟨below_two H3.out.1 b1, H3.out.2.below b1⟩
  clear b1 H3
  go_wp2_with fail
  refine (awake_any w4 H4.out.2).mono ?_
  rintro e w5 ⟨rfl, b1⟩
  have H5 : Hid (Below w.heap.size w w5) := below_two H4.out.1 b1
  clear b1 H4 HD HR HM HN
  have hmax : max di 0 = dv := by rcases hdv with ⟨h, e, -⟩ | ⟨h, e, -⟩ <;> omega
  have hdb : db = decide (0 ≤ di) := by rcases hdv with ⟨h, -, e⟩ | ⟨h, -, e⟩ <;> rw [e] <;> simp <;> omega
  subst hdb
  clear hdv
  all_goals
    rcases hmv with ⟨b1, rfl, rfl⟩ | ⟨k, rfl, hk, hkl, rfl⟩
    · rcases b1 with b1 | b1
      all_goals
        clear hnv
        go_wp2
        go_ret
        exact ⟨rfl, H5.out⟩
    · have i1 : (k : Int) ≤ 242 := by omega
      have i2 : (k : Int) < 243 := by omega
      have hmx := trB_rng hk
      rw [← hkl] at hmx
      have HKL : Hid (mv = trB k) := hkl
      clear hkl
      go_wp2_with fail
      refine (rTrails_any w5).mono ?_
      rintro e w6 ⟨v, rfl, hO⟩
      obtain ⟨a, c, rfl, hrow, -⟩ := hO.1.form
      have H6 : Hid (Below w.heap.size w w6) := below_two H5.out hO.2.2
      obtain ⟨bk, off, ha, hcell⟩ := hrow
      obtain rfl := ha (by intro e; have := allT_len; rw [e] at this; simp at this)
      have hc := hcell k (by rw [allT_len]; exact hk)
      rw [allT_nth hk, ← HKL.out] at hc
      rw [allT_len]
      clear hcell hO H5
      rcases hnv with ⟨b1, rfl, rfl⟩ | ⟨q, rfl, hq, hql, rfl⟩
      · clear b1
        go_wp2
        go_ret
        exact ⟨rfl, H6.out⟩
      · have hlt : decide (mv < nv) = decide ((k : Int) < (q : Int)) := by
          rw [HKL.out, hql, decide_eq_decide, trB_iff]; omega
        clear hql
        go_wp2
        go_ret
        exact ⟨rfl, H6.out⟩
theorem reads (os : Os) {H : Type} (enc : TypeId × Value → H) : ∃ places, DataW.whole enc Tryd.prog ((({ World.holding Tryd.prog os ⟨#[], #[], []⟩ with heap := (((World.holding Tryd.prog os ⟨#[], #[], []⟩).heap.modify 0 Dif.lay0).modify 1 Dif.lay1) } : World)).forCall (fun _ _ => 0) ⟨#[], #[.int .u8 0, .int .i64 0, .int .i64 0], []⟩).memory Tryd.f5.params.toList Rows.diffTrailsSpec.vars false #[.int .u8 0, .int .i64 0, .int .i64 0].toList 8 = some ([.lit (.int .u8 0), .lit (.int .i64 0), .lit (.int .i64 0)], [], places) :=
  ⟨[], by kernel_rfl⟩
set_option maxRecDepth 100000 in
theorem lifted (os : Os) (started : os.Started) (H : Type) (enc : TypeId × Value → H) (Fi : Stop.Interp) :
    ReturnsInHanded {} Tryd.checked os 5 .any ((OpenSpec.ofChange Rows.diffTrailsSpec).preRow enc Tryd.prog Tryd.f5 Rows.diffTrailsRow.domain false Rows.diffTrailsRow.laid) (((OpenSpec.ofChange Rows.diffTrailsSpec).at Fi).post enc Tryd.prog Tryd.f5 false true false false) := by
  obtain ⟨places, hx⟩ := reads os enc
  refine returnsInHanded_of_row (C := Tryd.checked) (s := OpenSpec.ofChange Rows.diffTrailsSpec) Bas.own started (by kernel_rfl) Tryd.func5
    (witness_row_at (enc := enc) (C := Tryd.checked) false (({ World.holding Tryd.prog os ⟨#[], #[], []⟩ with heap := (((World.holding Tryd.prog os ⟨#[], #[], []⟩).heap.modify 0 Dif.lay0).modify 1 Dif.lay1) } : World)) #[.int .u8 0, .int .i64 0, .int .i64 0] rfl (by kernel_rfl) (by kernel_rfl) (by kernel_rfl)
      (OpenSpec.preRow_of_cond 8 hx (by kernel_rfl) (fun k hk => by cases hk) (by kernel_rfl) (Dif.laid_met os _))) ?_
  intro W base args ds gs before hval0 hW _ _ _ hL _ _
  have hval : ∀ (j : Nat) t v, Tryd.f5.params[j]? = some t → args[j]? = some v → Value.okWide Tryd.prog W .any base t v := hval0
  have hW' := hW
  obtain ⟨p, q, hA0, hV, rfl, hfz, hnd⟩ := hW
  have hA : DataW.TrodAll enc Tryd.prog W 0 (fun _ => true) true Tryd.f5.params.toList args.toList ds p := hA0
  rw [Tryd.params5] at hA hval
  obtain ⟨v0, vs0, d0, ds0, p0, q0, hargs, rfl, rfl, h0, r0⟩ := trodAll_cons hA
  obtain ⟨v1, vs1, d1, ds1, p1, q1, rfl, rfl, rfl, h1, r1⟩ := trodAll_cons r0
  obtain ⟨v2, vs2, d2, ds2, p2, q2, rfl, rfl, rfl, h2, r2⟩ := trodAll_cons r1
  obtain ⟨rfl, rfl, rfl⟩ := trodAll_nil r2
  obtain rfl : args = #[v0, v1, v2] := by cases args; simp_all
  obtain ⟨rfl, rfl⟩ := trodVars_none hV
  have k0 := h0
  have lt0 : ∀ x ∈ p0, x.block < W.heap.size := by obtain ⟨m, hm⟩ := k0; exact DataW.trod_lt m _ _ _ hm
  have k1 := h1
  have lt1 : ∀ x ∈ p1, x.block < W.heap.size := by obtain ⟨m, hm⟩ := k1; exact DataW.trod_lt m _ _ _ hm
  have k2 := h2
  have lt2 : ∀ x ∈ p2, x.block < W.heap.size := by obtain ⟨m, hm⟩ := k2; exact DataW.trod_lt m _ _ _ hm
  obtain ⟨a0, rfl, rfl, rfl, w0⟩ := open_int Tryd.underlying5 (hval 0 5 v0 rfl rfl) h0
  obtain ⟨a1, rfl, rfl, rfl, w1⟩ := open_int Tryd.underlying3 (hval 1 3 v1 rfl rfl) h1
  obtain ⟨a2, rfl, rfl, rfl, w2⟩ := open_int Tryd.underlying3 (hval 2 3 v2 rfl rfl) h2
  refine (walk W (Dif.tabs_of hL) a0 w0 a1 w1 a2 w2).mono fun e W' ⟨he, bel⟩ => ?_
  subst he
  exact ⟨_, rfl, _, _, _, [], _, [], hW', trodAll_mk1 (shut_bool Tryd.underlying4 _), (trodAll_cons_mk (Below.trod Bas.laidOut (by kernel_rfl) (of_decide_eq_true (by kernel_rfl)) k0 bel lt0) (trodAll_cons_mk (Below.trod Bas.laidOut (by kernel_rfl) (of_decide_eq_true (by kernel_rfl)) k1 bel lt1) (trodAll_cons_mk (Below.trod Bas.laidOut (by kernel_rfl) (of_decide_eq_true (by kernel_rfl)) k2 bel lt2) trodAll_mk0))), rfl, bel.frame _, fun h => by cases h⟩


theorem over : Rows.diffTrailsRow.holds Tryd.pinned (OpenSpec.ofChange Rows.diffTrailsSpec) :=
  OpenClaim.holds_of_cond 5 Tryd.f5 rfl rfl rfl rfl rfl rfl rfl ⟨rfl, rfl, rfl, rfl, rfl⟩ rfl rfl rfl rfl rfl (by kernel_rfl) Tryd.func5 (by kernel_rfl)
    (of_decide_eq_true (by kernel_rfl)) (by unfold Func.isWrapper; first | (rw [if_pos (by decide +kernel)]; kernel_rfl) | (rw [if_neg (by decide +kernel)]; exact ⟨rfl, rfl⟩))
    (fun os started H enc _ Fi => by rw [OpenClaim.pre_eq_preRow]; exact lifted os started H enc Fi)
theorem plain (f : FuncId) (fn : Func) (hf : Tryd.pinned.checked.prog.funcNamed Rows.diffTrailsRow.func = some f) (hfn : Tryd.pinned.checked.prog.funcs[f]? = some fn) :
    false = Tryd.pinned.checked.prog.looks [] ∧ ∀ (j : Nat) t, fn.params[j]? = some t → Tryd.pinned.checked.prog.wantsStandIn t = false := by
  obtain rfl : f = 5 := Option.some.inj ((show Tryd.prog.funcNamed Rows.diffTrailsRow.func = some 5 by kernel_rfl).symm.trans hf) |>.symm
  obtain rfl : fn = Tryd.f5 := (Option.some.inj (Tryd.func5.symm.trans hfn)).symm
  refine ⟨by kernel_rfl, fun j t ht => ?_⟩
  rw [Tryd.params5] at ht
  have hm : t ∈ [5, 3, 3] := by simpa using Array.mem_of_getElem? ht
  have hall : ([5, 3, 3].all fun u => !Tryd.prog.wantsStandIn u) = true := by kernel_rfl
  exact (show Tryd.prog.wantsStandIn t = false by simpa using List.all_eq_true.1 hall t hm)
end Go.Proofs.YtdhhkanmfjejoaaDoor.diffTrails
namespace Go.Proofs.YtdhhkanmfjejoaaDoor
/-- The statement: the tied card. -/
theorem diffTrails_proved : Rows.DiffTrailsCardSaid :=
  Claim7.holds_tied_plain_at .later [] _ _ _ _ diffTrails.over (fun _ h => by cases h) (by kernel_rfl) (fun _ h => by cases h) diffTrails_row_tie rfl ⟨rfl, rfl⟩ (by kernel_rfl) rfl diffTrails.plain (by kernel_rfl)
end Go.Proofs.YtdhhkanmfjejoaaDoor
