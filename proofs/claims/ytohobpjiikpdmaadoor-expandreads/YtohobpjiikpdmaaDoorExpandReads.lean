/-
  Proved: any bytes, in whatever parts they come, with whatever room, are told by the decoder of layer 14 as the document says, up to the first byte that is wrong, or to their end; and what is wrong is told, with its place. No condition.
-/
import Derived.Test.YtohobpjiikpdmaaDoorEXRRd
import Derived.Test.YtohobpjiikpdmaaDoorEXAwk
import Derived.Test.YtohobpjiikpdmaaDoorEXGrt
import Derived.Test.YtohobpjiikpdmaaDoorEXTab
import Derived.Test.YtohobpjiikpdmaaDoorPair
namespace Go.Proofs.YtohobpjiikpdmaaDoor
open Go.ChangeShapes Go.WideShapes Go.ChangeAt Go.RowKit
open Go.ChangeMaps (open_string shut_string)
namespace expandReads
open Bas Sca Stp Scn Cod EX
set_option linter.unusedVariables false

set_option maxHeartbeats 8000000 in
set_option maxRecDepth 100000 in
theorem walk (w : World) (hT : EX.Tabs w) (s : ByteArray) (hwf : s.size ≤ maxLen) (a1 : Option Addr) (n1 c1 : Nat) (l1 : List Int) (I1 : Ints .i64 w a1 n1 c1 l1) (a2 : Option Addr) (n2 c2 : Nat) (l2 : List Int) (I2 : Ints .i64 w a2 n2 c2 l2) :
    Calls Tryd.prog 3 #[.string s, .slice a1 n1 c1, .slice a2 n2 c2] w fun e w' => e = .returned (.bool true) ∧ Below w.heap.size w w' := by
  have HT : Hid (EX.Tabs w) := hT
  obtain ⟨π, -⟩ : ∃ π : Par, π = π := ⟨(), rfl⟩
  have HI : Hid (Ints .i64 w a1 n1 c1 l1 ∧ Ints .i64 w a2 n2 c2 l2) := ⟨I1, I2⟩
  clear I1 I2 hwf hT
  have HB0 : Hid (Below w.heap.size w w) := Below.refl _ _
  go_enter Tryd.func3, Tryd.ntmps3
  go_wp2_with fail
  refine (awake_any _ (HT.out.below HB0.out)).mono ?_
  rintro e w1 ⟨rfl, b1⟩
  have HB1 : Hid (Below w.heap.size w w1) := below_two HB0.out b1
  clear b1 HB0
  go_wp2_with fail
  refine (great_any _ a1 a2 n1 c1 n2 c2 w1).mono ?_
  rintro e w1' ⟨rfl, rfl⟩
  obtain ⟨g, hg⟩ : ∃ g, (decide ((s.size : Int) > 400) || (decide (n1 > 200) || decide (n2 > 200))) = g := ⟨_, rfl⟩
  rw [hg]
  cases g with
  | true =>
    clear hg
    go_wp2_with fail
    refine (awake_any _ (HT.out.below HB1.out)).mono ?_
    rintro e w2 ⟨rfl, b2⟩
    go_wp2
    go_ret
    exact ⟨rfl, below_two HB1.out b2⟩
  | false =>
    obtain ⟨h400, h1, h2⟩ := great_no hg
    clear hg
    obtain ⟨X, hX⟩ : ∃ X, X = scan (stepU π) (st0 π) (bytesL s) := ⟨_, rfl⟩
    have hXt : X.told.length ≤ 400 := by
      rw [hX]; have := scan_short (stepU π) (step_one π) (bytesL s) (st0 π); rw [bytesL_length] at this; omega
    have HX : Hid (X = scan (stepU π) (st0 π) (bytesL s)) := hX
    clear hX
    go_wp2_with fail
    refine (newD_any π _ rfl (HT.out.below HB1.out)).mono ?_
    rintro e w2 ⟨rfl, D2, z2, B2⟩
    have i1 := (HI.out.1.mono HB1.out).mono B2
    have i2 := (HI.out.2.mono HB1.out).mono B2
    obtain ⟨N, hN⟩ : ∃ N, N = w1'.heap.size := ⟨_, rfl⟩
    have HN : Hid (N = w1'.heap.size ∧ w.heap.size ≤ N) := ⟨hN, by rw [hN]; exact HB1.out.size⟩
    rw [← hN] at D2 z2 B2 ⊢
    have HB2 : Hid (Below w.heap.size w w2) := HB1.out.trans (B2.mono HN.out.2)
    clear hN
    go_wp2_with fail
    refine (read_any N _ _ s a1 a2 n1 c1 n2 c2 l1 l2 X w2 D2 HX.out i1 i2 (fun b' o' h0 e h => by have := row_lt (HI.out.1.row) (by rw [HI.out.1.len]; exact h0) e; have := footD_nil h; have := HN.out.2; omega) (fun b' o' h0 e h => by have := row_lt (HI.out.2.row) (by rw [HI.out.2.len]; exact h0) e; have := footD_nil h; have := HN.out.2; omega) (by omega) (by omega) (by omega)).mono ?_
    rintro e w3 ⟨vo, rfl, v3, u3, s3, f3, D3, C3⟩
    have HB3 : Hid (Below w.heap.size w w3) := HB2.out.trans (C3.below HB2.out.size (fun k j hk h => by have := footD_nil h; have := HN.out.2; omega))
    obtain ⟨ao, co, hvo, -⟩ := s3.form
    obtain ⟨tl, htl⟩ : ∃ tl, X.told.length = tl := ⟨_, rfl⟩
    rw [htl] at hvo hXt
    subst hvo
    have HD3 : Hid (DecV π w3 N X.eaten (endQ X) (endE X) X.st [] v3 u3 ∧ Seg .u32 w3 (.slice ao tl co) X.told) := ⟨D3, s3⟩
    clear D2 z2 B2 i1 i2 s3 f3 D3 C3 HB2
    go_wp2_with fail
    refine (rRead_any s X w3 HX.out (by omega)).mono ?_
    rintro e w4 ⟨vr, rfl, s4, f4, b4⟩
    obtain ⟨ar, cr, hvr, -⟩ := s4.form
    rw [htl] at hvr
    subst hvr
    have hc4 := chg_of_below b4 (Nat.le_refl _) (fun _ _ => False)
    have HD4 : Hid (OBase w4 N 0 X.eaten (endQ X) (endE X) ∧ Seg .u32 w4 (.slice ao tl co) X.told ∧ Seg .u32 w4 (.slice ar tl cr) X.told ∧ Below w.heap.size w w4) := ⟨HD3.out.1.obase.below b4, HD3.out.2.chg hc4 (fun _ _ _ h => h), s4, below_two HB3.out b4⟩
    clear s4 f4 b4 hc4 HD3 HB3
    go_wp2_with fail
    refine (rSame_any ao ar tl tl co cr X.told X.told w4 (seg_row HD4.out.2.1).1 (seg_row HD4.out.2.2.1).1 htl htl (by unfold maxLen; omega) (by unfold maxLen; omega)).mono ?_
    rintro e w5 ⟨rfl, nd, rfl⟩
    rw [cmpL_self, show ((0 : Int) == 0) = true from rfl]
    have HD5 : Hid (OBase (w4.drewN nd) N 0 X.eaten (endQ X) (endE X) ∧ Below w.heap.size w (w4.drewN nd)) := ⟨HD4.out.1.below (below_dn _ _), below_two HD4.out.2.2.2 (below_dn _ _)⟩
    generalize w4.drewN nd = w5 at *
    clear HD4 htl
    obtain ⟨q, hq⟩ : ∃ q, endQ X = q := ⟨_, rfl⟩
    obtain ⟨en, hen⟩ : ∃ en, endE X = en := ⟨_, rfl⟩
    rw [hq, hen] at HD5
    rw [hq]
    clear hq hen
    go_wp2_with fail
    refine (fail_any (N + 1) 0 _ q en w5 HD5.out.1.base).mono ?_
    rintro e w6 ⟨rfl, b6⟩
    have HD6 : Hid (OBase w6 N 0 X.eaten q en ∧ Below w.heap.size w w6) := ⟨HD5.out.1.below b6, below_two HD5.out.2 b6⟩
    clear b6 HD5
    go_wp2_with fail
    refine (failed_any q X.eaten w6).mono ?_
    rintro e w7 ⟨rfl, b7⟩
    rw [show failAt (X.eaten : Int) q = if q = 0 then 0 else (X.eaten : Int) from rfl]
    obtain ⟨fa, hfa⟩ : ∃ fa : Int, (if q = 0 then 0 else (X.eaten : Int)) = fa := ⟨_, rfl⟩
    rw [hfa]
    clear hfa
    have HD7 : Hid (OBase w7 N 0 X.eaten q en ∧ Below w.heap.size w w7) := ⟨HD6.out.1.below b7, below_two HD6.out.2 b7⟩
    clear b7 HD6
    go_wp2_with fail
    refine (at_any (N + 1) 0 _ q en w7 HD7.out.1.base).mono ?_
    rintro e w8 ⟨rfl, rfl⟩
    go_wp2
    go_ret
    exact ⟨rfl, HD7.out.2⟩
theorem reads (os : Os) {H : Type} (enc : TypeId × Value → H) : ∃ places, DataW.whole enc Tryd.prog ((({ World.holding Tryd.prog os ⟨#[], #[], []⟩ with heap := ((((World.holding Tryd.prog os ⟨#[], #[], []⟩).heap.modify 1 EX.layN).modify 2 EX.layS).modify 0 EX.layZ) } : World)).forCall (fun _ _ => 0) ⟨#[], #[.string ByteArray.empty, .slice none 0 0, .slice none 0 0], []⟩).memory Tryd.f3.params.toList Rows.expandReadsSpec.vars false #[.string ByteArray.empty, .slice none 0 0, .slice none 0 0].toList 8 = some ([.lit (.string []), .nil, .nil], [], places) :=
  ⟨[], by kernel_rfl⟩
set_option maxRecDepth 100000 in
theorem lifted (os : Os) (started : os.Started) (H : Type) (enc : TypeId × Value → H) (Fi : Stop.Interp) :
    ReturnsInHanded {} Tryd.checked os 3 .any ((OpenSpec.ofChange Rows.expandReadsSpec).preRow enc Tryd.prog Tryd.f3 Rows.expandReadsRow.domain false Rows.expandReadsRow.laid) (((OpenSpec.ofChange Rows.expandReadsSpec).at Fi).post enc Tryd.prog Tryd.f3 false true false false) := by
  obtain ⟨places, hx⟩ := reads os enc
  refine returnsInHanded_of_row (C := Tryd.checked) (s := OpenSpec.ofChange Rows.expandReadsSpec) Bas.own started (by kernel_rfl) Tryd.func3
    (witness_row_at (enc := enc) (C := Tryd.checked) false (({ World.holding Tryd.prog os ⟨#[], #[], []⟩ with heap := ((((World.holding Tryd.prog os ⟨#[], #[], []⟩).heap.modify 1 EX.layN).modify 2 EX.layS).modify 0 EX.layZ) } : World)) #[.string ByteArray.empty, .slice none 0 0, .slice none 0 0] rfl (by kernel_rfl) (by kernel_rfl) (by kernel_rfl)
      (OpenSpec.preRow_of_cond 8 hx (by kernel_rfl) (fun k hk => by cases hk) (by kernel_rfl) (EX.laid_met os _))) ?_
  intro W base args ds gs before hval0 hW _ _ _ hL _ _
  have hval : ∀ (j : Nat) t v, Tryd.f3.params[j]? = some t → args[j]? = some v → Value.okWide Tryd.prog W .any base t v := hval0
  have hW' := hW
  obtain ⟨p, q, hA0, hV, rfl, hfz, hnd⟩ := hW
  have hA : DataW.TrodAll enc Tryd.prog W 0 (fun _ => true) true Tryd.f3.params.toList args.toList ds p := hA0
  rw [Tryd.params3] at hA hval
  obtain ⟨v0, vs0, d0, ds0, p0, q0, hargs, rfl, rfl, h0, r0⟩ := trodAll_cons hA
  obtain ⟨v1, vs1, d1, ds1, p1, q1, rfl, rfl, rfl, h1, r1⟩ := trodAll_cons r0
  obtain ⟨v2, vs2, d2, ds2, p2, q2, rfl, rfl, rfl, h2, r2⟩ := trodAll_cons r1
  obtain ⟨rfl, rfl, rfl⟩ := trodAll_nil r2
  obtain rfl : args = #[v0, v1, v2] := by cases args; simp_all
  obtain ⟨rfl, rfl⟩ := trodVars_none hV
  have k0 := h0
  have lt0 : ∀ x ∈ p0, x.block < W.heap.size := by obtain ⟨m, hm⟩ := k0; exact DataW.trod_lt m _ _ _ hm
  have k1 := h1
  have lt1 : ∀ x ∈ p1, x.block < W.heap.size := by obtain ⟨m, hm⟩ := k1; exact DataW.trod_lt m _ _ _ hm
  have k2 := h2
  have lt2 : ∀ x ∈ p2, x.block < W.heap.size := by obtain ⟨m, hm⟩ := k2; exact DataW.trod_lt m _ _ _ hm
  obtain ⟨a0, rfl, rfl, rfl, w0⟩ := open_string Tryd.underlying9 (hval 0 9 v0 rfl rfl) h0
  obtain ⟨a1, n1, c1, rfl⟩ := okWide_slice Tryd.underlying22 (hval 1 22 v1 rfl rfl)
  obtain ⟨l1, I1⟩ : ∃ l : List Int, Bas.Ints .i64 W a1 n1 c1 l := by
    obtain ⟨fuel, hf⟩ := h1
    rcases open_ints Tryd.underlying22 Tryd.underlying3 (by kernel_rfl) hf with ⟨hcs, _⟩ | ⟨x, l, c, zs, hcs, _, hl, hm, hz, _, hcell, hwz⟩
    · simp [Value.cells] at hcs
      obtain ⟨rfl, rfl, rfl⟩ := hcs
      exact ⟨[], Bas.row_nil _ _ _, rfl, by unfold maxLen; omega, by simp, fun _ => rfl⟩
    · simp [Value.cells] at hcs
      obtain ⟨rfl, rfl, rfl⟩ := hcs
      have hz' : zs.length = c1 := by simpa using hz
      exact ⟨zs.take n1, Bas.row_of _ _ _ _ _ (by omega) hcell, by simp; omega, by omega, fun n hn => hwz n (List.mem_of_mem_take hn), fun h => by cases h⟩
  obtain ⟨a2, n2, c2, rfl⟩ := okWide_slice Tryd.underlying22 (hval 2 22 v2 rfl rfl)
  obtain ⟨l2, I2⟩ : ∃ l : List Int, Bas.Ints .i64 W a2 n2 c2 l := by
    obtain ⟨fuel, hf⟩ := h2
    rcases open_ints Tryd.underlying22 Tryd.underlying3 (by kernel_rfl) hf with ⟨hcs, _⟩ | ⟨x, l, c, zs, hcs, _, hl, hm, hz, _, hcell, hwz⟩
    · simp [Value.cells] at hcs
      obtain ⟨rfl, rfl, rfl⟩ := hcs
      exact ⟨[], Bas.row_nil _ _ _, rfl, by unfold maxLen; omega, by simp, fun _ => rfl⟩
    · simp [Value.cells] at hcs
      obtain ⟨rfl, rfl, rfl⟩ := hcs
      have hz' : zs.length = c2 := by simpa using hz
      exact ⟨zs.take n2, Bas.row_of _ _ _ _ _ (by omega) hcell, by simp; omega, by omega, fun n hn => hwz n (List.mem_of_mem_take hn), fun h => by cases h⟩
  refine (walk W (EX.tabs_of hL) a0 w0 a1 n1 c1 l1 I1 a2 n2 c2 l2 I2).mono fun e W' ⟨he, bel⟩ => ?_
  subst he
  exact ⟨_, rfl, _, _, _, [], _, [], hW', trodAll_mk1 (shut_bool Tryd.underlying4 _), (trodAll_cons_mk (Below.trod Bas.laidOut (by kernel_rfl) (of_decide_eq_true (by kernel_rfl)) k0 bel lt0) (trodAll_cons_mk (Below.trod Bas.laidOut (by kernel_rfl) (of_decide_eq_true (by kernel_rfl)) k1 bel lt1) (trodAll_cons_mk (Below.trod Bas.laidOut (by kernel_rfl) (of_decide_eq_true (by kernel_rfl)) k2 bel lt2) trodAll_mk0))), rfl, bel.frame _, fun h => by cases h⟩


theorem over : Rows.expandReadsRow.holds Tryd.pinned (OpenSpec.ofChange Rows.expandReadsSpec) :=
  OpenClaim.holds_of_cond 3 Tryd.f3 rfl rfl rfl rfl rfl rfl rfl ⟨rfl, rfl, rfl, rfl, rfl⟩ rfl rfl rfl rfl rfl (by kernel_rfl) Tryd.func3 (by kernel_rfl)
    (of_decide_eq_true (by kernel_rfl)) (by unfold Func.isWrapper; first | (rw [if_pos (by decide +kernel)]; kernel_rfl) | (rw [if_neg (by decide +kernel)]; exact ⟨rfl, rfl⟩))
    (fun os started H enc _ Fi => by rw [OpenClaim.pre_eq_preRow]; exact lifted os started H enc Fi)
theorem plain (f : FuncId) (fn : Func) (hf : Tryd.pinned.checked.prog.funcNamed Rows.expandReadsRow.func = some f) (hfn : Tryd.pinned.checked.prog.funcs[f]? = some fn) :
    false = Tryd.pinned.checked.prog.looks [] ∧ ∀ (j : Nat) t, fn.params[j]? = some t → Tryd.pinned.checked.prog.wantsStandIn t = false := by
  obtain rfl : f = 3 := Option.some.inj ((show Tryd.prog.funcNamed Rows.expandReadsRow.func = some 3 by kernel_rfl).symm.trans hf) |>.symm
  obtain rfl : fn = Tryd.f3 := (Option.some.inj (Tryd.func3.symm.trans hfn)).symm
  refine ⟨by kernel_rfl, fun j t ht => ?_⟩
  rw [Tryd.params3] at ht
  have hm : t ∈ [9, 22, 22] := by simpa using Array.mem_of_getElem? ht
  have hall : ([9, 22, 22].all fun u => !Tryd.prog.wantsStandIn u) = true := by kernel_rfl
  exact (show Tryd.prog.wantsStandIn t = false by simpa using List.all_eq_true.1 hall t hm)
end Go.Proofs.YtohobpjiikpdmaaDoor.expandReads
namespace Go.Proofs.YtohobpjiikpdmaaDoor
/-- The statement: the tied card. -/
theorem expandReads_proved : Rows.ExpandReadsCardSaid :=
  Claim7.holds_tied_plain_at .later [] _ _ _ _ expandReads.over (fun _ h => by cases h) (by kernel_rfl) (fun _ h => by cases h) expandReads_row_tie rfl ⟨rfl, rfl⟩ (by kernel_rfl) rfl expandReads.plain (by kernel_rfl)
end Go.Proofs.YtohobpjiikpdmaaDoor
