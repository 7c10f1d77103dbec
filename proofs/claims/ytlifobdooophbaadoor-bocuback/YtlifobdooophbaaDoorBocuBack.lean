/-
  Proved: scalars that are written are read as they were, whatever parts and rooms there are on both sides. No condition.
-/
import Derived.Test.YtlifobdooophbaaDoorBOLaw2
import Derived.Test.YtlifobdooophbaaDoorDifTab
namespace Go.Proofs.YtlifobdooophbaaDoor
open Go.ChangeShapes Go.WideShapes Go.ChangeAt Go.RowKit
open Go.ChangeMaps (open_string shut_string)
namespace bocuBack
open Bas Sca Stp Scn Cod BO
set_option linter.unusedVariables false

set_option maxHeartbeats 8000000 in
set_option maxRecDepth 100000 in
theorem walk (w : World) (hT : Dif.Tabs w) (a0 : Option Addr) (n0 c0 : Nat) (l0 : List Int) (I0 : Ints .u32 w a0 n0 c0 l0) (J0 : Cap a0 n0 c0) (a1 : Option Addr) (n1 c1 : Nat) (l1 : List Int) (I1 : Ints .i64 w a1 n1 c1 l1) (a2 : Option Addr) (n2 c2 : Nat) (l2 : List Int) (I2 : Ints .i64 w a2 n2 c2 l2) :
    Calls Tryd.prog 5 #[.slice a0 n0 c0, .slice a1 n1 c1, .slice a2 n2 c2] w fun e w' => e = .returned (.bool true) ∧ Below w.heap.size w w' := by
  have HT : Hid (Dif.Tabs w) := hT
  obtain ⟨π, -⟩ : ∃ π : Par, π = π := ⟨(), rfl⟩
  have HI : Hid (Ints .u32 w a0 n0 c0 l0 ∧ Cap a0 n0 c0 ∧ Ints .i64 w a1 n1 c1 l1 ∧ Ints .i64 w a2 n2 c2 l2) := ⟨I0, J0, I1, I2⟩
  have hn0 := I0.max
  have hcap := J0.le
  clear I0 J0 I1 I2 hT
  have HB0 : Hid (Below w.heap.size w w) := Below.refl _ _
  go_enter Tryd.func5, Tryd.ntmps5
  go_wp2_with fail
  refine (awake_any _ (HT.out.below HB0.out)).mono ?_
  rintro e w1 ⟨rfl, b1⟩
  have HB1 : Hid (Below w.heap.size w w1) := below_two HB0.out b1
  clear b1 HB0
  go_wp2_with fail
  refine (great_any _ a1 a2 n1 c1 n2 c2 w1).mono ?_
  rintro e w1' ⟨rfl, rfl⟩
  obtain ⟨g, hg⟩ : ∃ g, (decide ((n0 : Int) > 400) || (decide (n1 > 200) || decide (n2 > 200))) = g := ⟨_, rfl⟩
  rw [hg]
  cases g with
  | true =>
    clear hg
    go_wp2_with fail
    refine (awake_any _ (HT.out.below HB1.out)).mono ?_
    rintro e w2 ⟨rfl, b2⟩
    go_wp2
    go_ret
    exact ⟨rfl, below_two HB1.out b2⟩
  | false =>
    obtain ⟨h400, h1, h2⟩ := great_no hg
    clear hg
    go_wp2_with fail
    refine (rFirst_any a0 n0 c0 l0 w1' (HI.out.1.row.mono HB1.out) HI.out.1.len HI.out.1.max).mono ?_
    rintro e w1 ⟨rfl, rfl⟩
    by_cases hok : okLen l0 < l0.length
    · rw [firstL_ok, if_pos hok]
      have hge : (okLen l0 : Int) ≥ 0 := by omega
      clear hok
      go_wp2_with fail
      refine (awake_any _ (HT.out.below HB1.out)).mono ?_
      rintro e w2 ⟨rfl, b2⟩
      go_wp2
      go_ret
      exact ⟨rfl, below_two HB1.out b2⟩
    · rw [firstL_ok, if_neg hok]
      have hle := okLen_le l0
      have hall := okLen_all l0 (by omega)
      have hsc : ∀ c ∈ l0, isB c = true ∧ 0 ≤ c := fun c hc => by
        obtain ⟨i, hi, rfl⟩ := List.mem_iff_getElem.1 hc
        have h1 := hall i hi
        have h2 := HI.out.1.fits _ hc
        have e : nth l0 i = l0[i] := by simp [nth, hi]
        rw [e] at h1
        exact ⟨h1, fits_u32 h2⟩
      have HSC : Hid ((∀ c ∈ l0, isB c = true ∧ 0 ≤ c) ∧ okLen l0 = l0.length) := ⟨hsc, by omega⟩
      clear hok hle hall hsc
      go_wp2_with fail
      refine (newEn_any π _ rfl (HT.out.below HB1.out)).mono ?_
      rintro e w2 ⟨rfl, E2, z2, B2⟩
      obtain ⟨N, hN⟩ : ∃ N, N = w1.heap.size := ⟨_, rfl⟩
      have HN : Hid (w.heap.size ≤ N) := by show w.heap.size ≤ N; rw [hN]; exact HB1.out.size
      rw [← hN] at E2 z2 B2 ⊢
      have HB2 : Hid (Below w.heap.size w w2) := HB1.out.trans (B2.mono HN.out)
      clear hN
      go_wp2_with fail
      refine (write_any N _ a0 n0 c0 l0 a1 a2 n1 c1 n2 c2 l1 l2 w2 E2 (came_of HI.out.2.1 HI.out.1.row HI.out.1.len HB2.out (fun k hk hf => by have := footE_nil hf; have := HN.out; omega)) (fun c hc => fits_u32' (HI.out.1.fits c hc)) (HI.out.2.2.1.mono HB2.out) (HI.out.2.2.2.mono HB2.out) (fun b' o' h0 e h => by have := row_lt (HI.out.2.2.1.row) (by rw [HI.out.2.2.1.len]; exact h0) e; have := footE_nil h; have := HN.out; omega) (fun b' o' h0 e h => by have := row_lt (HI.out.2.2.2.row) (by rw [HI.out.2.2.2.len]; exact h0) e; have := footE_nil h; have := HN.out; omega) (by omega) (by omega) (by have := HI.out.1.len; omega)).mono ?_
      rintro e w3 ⟨rfl, sg3, v3, E3, C3⟩
      have HB3 : Hid (Below w.heap.size w w3) := HB2.out.trans (C3.below HB2.out.size (fun k j hk h => by have := footE_nil h; have := HN.out; omega))
      obtain ⟨s, hs⟩ : ∃ s, Stp.strOf (txtS π l0) = s := ⟨_, rfl⟩
      rw [hs]
      have hbs : bytesL s = txtS π l0 := by rw [← hs]; exact bytesL_strOf _ (txt_byte π l0 HSC.out.1)
      have hss : s.size ≤ 4 * 400 := by rw [← bytesL_length, hbs]; have := txt_le π l0; have := HI.out.1.len; omega
      have HX : Hid ((⟨l0, s.size, stB l0, false⟩ : Res St) = scan (stepU π) (st0 π) (bytesL s)) := by
        show _ = _
        rw [← bytesL_length, hbs]; exact (scan_txt π l0 HSC.out.1).symm
      clear hs hbs E2 z2 B2 E3 C3 HB2
      go_wp2_with fail
      refine (newD_any π _ rfl (HT.out.below HB3.out)).mono ?_
      rintro e w4 ⟨rfl, D4, z4, B4⟩
      obtain ⟨M, hM⟩ : ∃ M, M = w3.heap.size := ⟨_, rfl⟩
      have HM : Hid (w.heap.size ≤ M) := by show w.heap.size ≤ M; rw [hM]; exact HB3.out.size
      rw [← hM] at D4 z4 B4 ⊢
      have HB4 : Hid (Below w.heap.size w w4) := HB3.out.trans (B4.mono HM.out)
      clear hM
      go_wp2_with fail
      refine (read_any M _ _ s a2 a1 n2 c2 n1 c1 l2 l1 ⟨l0, s.size, stB l0, false⟩ w4 D4 HX.out (HI.out.2.2.2.mono HB4.out) (HI.out.2.2.1.mono HB4.out) (fun b' o' h0 e h => by have := row_lt (HI.out.2.2.2.row) (by rw [HI.out.2.2.2.len]; exact h0) e; have := footD_nil h; have := HM.out; omega) (fun b' o' h0 e h => by have := row_lt (HI.out.2.2.1.row) (by rw [HI.out.2.2.1.len]; exact h0) e; have := footD_nil h; have := HM.out; omega) (by omega) (by omega) (by omega)).mono ?_
      rintro e w5 ⟨vo, rfl, v5, u5, s5, f5, D5, C5⟩
      have HB5 : Hid (Below w.heap.size w w5) := HB4.out.trans (C5.below HB4.out.size (fun k j hk h => by have := footD_nil h; have := HM.out; omega))
      obtain ⟨ao, co, hvo, -⟩ := s5.form
      have hl0 := HI.out.1.len
      change vo = .slice ao l0.length co at hvo
      rw [hl0] at hvo
      subst hvo
      have HD5 : Hid (BaseAt w5 M 0 s.size 0 true ∧ Seg .u32 w5 (.slice ao n0 co) l0) := ⟨D5.base, s5⟩
      clear D4 z4 B4 s5 f5 D5 C5 HB4 hl0
      go_wp2_with fail
      refine (rSame_any ao a0 n0 n0 co c0 l0 l0 w5 (seg_row HD5.out.2).1 (HI.out.1.row.mono HB5.out) HI.out.1.len HI.out.1.len (by unfold maxLen; omega) (by unfold maxLen; omega)).mono ?_
      rintro e w6 ⟨rfl, nd, rfl⟩
      rw [cmpL_self, show ((0 : Int) == 0) = true from rfl]
      have HD6 : Hid (BaseAt (w5.drewN nd) M 0 s.size 0 true ∧ Below w.heap.size w (w5.drewN nd)) := ⟨HD5.out.1.below (below_dn _ _), below_two HB5.out (below_dn _ _)⟩
      generalize w5.drewN nd = w6 at *
      clear HD5 HB5
      go_wp2_with fail
      refine (fail_any M 0 _ 0 true w6 HD6.out.1).mono ?_
      rintro e w7 ⟨rfl, b7⟩
      rw [show failAt (s.size : Int) 0 = 0 from rfl]
      have HD7 : Hid (BaseAt w7 M 0 s.size 0 true ∧ Below w.heap.size w w7) := ⟨HD6.out.1.below b7, below_two HD6.out.2 b7⟩
      clear b7 HD6
      go_wp2_with fail
      refine (at_any M 0 _ 0 true w7 HD7.out.1).mono ?_
      rintro e w8 ⟨rfl, rfl⟩
      go_wp2
      go_ret
      exact ⟨rfl, HD7.out.2⟩
theorem reads (os : Os) {H : Type} (enc : TypeId × Value → H) : ∃ places, DataW.whole enc Tryd.prog ((({ World.holding Tryd.prog os ⟨#[], #[], []⟩ with heap := (((World.holding Tryd.prog os ⟨#[], #[], []⟩).heap.modify 0 Dif.lay0).modify 1 Dif.lay1) } : World)).forCall (fun _ _ => 0) ⟨#[], #[.slice none 0 0, .slice none 0 0, .slice none 0 0], []⟩).memory Tryd.f5.params.toList Rows.bocuBackSpec.vars false #[.slice none 0 0, .slice none 0 0, .slice none 0 0].toList 8 = some ([.nil, .nil, .nil], [], places) :=
  ⟨[], by kernel_rfl⟩
set_option maxRecDepth 100000 in
theorem lifted (os : Os) (started : os.Started) (H : Type) (enc : TypeId × Value → H) (Fi : Stop.Interp) :
    ReturnsInHanded {} Tryd.checked os 5 .any ((OpenSpec.ofChange Rows.bocuBackSpec).preRow enc Tryd.prog Tryd.f5 Rows.bocuBackRow.domain false Rows.bocuBackRow.laid) (((OpenSpec.ofChange Rows.bocuBackSpec).at Fi).post enc Tryd.prog Tryd.f5 false true false false) := by
  obtain ⟨places, hx⟩ := reads os enc
  refine returnsInHanded_of_row (C := Tryd.checked) (s := OpenSpec.ofChange Rows.bocuBackSpec) Bas.own started (by kernel_rfl) Tryd.func5
    (witness_row_at (enc := enc) (C := Tryd.checked) false (({ World.holding Tryd.prog os ⟨#[], #[], []⟩ with heap := (((World.holding Tryd.prog os ⟨#[], #[], []⟩).heap.modify 0 Dif.lay0).modify 1 Dif.lay1) } : World)) #[.slice none 0 0, .slice none 0 0, .slice none 0 0] rfl (by kernel_rfl) (by kernel_rfl) (by kernel_rfl)
      (OpenSpec.preRow_of_cond 8 hx (by kernel_rfl) (fun k hk => by cases hk) (by kernel_rfl) (Dif.laid_met os _))) ?_
  intro W base args ds gs before hval0 hW _ _ _ hL _ _
  have hval : ∀ (j : Nat) t v, Tryd.f5.params[j]? = some t → args[j]? = some v → Value.okWide Tryd.prog W .any base t v := hval0
  have hW' := hW
  obtain ⟨p, q, hA0, hV, rfl, hfz, hnd⟩ := hW
  have hA : DataW.TrodAll enc Tryd.prog W 0 (fun _ => true) true Tryd.f5.params.toList args.toList ds p := hA0
  rw [Tryd.params5] at hA hval
  obtain ⟨v0, vs0, d0, ds0, p0, q0, hargs, rfl, rfl, h0, r0⟩ := trodAll_cons hA
  obtain ⟨v1, vs1, d1, ds1, p1, q1, rfl, rfl, rfl, h1, r1⟩ := trodAll_cons r0
  obtain ⟨v2, vs2, d2, ds2, p2, q2, rfl, rfl, rfl, h2, r2⟩ := trodAll_cons r1
  obtain ⟨rfl, rfl, rfl⟩ := trodAll_nil r2
  obtain rfl : args = #[v0, v1, v2] := by cases args; simp_all
  obtain ⟨rfl, rfl⟩ := trodVars_none hV
  have k0 := h0
  have lt0 : ∀ x ∈ p0, x.block < W.heap.size := by obtain ⟨m, hm⟩ := k0; exact DataW.trod_lt m _ _ _ hm
  have k1 := h1
  have lt1 : ∀ x ∈ p1, x.block < W.heap.size := by obtain ⟨m, hm⟩ := k1; exact DataW.trod_lt m _ _ _ hm
  have k2 := h2
  have lt2 : ∀ x ∈ p2, x.block < W.heap.size := by obtain ⟨m, hm⟩ := k2; exact DataW.trod_lt m _ _ _ hm
  obtain ⟨a0, n0, c0, rfl⟩ := okWide_slice Tryd.underlying27 (hval 0 27 v0 rfl rfl)
  obtain ⟨l0, I0, J0⟩ : ∃ l : List Int, Bas.Ints .u32 W a0 n0 c0 l ∧ Cod.Cap a0 n0 c0 := by
    obtain ⟨fuel, hf⟩ := h0
    rcases open_ints Tryd.underlying27 Tryd.underlying43 (by kernel_rfl) hf with ⟨hcs, _⟩ | ⟨x, l, c, zs, hcs, _, hl, hm, hz, _, hcell, hwz⟩
    · simp [Value.cells] at hcs
      obtain ⟨rfl, rfl, rfl⟩ := hcs
      exact ⟨[], ⟨Bas.row_nil _ _ _, rfl, by unfold maxLen; omega, by simp, fun _ => rfl⟩, .inl ⟨rfl, rfl⟩⟩
    · simp [Value.cells] at hcs
      obtain ⟨rfl, rfl, rfl⟩ := hcs
      have hz' : zs.length = c0 := by simpa using hz
      exact ⟨zs.take n0, ⟨Bas.row_of _ _ _ _ _ (by omega) hcell, by simp; omega, by omega, fun n hn => hwz n (List.mem_of_mem_take hn), fun h => by cases h⟩, Cod.cap_of (by omega) (by omega) hz' hcell⟩
  obtain ⟨a1, n1, c1, rfl⟩ := okWide_slice Tryd.underlying22 (hval 1 22 v1 rfl rfl)
  obtain ⟨l1, I1⟩ : ∃ l : List Int, Bas.Ints .i64 W a1 n1 c1 l := by
    obtain ⟨fuel, hf⟩ := h1
    rcases open_ints Tryd.underlying22 Tryd.underlying3 (by kernel_rfl) hf with ⟨hcs, _⟩ | ⟨x, l, c, zs, hcs, _, hl, hm, hz, _, hcell, hwz⟩
    · simp [Value.cells] at hcs
      obtain ⟨rfl, rfl, rfl⟩ := hcs
      exact ⟨[], Bas.row_nil _ _ _, rfl, by unfold maxLen; omega, by simp, fun _ => rfl⟩
    · simp [Value.cells] at hcs
      obtain ⟨rfl, rfl, rfl⟩ := hcs
      have hz' : zs.length = c1 := by simpa using hz
      exact ⟨zs.take n1, Bas.row_of _ _ _ _ _ (by omega) hcell, by simp; omega, by omega, fun n hn => hwz n (List.mem_of_mem_take hn), fun h => by cases h⟩
  obtain ⟨a2, n2, c2, rfl⟩ := okWide_slice Tryd.underlying22 (hval 2 22 v2 rfl rfl)
  obtain ⟨l2, I2⟩ : ∃ l : List Int, Bas.Ints .i64 W a2 n2 c2 l := by
    obtain ⟨fuel, hf⟩ := h2
    rcases open_ints Tryd.underlying22 Tryd.underlying3 (by kernel_rfl) hf with ⟨hcs, _⟩ | ⟨x, l, c, zs, hcs, _, hl, hm, hz, _, hcell, hwz⟩
    · simp [Value.cells] at hcs
      obtain ⟨rfl, rfl, rfl⟩ := hcs
      exact ⟨[], Bas.row_nil _ _ _, rfl, by unfold maxLen; omega, by simp, fun _ => rfl⟩
    · simp [Value.cells] at hcs
      obtain ⟨rfl, rfl, rfl⟩ := hcs
      have hz' : zs.length = c2 := by simpa using hz
      exact ⟨zs.take n2, Bas.row_of _ _ _ _ _ (by omega) hcell, by simp; omega, by omega, fun n hn => hwz n (List.mem_of_mem_take hn), fun h => by cases h⟩
  refine (walk W (Dif.tabs_of hL) a0 n0 c0 l0 I0 J0 a1 n1 c1 l1 I1 a2 n2 c2 l2 I2).mono fun e W' ⟨he, bel⟩ => ?_
  subst he
  exact ⟨_, rfl, _, _, _, [], _, [], hW', trodAll_mk1 (shut_bool Tryd.underlying4 _), (trodAll_cons_mk (Below.trod Bas.laidOut (by kernel_rfl) (of_decide_eq_true (by kernel_rfl)) k0 bel lt0) (trodAll_cons_mk (Below.trod Bas.laidOut (by kernel_rfl) (of_decide_eq_true (by kernel_rfl)) k1 bel lt1) (trodAll_cons_mk (Below.trod Bas.laidOut (by kernel_rfl) (of_decide_eq_true (by kernel_rfl)) k2 bel lt2) trodAll_mk0))), rfl, bel.frame _, fun h => by cases h⟩


theorem over : Rows.bocuBackRow.holds Tryd.pinned (OpenSpec.ofChange Rows.bocuBackSpec) :=
  OpenClaim.holds_of_cond 5 Tryd.f5 rfl rfl rfl rfl rfl rfl rfl ⟨rfl, rfl, rfl, rfl, rfl⟩ rfl rfl rfl rfl rfl (by kernel_rfl) Tryd.func5 (by kernel_rfl)
    (of_decide_eq_true (by kernel_rfl)) (by unfold Func.isWrapper; first | (rw [if_pos (by decide +kernel)]; kernel_rfl) | (rw [if_neg (by decide +kernel)]; exact ⟨rfl, rfl⟩))
    (fun os started H enc _ Fi => by rw [OpenClaim.pre_eq_preRow]; exact lifted os started H enc Fi)
theorem plain (f : FuncId) (fn : Func) (hf : Tryd.pinned.checked.prog.funcNamed Rows.bocuBackRow.func = some f) (hfn : Tryd.pinned.checked.prog.funcs[f]? = some fn) :
    false = Tryd.pinned.checked.prog.looks [] ∧ ∀ (j : Nat) t, fn.params[j]? = some t → Tryd.pinned.checked.prog.wantsStandIn t = false := by
  obtain rfl : f = 5 := Option.some.inj ((show Tryd.prog.funcNamed Rows.bocuBackRow.func = some 5 by kernel_rfl).symm.trans hf) |>.symm
  obtain rfl : fn = Tryd.f5 := (Option.some.inj (Tryd.func5.symm.trans hfn)).symm
  refine ⟨by kernel_rfl, fun j t ht => ?_⟩
  rw [Tryd.params5] at ht
  have hm : t ∈ [27, 22, 22] := by simpa using Array.mem_of_getElem? ht
  have hall : ([27, 22, 22].all fun u => !Tryd.prog.wantsStandIn u) = true := by kernel_rfl
  exact (show Tryd.prog.wantsStandIn t = false by simpa using List.all_eq_true.1 hall t hm)
end Go.Proofs.YtlifobdooophbaaDoor.bocuBack
namespace Go.Proofs.YtlifobdooophbaaDoor
/-- The statement: the tied card. -/
theorem bocuBack_proved : Rows.BocuBackCardSaid :=
  Claim7.holds_tied_plain_at .later [] _ _ _ _ bocuBack.over (fun _ h => by cases h) (by kernel_rfl) (fun _ h => by cases h) bocuBack_row_tie rfl ⟨rfl, rfl⟩ (by kernel_rfl) rfl bocuBack.plain (by kernel_rfl)
end Go.Proofs.YtlifobdooophbaaDoor
