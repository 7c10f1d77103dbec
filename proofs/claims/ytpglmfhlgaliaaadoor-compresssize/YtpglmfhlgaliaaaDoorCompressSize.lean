/-
  Proved: a text is at most three bytes for each unit of 16 bits; by the plain profile two, one more for each unit from E000 to F2FF, and two more in all. No condition.
-/
import Derived.Test.YtpglmfhlgaliaaaDoorCPLaw
namespace Go.Proofs.YtpglmfhlgaliaaaDoor
open Go.ChangeShapes Go.WideShapes Go.ChangeAt Go.RowKit
open Go.ChangeMaps (open_string shut_string)
namespace compressSize
open Bas Sca Stp Scn Cod Cmp Cps CP
set_option linter.unusedVariables false

set_option maxHeartbeats 8000000 in
set_option maxRecDepth 100000 in
theorem walk (w : World) (hT : CP.Tabs w) (a0 : Option Addr) (n0 c0 : Nat) (l0 : List Int) (I0 : Ints .u32 w a0 n0 c0 l0) (J0 : Cap a0 n0 c0) :
    Calls Tryd.prog 4 #[.slice a0 n0 c0] w fun e w' => e = .returned (.bool true) ∧ Below w.heap.size w w' := by
  have HT : Hid (CP.Tabs w) := hT
  have HI : Hid (Ints .u32 w a0 n0 c0 l0 ∧ Cap a0 n0 c0) := ⟨I0, J0⟩
  have hn0 := I0.max
  clear I0 J0 hT
  go_enter Tryd.func4, Tryd.ntmps4
  go_wp2_with fail
  refine (awake_any w HT.out).mono ?_
  rintro e w1 ⟨rfl, b1⟩
  have HB1 : Hid (Below w.heap.size w w1) := b1
  clear b1
  go_wp2_with fail
  refine (great_any _ none none 0 0 0 0 w1).mono ?_
  rintro e w1 ⟨rfl, rfl⟩
  obtain ⟨g, hg⟩ : ∃ g, (decide ((n0 : Int) > 400) || (decide (0 > 200) || decide (0 > 200))) = g := ⟨_, rfl⟩
  rw [hg]
  cases g with
  | true =>
    clear hg
    go_wp2_with fail
    refine (awake_any _ (HT.out.below HB1.out)).mono ?_
    rintro e w2 ⟨rfl, b2⟩
    go_wp2
    go_ret
    exact ⟨rfl, below_two HB1.out b2⟩
  | false =>
    obtain ⟨h400, -, -⟩ := great_no hg
    clear hg
    go_wp2_with fail
    refine (rFirst_any a0 n0 c0 l0 w1 (HI.out.1.row.mono HB1.out) HI.out.1.len HI.out.1.max).mono ?_
    rintro e w1 ⟨rfl, rfl⟩
    by_cases hok : okLen l0 < l0.length
    · rw [firstL_ok, if_pos hok]
      have hge : (okLen l0 : Int) ≥ 0 := by omega
      clear hok
      go_wp2_with fail
      refine (awake_any _ (HT.out.below HB1.out)).mono ?_
      rintro e w2 ⟨rfl, b2⟩
      go_wp2
      go_ret
      exact ⟨rfl, below_two HB1.out b2⟩
    · have HSC : Hid (∀ c ∈ l0, isB c = true ∧ 0 ≤ c) := scalars_of hok HI.out.1.fits
      rw [firstL_ok, if_neg hok]
      clear hok
      go_wp2_with fail
      refine (newW_any false _ rfl (HT.out.below HB1.out)).mono ?_
      rintro e w2 ⟨rfl, E2, z2, B2⟩
      obtain ⟨N, hN⟩ : ∃ N, N = w1.heap.size := ⟨_, rfl⟩
      have HN : Hid (w.heap.size ≤ N) := by show w.heap.size ≤ N; rw [hN]; exact HB1.out.size
      rw [← hN] at E2 z2 B2 ⊢
      have HB2 : Hid (Below w.heap.size w w2) := HB1.out.trans (B2.mono HN.out)
      clear hN
      go_wp2_with fail
      refine (write_any N _ a0 n0 c0 l0 w2 E2 (came_of HI.out.2 HI.out.1.row HI.out.1.len HB2.out (fun k hk hf => by have := footE_nil hf; have := HN.out; omega)) (fun c hc => fits_u32' (HI.out.1.fits c hc)) (fun c hc => (HSC.out c hc).1) (by have := HI.out.1.len; omega)).mono ?_
      rintro e w3 ⟨rfl, C3⟩
      have HB3 : Hid (Below w.heap.size w w3) := HB2.out.trans (C3.below HB2.out.size (fun k j hk h => by have := footE_nil h; have := HN.out; omega))
      clear E2 z2 B2 C3 HB2 HN HB1
      go_wp2_with fail
      refine (newW_any true _ rfl (HT.out.below HB3.out)).mono ?_
      rintro e w4 ⟨rfl, E4, z4, B4⟩
      obtain ⟨M, hM⟩ : ∃ M, M = w3.heap.size := ⟨_, rfl⟩
      have HM : Hid (w.heap.size ≤ M) := by show w.heap.size ≤ M; rw [hM]; exact HB3.out.size
      rw [← hM] at E4 z4 B4 ⊢
      have HB4 : Hid (Below w.heap.size w w4) := HB3.out.trans (B4.mono HM.out)
      clear hM
      go_wp2_with fail
      refine (write_any M _ a0 n0 c0 l0 w4 E4 (came_of HI.out.2 HI.out.1.row HI.out.1.len HB4.out (fun k hk hf => by have := footE_nil hf; have := HM.out; omega)) (fun c hc => fits_u32' (HI.out.1.fits c hc)) (fun c hc => (HSC.out c hc).1) (by have := HI.out.1.len; omega)).mono ?_
      rintro e w5 ⟨rfl, C5⟩
      have HB5 : Hid (Below w.heap.size w w5) := HB4.out.trans (C5.below HB4.out.size (fun k j hk h => by have := footE_nil h; have := HM.out; omega))
      clear E4 z4 B4 C5 HB4 HM HB3
      obtain ⟨s, hs⟩ : ∃ s, Stp.strOf (textC false l0) = s := ⟨_, rfl⟩
      obtain ⟨t, ht⟩ : ∃ t, Stp.strOf (textC true l0) = t := ⟨_, rfl⟩
      have h1 : s.size ≤ 3 * unL l0 := by rw [← hs, strOf_size]; exact text_len l0 HSC.out
      have h2 : t.size ≤ 2 * unL l0 + tgL l0 + 2 := by rw [← ht, strOf_size]; exact text_plain l0
      have h3 : unL l0 ≤ 800 := by have := un_le l0; have := HI.out.1.len; omega
      have h4 : tgL l0 ≤ 400 := by have := tg_le l0; have := HI.out.1.len; omega
      rw [hs, ht]
      clear hs ht
      go_wp2_with fail
      refine (tUnits_any a0 n0 c0 l0 w5 (HI.out.1.row.mono HB5.out) HI.out.1.len (by omega) (fun c hc => (HSC.out c hc).1)).mono ?_
      rintro e w6 ⟨rfl, hw⟩
      rw [hw]
      clear hw w6
      have htg := tTagged_any a0 n0 c0 l0 w5 (HI.out.1.row.mono HB5.out) HI.out.1.len (by omega)
      generalize unL l0 = u at *
      generalize tgL l0 = g at *
      have h1' : (s.size : Int) ≤ 3 * (u : Int) := by omega
      have h2' : (t.size : Int) ≤ 2 * (u : Int) + (g : Int) + 2 := by omega
      go_wp2_with fail
      refine htg.mono ?_
      rintro e w6 ⟨rfl, hw⟩
      rw [hw]
      clear hw w6 htg
      go_wp2
      go_ret
      exact ⟨rfl, HB5.out⟩
theorem reads (os : Os) {H : Type} (enc : TypeId × Value → H) : ∃ places, DataW.whole enc Tryd.prog ((({ World.holding Tryd.prog os ⟨#[], #[], []⟩ with heap := (((World.holding Tryd.prog os ⟨#[], #[], []⟩).heap.modify 0 CP.layN).modify 1 CP.layS) } : World)).forCall (fun _ _ => 0) ⟨#[], #[.slice none 0 0], []⟩).memory Tryd.f4.params.toList Rows.compressSizeSpec.vars false #[.slice none 0 0].toList 8 = some ([.nil], [], places) :=
  ⟨[], by kernel_rfl⟩
set_option maxRecDepth 100000 in
theorem lifted (os : Os) (started : os.Started) (H : Type) (enc : TypeId × Value → H) (Fi : Stop.Interp) :
    ReturnsInHanded {} Tryd.checked os 4 .any ((OpenSpec.ofChange Rows.compressSizeSpec).preRow enc Tryd.prog Tryd.f4 Rows.compressSizeRow.domain false Rows.compressSizeRow.laid) (((OpenSpec.ofChange Rows.compressSizeSpec).at Fi).post enc Tryd.prog Tryd.f4 false true false false) := by
  obtain ⟨places, hx⟩ := reads os enc
  refine returnsInHanded_of_row (C := Tryd.checked) (s := OpenSpec.ofChange Rows.compressSizeSpec) Bas.own started (by kernel_rfl) Tryd.func4
    (witness_row_at (enc := enc) (C := Tryd.checked) false (({ World.holding Tryd.prog os ⟨#[], #[], []⟩ with heap := (((World.holding Tryd.prog os ⟨#[], #[], []⟩).heap.modify 0 CP.layN).modify 1 CP.layS) } : World)) #[.slice none 0 0] rfl (by kernel_rfl) (by kernel_rfl) (by kernel_rfl)
      (OpenSpec.preRow_of_cond 8 hx (by kernel_rfl) (fun k hk => by cases hk) (by kernel_rfl) (CP.laid_met os _))) ?_
  intro W base args ds gs before hval0 hW _ _ _ hL _ _
  have hval : ∀ (j : Nat) t v, Tryd.f4.params[j]? = some t → args[j]? = some v → Value.okWide Tryd.prog W .any base t v := hval0
  have hW' := hW
  obtain ⟨p, q, hA0, hV, rfl, hfz, hnd⟩ := hW
  have hA : DataW.TrodAll enc Tryd.prog W 0 (fun _ => true) true Tryd.f4.params.toList args.toList ds p := hA0
  rw [Tryd.params4] at hA hval
  obtain ⟨v0, vs0, d0, ds0, p0, q0, hargs, rfl, rfl, h0, r0⟩ := trodAll_cons hA
  obtain ⟨rfl, rfl, rfl⟩ := trodAll_nil r0
  obtain rfl : args = #[v0] := by cases args; simp_all
  obtain ⟨rfl, rfl⟩ := trodVars_none hV
  have k0 := h0
  have lt0 : ∀ x ∈ p0, x.block < W.heap.size := by obtain ⟨m, hm⟩ := k0; exact DataW.trod_lt m _ _ _ hm
  obtain ⟨a0, n0, c0, rfl⟩ := okWide_slice Tryd.underlying22 (hval 0 22 v0 rfl rfl)
  obtain ⟨l0, I0, J0⟩ : ∃ l : List Int, Bas.Ints .u32 W a0 n0 c0 l ∧ Cod.Cap a0 n0 c0 := by
    obtain ⟨fuel, hf⟩ := h0
    rcases open_ints Tryd.underlying22 Tryd.underlying35 (by kernel_rfl) hf with ⟨hcs, _⟩ | ⟨x, l, c, zs, hcs, _, hl, hm, hz, _, hcell, hwz⟩
    · simp [Value.cells] at hcs
      obtain ⟨rfl, rfl, rfl⟩ := hcs
      exact ⟨[], ⟨Bas.row_nil _ _ _, rfl, by unfold maxLen; omega, by simp, fun _ => rfl⟩, .inl ⟨rfl, rfl⟩⟩
    · simp [Value.cells] at hcs
      obtain ⟨rfl, rfl, rfl⟩ := hcs
      have hz' : zs.length = c0 := by simpa using hz
      exact ⟨zs.take n0, ⟨Bas.row_of _ _ _ _ _ (by omega) hcell, by simp; omega, by omega, fun n hn => hwz n (List.mem_of_mem_take hn), fun h => by cases h⟩, Cod.cap_of (by omega) (by omega) hz' hcell⟩
  refine (walk W (CP.tabs_of hL) a0 n0 c0 l0 I0 J0).mono fun e W' ⟨he, bel⟩ => ?_
  subst he
  exact ⟨_, rfl, _, _, _, [], _, [], hW', trodAll_mk1 (shut_bool Tryd.underlying4 _), (trodAll_cons_mk (Below.trod Bas.laidOut (by kernel_rfl) (of_decide_eq_true (by kernel_rfl)) k0 bel lt0) trodAll_mk0), rfl, bel.frame _, fun h => by cases h⟩


theorem over : Rows.compressSizeRow.holds Tryd.pinned (OpenSpec.ofChange Rows.compressSizeSpec) :=
  OpenClaim.holds_of_cond 4 Tryd.f4 rfl rfl rfl rfl rfl rfl rfl ⟨rfl, rfl, rfl, rfl, rfl⟩ rfl rfl rfl rfl rfl (by kernel_rfl) Tryd.func4 (by kernel_rfl)
    (of_decide_eq_true (by kernel_rfl)) (by unfold Func.isWrapper; first | (rw [if_pos (by decide +kernel)]; kernel_rfl) | (rw [if_neg (by decide +kernel)]; exact ⟨rfl, rfl⟩))
    (fun os started H enc _ Fi => by rw [OpenClaim.pre_eq_preRow]; exact lifted os started H enc Fi)
theorem plain (f : FuncId) (fn : Func) (hf : Tryd.pinned.checked.prog.funcNamed Rows.compressSizeRow.func = some f) (hfn : Tryd.pinned.checked.prog.funcs[f]? = some fn) :
    false = Tryd.pinned.checked.prog.looks [] ∧ ∀ (j : Nat) t, fn.params[j]? = some t → Tryd.pinned.checked.prog.wantsStandIn t = false := by
  obtain rfl : f = 4 := Option.some.inj ((show Tryd.prog.funcNamed Rows.compressSizeRow.func = some 4 by kernel_rfl).symm.trans hf) |>.symm
  obtain rfl : fn = Tryd.f4 := (Option.some.inj (Tryd.func4.symm.trans hfn)).symm
  refine ⟨by kernel_rfl, fun j t ht => ?_⟩
  rw [Tryd.params4] at ht
  have hm : t ∈ [22] := by simpa using Array.mem_of_getElem? ht
  have hall : ([22].all fun u => !Tryd.prog.wantsStandIn u) = true := by kernel_rfl
  exact (show Tryd.prog.wantsStandIn t = false by simpa using List.all_eq_true.1 hall t hm)
end Go.Proofs.YtpglmfhlgaliaaaDoor.compressSize
namespace Go.Proofs.YtpglmfhlgaliaaaDoor
/-- The statement: the tied card. -/
theorem compressSize_proved : Rows.CompressSizeCardSaid :=
  Claim7.holds_tied_plain_at .later [] _ _ _ _ compressSize.over (fun _ h => by cases h) (by kernel_rfl) (fun _ h => by cases h) compressSize_row_tie rfl ⟨rfl, rfl⟩ (by kernel_rfl) rfl compressSize.plain (by kernel_rfl)
end Go.Proofs.YtpglmfhlgaliaaaDoor
