/-
  Proved: what is written, by either profile, is read as it was. No condition.
-/
import Derived.Test.YtpglmfhlgaliaaaDoorCPLaw
import Derived.Test.YtpglmfhlgaliaaaDoorEXRRd
import Derived.Test.YtpglmfhlgaliaaaDoorRefO
namespace Go.Proofs.YtpglmfhlgaliaaaDoor
open Go.ChangeShapes Go.WideShapes Go.ChangeAt Go.RowKit
open Go.ChangeMaps (open_string shut_string)
namespace compressBack
open Bas Sca Stp Scn Cod Cmp Cps CP
set_option linter.unusedVariables false

set_option maxHeartbeats 8000000 in
set_option maxRecDepth 100000 in
theorem walk (w : World) (hT : CP.Tabs w) (π : Bool) (a0 : Option Addr) (n0 c0 : Nat) (l0 : List Int) (I0 : Ints .u32 w a0 n0 c0 l0) (J0 : Cap a0 n0 c0) :
    Calls Tryd.prog 3 #[.bool π, .slice a0 n0 c0] w fun e w' => e = .returned (.bool true) ∧ Below w.heap.size w w' := by
  have HT : Hid (CP.Tabs w) := hT
  have HI : Hid (Ints .u32 w a0 n0 c0 l0 ∧ Cap a0 n0 c0) := ⟨I0, J0⟩
  have hn0 := I0.max
  clear I0 J0 hT
  go_enter Tryd.func3, Tryd.ntmps3
  go_wp2_with fail
  refine (awake_any w HT.out).mono ?_
  rintro e w1 ⟨rfl, b1⟩
  have HB1 : Hid (Below w.heap.size w w1) := b1
  clear b1
  go_wp2_with fail
  refine (great_any _ none none 0 0 0 0 w1).mono ?_
  rintro e w1 ⟨rfl, rfl⟩
  obtain ⟨g, hg⟩ : ∃ g, (decide ((n0 : Int) > 400) || (decide (0 > 200) || decide (0 > 200))) = g := ⟨_, rfl⟩
  rw [hg]
  cases g with
  | true =>
    clear hg
    go_wp2_with fail
    refine (awake_any _ (HT.out.below HB1.out)).mono ?_
    rintro e w2 ⟨rfl, b2⟩
    go_wp2
    go_ret
    exact ⟨rfl, below_two HB1.out b2⟩
  | false =>
    obtain ⟨h400, -, -⟩ := great_no hg
    clear hg
    go_wp2_with fail
    refine (rFirst_any a0 n0 c0 l0 w1 (HI.out.1.row.mono HB1.out) HI.out.1.len HI.out.1.max).mono ?_
    rintro e w1 ⟨rfl, rfl⟩
    by_cases hok : okLen l0 < l0.length
    · rw [firstL_ok, if_pos hok]
      have hge : (okLen l0 : Int) ≥ 0 := by omega
      clear hok
      go_wp2_with fail
      refine (awake_any _ (HT.out.below HB1.out)).mono ?_
      rintro e w2 ⟨rfl, b2⟩
      go_wp2
      go_ret
      exact ⟨rfl, below_two HB1.out b2⟩
    · have HSC : Hid (∀ c ∈ l0, isB c = true ∧ 0 ≤ c) := scalars_of hok HI.out.1.fits
      rw [firstL_ok, if_neg hok]
      clear hok
      go_wp2_with fail
      refine (newW_any π _ rfl (HT.out.below HB1.out)).mono ?_
      rintro e w2 ⟨rfl, E2, z2, B2⟩
      obtain ⟨N, hN⟩ : ∃ N, N = w1.heap.size := ⟨_, rfl⟩
      have HN : Hid (w.heap.size ≤ N) := by show w.heap.size ≤ N; rw [hN]; exact HB1.out.size
      rw [← hN] at E2 z2 B2 ⊢
      have HB2 : Hid (Below w.heap.size w w2) := HB1.out.trans (B2.mono HN.out)
      clear hN
      go_wp2_with fail
      refine (write_any N _ a0 n0 c0 l0 w2 E2 (came_of HI.out.2 HI.out.1.row HI.out.1.len HB2.out (fun k hk hf => by have := footE_nil hf; have := HN.out; omega)) (fun c hc => fits_u32' (HI.out.1.fits c hc)) (fun c hc => (HSC.out c hc).1) (by have := HI.out.1.len; omega)).mono ?_
      rintro e w3 ⟨rfl, C3⟩
      have HB3 : Hid (Below w.heap.size w w3) := HB2.out.trans (C3.below HB2.out.size (fun k j hk h => by have := footE_nil h; have := HN.out; omega))
      clear E2 z2 B2 C3 HB2 HN HB1
      obtain ⟨s, hs⟩ : ∃ s, Stp.strOf (textC π l0) = s := ⟨_, rfl⟩
      rw [hs]
      have hbs : bytesL s = textC π l0 := by rw [← hs]; exact bytesL_strOf _ (text_byte l0 HSC.out)
      have hss : s.size ≤ 100000 := by rw [← bytesL_length, hbs]; have := text_max (plain := π) l0 (fun c hc => (HSC.out c hc).1); have := HI.out.1.len; omega
      obtain ⟨z, z1, z2⟩ := text_rd (plain := π) l0 HSC.out
      have HX : Hid ((⟨l0, s.size, decE z, false⟩ : Res Exp.St) = scan (EX.stepU ()) (EX.st0 ()) (bytesL s)) := by
        show _ = _
        rw [← bytesL_length, hbs]; exact z2.symm
      have HQ : Hid (EX.endQ ⟨l0, s.size, decE z, false⟩ = 0) := rfl
      clear hs hbs z1 z2
      go_wp2_with fail
      refine (EX.rRead_any (π := ()) s ⟨l0, s.size, decE z, false⟩ w3 HX.out hss).mono ?_
      rintro e w4 ⟨vo, rfl, q1, -, q3⟩
      rw [HQ.out]
      obtain ⟨ao, co, hvo, -⟩ := q1.form
      have hl0 := HI.out.1.len
      change vo = .slice ao l0.length co at hvo
      rw [hl0] at hvo
      subst hvo
      have HB4 : Hid (Below w.heap.size w w4) := below_two HB3.out q3
      have HS4 : Hid (Row .u32 w4 (some ⟨0, 0, none⟩) [] ∨ Seg .u32 w4 (.slice ao n0 co) l0) := .inr q1
      have HSG : Hid (Seg .u32 w4 (.slice ao n0 co) l0) := q1
      clear q1 q3 hl0 HS4 HX HQ
      go_wp2_with fail
      refine (rSame_any ao a0 n0 n0 co c0 l0 l0 w4 (seg_row HSG.out).1 (HI.out.1.row.mono HB4.out) HI.out.1.len HI.out.1.len (by unfold maxLen; omega) (by unfold maxLen; omega)).mono ?_
      rintro e w5 ⟨rfl, nd, rfl⟩
      rw [cmpL_self, show ((0 : Int) == 0) = true from rfl]
      have HB5 : Hid (Below w.heap.size w (w4.drewN nd)) := below_two HB4.out (below_dn _ _)
      generalize w4.drewN nd = w5 at *
      clear HSG HB4
      go_wp2
      go_ret
      exact ⟨rfl, HB5.out⟩
theorem reads (os : Os) {H : Type} (enc : TypeId × Value → H) : ∃ places, DataW.whole enc Tryd.prog ((({ World.holding Tryd.prog os ⟨#[], #[], []⟩ with heap := (((World.holding Tryd.prog os ⟨#[], #[], []⟩).heap.modify 0 CP.layN).modify 1 CP.layS) } : World)).forCall (fun _ _ => 0) ⟨#[], #[.bool false, .slice none 0 0], []⟩).memory Tryd.f3.params.toList Rows.compressBackSpec.vars false #[.bool false, .slice none 0 0].toList 8 = some ([.lit (.bool false), .nil], [], places) :=
  ⟨[], by kernel_rfl⟩
set_option maxRecDepth 100000 in
theorem lifted (os : Os) (started : os.Started) (H : Type) (enc : TypeId × Value → H) (Fi : Stop.Interp) :
    ReturnsInHanded {} Tryd.checked os 3 .any ((OpenSpec.ofChange Rows.compressBackSpec).preRow enc Tryd.prog Tryd.f3 Rows.compressBackRow.domain false Rows.compressBackRow.laid) (((OpenSpec.ofChange Rows.compressBackSpec).at Fi).post enc Tryd.prog Tryd.f3 false true false false) := by
  obtain ⟨places, hx⟩ := reads os enc
  refine returnsInHanded_of_row (C := Tryd.checked) (s := OpenSpec.ofChange Rows.compressBackSpec) Bas.own started (by kernel_rfl) Tryd.func3
    (witness_row_at (enc := enc) (C := Tryd.checked) false (({ World.holding Tryd.prog os ⟨#[], #[], []⟩ with heap := (((World.holding Tryd.prog os ⟨#[], #[], []⟩).heap.modify 0 CP.layN).modify 1 CP.layS) } : World)) #[.bool false, .slice none 0 0] rfl (by kernel_rfl) (by kernel_rfl) (by kernel_rfl)
      (OpenSpec.preRow_of_cond 8 hx (by kernel_rfl) (fun k hk => by cases hk) (by kernel_rfl) (CP.laid_met os _))) ?_
  intro W base args ds gs before hval0 hW _ _ _ hL _ _
  have hval : ∀ (j : Nat) t v, Tryd.f3.params[j]? = some t → args[j]? = some v → Value.okWide Tryd.prog W .any base t v := hval0
  have hW' := hW
  obtain ⟨p, q, hA0, hV, rfl, hfz, hnd⟩ := hW
  have hA : DataW.TrodAll enc Tryd.prog W 0 (fun _ => true) true Tryd.f3.params.toList args.toList ds p := hA0
  rw [Tryd.params3] at hA hval
  obtain ⟨v0, vs0, d0, ds0, p0, q0, hargs, rfl, rfl, h0, r0⟩ := trodAll_cons hA
  obtain ⟨v1, vs1, d1, ds1, p1, q1, rfl, rfl, rfl, h1, r1⟩ := trodAll_cons r0
  obtain ⟨rfl, rfl, rfl⟩ := trodAll_nil r1
  obtain rfl : args = #[v0, v1] := by cases args; simp_all
  obtain ⟨rfl, rfl⟩ := trodVars_none hV
  have k0 := h0
  have lt0 : ∀ x ∈ p0, x.block < W.heap.size := by obtain ⟨m, hm⟩ := k0; exact DataW.trod_lt m _ _ _ hm
  have k1 := h1
  have lt1 : ∀ x ∈ p1, x.block < W.heap.size := by obtain ⟨m, hm⟩ := k1; exact DataW.trod_lt m _ _ _ hm
  obtain ⟨a0, rfl, rfl, rfl⟩ := open_bool Tryd.underlying4 (hval 0 4 v0 rfl rfl) h0
  obtain ⟨a1, n1, c1, rfl⟩ := okWide_slice Tryd.underlying22 (hval 1 22 v1 rfl rfl)
  obtain ⟨l1, I1, J1⟩ : ∃ l : List Int, Bas.Ints .u32 W a1 n1 c1 l ∧ Cod.Cap a1 n1 c1 := by
    obtain ⟨fuel, hf⟩ := h1
    rcases open_ints Tryd.underlying22 Tryd.underlying35 (by kernel_rfl) hf with ⟨hcs, _⟩ | ⟨x, l, c, zs, hcs, _, hl, hm, hz, _, hcell, hwz⟩
    · simp [Value.cells] at hcs
      obtain ⟨rfl, rfl, rfl⟩ := hcs
      exact ⟨[], ⟨Bas.row_nil _ _ _, rfl, by unfold maxLen; omega, by simp, fun _ => rfl⟩, .inl ⟨rfl, rfl⟩⟩
    · simp [Value.cells] at hcs
      obtain ⟨rfl, rfl, rfl⟩ := hcs
      have hz' : zs.length = c1 := by simpa using hz
      exact ⟨zs.take n1, ⟨Bas.row_of _ _ _ _ _ (by omega) hcell, by simp; omega, by omega, fun n hn => hwz n (List.mem_of_mem_take hn), fun h => by cases h⟩, Cod.cap_of (by omega) (by omega) hz' hcell⟩
  refine (walk W (CP.tabs_of hL) a0 a1 n1 c1 l1 I1 J1).mono fun e W' ⟨he, bel⟩ => ?_
  subst he
  exact ⟨_, rfl, _, _, _, [], _, [], hW', trodAll_mk1 (shut_bool Tryd.underlying4 _), (trodAll_cons_mk (Below.trod Bas.laidOut (by kernel_rfl) (of_decide_eq_true (by kernel_rfl)) k0 bel lt0) (trodAll_cons_mk (Below.trod Bas.laidOut (by kernel_rfl) (of_decide_eq_true (by kernel_rfl)) k1 bel lt1) trodAll_mk0)), rfl, bel.frame _, fun h => by cases h⟩


theorem over : Rows.compressBackRow.holds Tryd.pinned (OpenSpec.ofChange Rows.compressBackSpec) :=
  OpenClaim.holds_of_cond 3 Tryd.f3 rfl rfl rfl rfl rfl rfl rfl ⟨rfl, rfl, rfl, rfl, rfl⟩ rfl rfl rfl rfl rfl (by kernel_rfl) Tryd.func3 (by kernel_rfl)
    (of_decide_eq_true (by kernel_rfl)) (by unfold Func.isWrapper; first | (rw [if_pos (by decide +kernel)]; kernel_rfl) | (rw [if_neg (by decide +kernel)]; exact ⟨rfl, rfl⟩))
    (fun os started H enc _ Fi => by rw [OpenClaim.pre_eq_preRow]; exact lifted os started H enc Fi)
theorem plain (f : FuncId) (fn : Func) (hf : Tryd.pinned.checked.prog.funcNamed Rows.compressBackRow.func = some f) (hfn : Tryd.pinned.checked.prog.funcs[f]? = some fn) :
    false = Tryd.pinned.checked.prog.looks [] ∧ ∀ (j : Nat) t, fn.params[j]? = some t → Tryd.pinned.checked.prog.wantsStandIn t = false := by
  obtain rfl : f = 3 := Option.some.inj ((show Tryd.prog.funcNamed Rows.compressBackRow.func = some 3 by kernel_rfl).symm.trans hf) |>.symm
  obtain rfl : fn = Tryd.f3 := (Option.some.inj (Tryd.func3.symm.trans hfn)).symm
  refine ⟨by kernel_rfl, fun j t ht => ?_⟩
  rw [Tryd.params3] at ht
  have hm : t ∈ [4, 22] := by simpa using Array.mem_of_getElem? ht
  have hall : ([4, 22].all fun u => !Tryd.prog.wantsStandIn u) = true := by kernel_rfl
  exact (show Tryd.prog.wantsStandIn t = false by simpa using List.all_eq_true.1 hall t hm)
end Go.Proofs.YtpglmfhlgaliaaaDoor.compressBack
namespace Go.Proofs.YtpglmfhlgaliaaaDoor
/-- The statement: the tied card. -/
theorem compressBack_proved : Rows.CompressBackCardSaid :=
  Claim7.holds_tied_plain_at .later [] _ _ _ _ compressBack.over (fun _ h => by cases h) (by kernel_rfl) (fun _ h => by cases h) compressBack_row_tie rfl ⟨rfl, rfl⟩ (by kernel_rfl) rfl compressBack.plain (by kernel_rfl)
end Go.Proofs.YtpglmfhlgaliaaaDoor
