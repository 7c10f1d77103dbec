/-
  Proved: scalars that are written in Punycode are read as they were, whatever parts and rooms there are on both sides. No condition.
-/
import Derived.Test.YtemgbmacdpnepaaPunLaw
namespace Go.Proofs.Ytemgbmacdpnepaa
open Go.ChangeShapes Go.WideShapes Go.ChangeAt Go.RowKit
open Go.ChangeMaps (open_string shut_string)
namespace punyBack
open Bas Sca Stp Scn Cod Pun
set_option linter.unusedVariables false

set_option maxHeartbeats 8000000 in
set_option maxRecDepth 100000 in
theorem walk (w : World) (a0 : Option Addr) (n0 c0 : Nat) (l0 : List Int) (I0 : Ints .u32 w a0 n0 c0 l0) (J0 : Cap a0 n0 c0) (a1 : Option Addr) (n1 c1 : Nat) (l1 : List Int) (I1 : Ints .i64 w a1 n1 c1 l1) (J1 : Cap a1 n1 c1) (a2 : Option Addr) (n2 c2 : Nat) (l2 : List Int) (I2 : Ints .i64 w a2 n2 c2 l2) (J2 : Cap a2 n2 c2) :
    Calls Try.prog 5 #[.slice a0 n0 c0, .slice a1 n1 c1, .slice a2 n2 c2] w fun e w' => e = .returned (.bool true) ∧ Below w.heap.size w w' := by
  have HI : Hid (Ints .u32 w a0 n0 c0 l0 ∧ Cap a0 n0 c0 ∧ Ints .i64 w a1 n1 c1 l1 ∧ Ints .i64 w a2 n2 c2 l2) := ⟨I0, J0, I1, I2⟩
  have hn0 := I0.max
  have hcap := J0.le
  clear I0 J0 I1 I2 J1 J2
  go_enter Try.func5, Try.ntmps5
  go_wp2_with fail
  refine (awake_any _).mono ?_
  rintro e w1 ⟨rfl, b1⟩
  have HB1 : Hid (Below w.heap.size w w1) := b1
  clear b1
  go_wp2_with fail
  refine (great_any _ a1 a2 n1 c1 n2 c2 w1).mono ?_
  rintro e w1' ⟨rfl, rfl⟩
  obtain ⟨g, hg⟩ : ∃ g, (decide ((n0 : Int) > 120) || (decide (n1 > 200) || decide (n2 > 200))) = g := ⟨_, rfl⟩
  rw [hg]
  cases g with
  | true =>
    clear hg
    go_wp2_with fail
    refine (awake_any _).mono ?_
    rintro e w2 ⟨rfl, b2⟩
    go_wp2
    go_ret
    exact ⟨rfl, below_two HB1.out b2⟩
  | false =>
    obtain ⟨h400, h1, h2⟩ := great_no' hg
    clear hg
    go_wp2_with fail
    refine (rFirst_any a0 n0 c0 l0 w1' (HI.out.1.row.mono HB1.out) HI.out.1.len HI.out.1.max).mono ?_
    rintro e w1 ⟨rfl, rfl⟩
    by_cases hok : okLen l0 < l0.length
    · rw [firstL_ok, if_pos hok]
      have hge : (okLen l0 : Int) ≥ 0 := by omega
      clear hok
      go_wp2_with fail
      refine (awake_any _).mono ?_
      rintro e w2 ⟨rfl, b2⟩
      go_wp2
      go_ret
      exact ⟨rfl, below_two HB1.out b2⟩
    · rw [firstL_ok, if_neg hok]
      have HOK : Hid (¬ okLen l0 < l0.length) := hok
      clear hok
      go_wp2_with fail
      refine (newEn_any _ rfl).mono ?_
      rintro e w2 ⟨rfl, E2, z2, B2⟩
      obtain ⟨N, hN⟩ : ∃ N, N = w1.heap.size := ⟨_, rfl⟩
      have HN : Hid (w.heap.size ≤ N) := by show w.heap.size ≤ N; rw [hN]; exact HB1.out.size
      rw [← hN] at E2 z2 B2 ⊢
      have HB2 : Hid (Below w.heap.size w w2) := HB1.out.trans (B2.mono HN.out)
      clear hN
      go_wp2_with fail
      refine (write_any N _ _ a0 n0 c0 l0 a1 a2 n1 c1 n2 c2 l1 l2 w2 E2 (came_of HI.out.2.1 HI.out.1.row HI.out.1.len HB2.out (fun k hk hf => by have := footE_nil hf; have := HN.out; omega)) (fun c hc => fits_u32' (HI.out.1.fits c hc)) (HI.out.2.2.1.mono HB2.out) (HI.out.2.2.2.mono HB2.out) (fun b' o' h0 e h => by have := row_lt (HI.out.2.2.1.row) (by rw [HI.out.2.2.1.len]; exact h0) e; have := footE_nil h; have := HN.out; omega) (fun b' o' h0 e h => by have := row_lt (HI.out.2.2.2.row) (by rw [HI.out.2.2.2.len]; exact h0) e; have := footE_nil h; have := HN.out; omega) (by omega) (by omega) (by have := HI.out.1.len; omega)).mono ?_
      rintro e w3 ⟨T, hT, rfl, v3, u3, E3, C3⟩
      have hTX : TextOf l0 T := by
        unfold WrT at hT
        rw [if_neg HOK.out] at hT
        exact hT
      have HB3 : Hid (Below w.heap.size w w3) := HB2.out.trans (C3.below HB2.out.size (fun k j hk h => by have := footE_nil h; have := HN.out; omega))
      obtain ⟨s, hs⟩ : ∃ s, Stp.strOf T = s := ⟨_, rfl⟩
      rw [hs]
      have hbs : bytesL s = T := by rw [← hs]; exact bytesL_strOf _ (fun x hx => by have := hTX.plain x hx; omega)
      have hss : s.size ≤ 1200 := by rw [← bytesL_length, hbs]; exact text_len hTX (by have := HI.out.1.len; omega)
      have HX : Hid (bahL (bytesL s) = s.size ∧ rdQ (bytesL s) = 0 ∧ rdE (bytesL s) = true ∧ rdL (bytesL s) = l0) := by
        rw [← bytesL_length, hbs]; exact text_read hTX
      clear hs hbs E2 z2 B2 E3 C3 HB2 hT hTX
      go_wp2_with fail
      refine (newD_any _ rfl).mono ?_
      rintro e w4 ⟨rfl, D4, z4, B4⟩
      obtain ⟨M, hM⟩ : ∃ M, M = w3.heap.size := ⟨_, rfl⟩
      have HM : Hid (w.heap.size ≤ M) := by show w.heap.size ≤ M; rw [hM]; exact HB3.out.size
      rw [← hM] at D4 z4 B4 ⊢
      have HB4 : Hid (Below w.heap.size w w4) := HB3.out.trans (B4.mono HM.out)
      clear hM
      go_wp2_with fail
      refine (read_any lenOK M _ _ s a2 a1 n2 c2 n1 c1 l2 l1 w4 D4 (HI.out.2.2.2.mono HB4.out) (HI.out.2.2.1.mono HB4.out) (fun b' o' h0 e h => by have := row_lt (HI.out.2.2.2.row) (by rw [HI.out.2.2.2.len]; exact h0) e; have := footD_nil h; have := HM.out; omega) (fun b' o' h0 e h => by have := row_lt (HI.out.2.2.1.row) (by rw [HI.out.2.2.1.len]; exact h0) e; have := footD_nil h; have := HM.out; omega) (by omega) (by omega) (by omega)).mono ?_
      rintro e w5 ⟨vo, rfl, v5, u5, s5, f5, D5, C5⟩
      rw [HX.out.2.2.2] at s5
      rw [HX.out.1, HX.out.2.1, HX.out.2.2.1] at D5
      have HB5 : Hid (Below w.heap.size w w5) := HB4.out.trans (C5.below HB4.out.size (fun k j hk h => by have := footD_nil h; have := HM.out; omega))
      obtain ⟨ao, co, hvo, -⟩ := s5.form
      have hl0 := HI.out.1.len
      rw [hl0] at hvo
      subst hvo
      have HD5 : Hid (BaseAt w5 M 0 s.size 0 true ∧ Seg .u32 w5 (.slice ao n0 co) l0) := ⟨D5.base, s5⟩
      clear D4 z4 B4 s5 f5 D5 C5 HB4 hl0 HX
      go_wp2_with fail
      refine (rSame_any ao a0 n0 n0 co c0 l0 l0 w5 (seg_row HD5.out.2).1 (HI.out.1.row.mono HB5.out) HI.out.1.len HI.out.1.len (by unfold maxLen; omega) (by unfold maxLen; omega)).mono ?_
      rintro e w6 ⟨rfl, nd, rfl⟩
      rw [cmpL_self, show ((0 : Int) == 0) = true from rfl]
      have HD6 : Hid (BaseAt (w5.drewN nd) M 0 s.size 0 true ∧ Below w.heap.size w (w5.drewN nd)) := ⟨HD5.out.1.below (below_dn _ _), below_two HB5.out (below_dn _ _)⟩
      generalize w5.drewN nd = w6 at *
      clear HD5 HB5
      go_wp2_with fail
      refine (fail_any M 0 _ 0 true w6 HD6.out.1).mono ?_
      rintro e w7 ⟨rfl, b7⟩
      rw [show failAt (s.size : Int) 0 = 0 from rfl]
      have HD7 : Hid (BaseAt w7 M 0 s.size 0 true ∧ Below w.heap.size w w7) := ⟨HD6.out.1.below b7, below_two HD6.out.2 b7⟩
      clear b7 HD6
      go_wp2_with fail
      refine (at_any M 0 _ 0 true w7 HD7.out.1).mono ?_
      rintro e w8 ⟨rfl, rfl⟩
      go_wp2
      go_ret
      exact ⟨rfl, HD7.out.2⟩
set_option maxRecDepth 100000 in
theorem lifted (os : Os) (started : os.Started) (H : Type) (enc : TypeId × Value → H) :
    ReturnsInHanded {} Try.checked os 5 .any (Rows.punyBackSpec.pre6 enc Try.prog Try.f5 Rows.punyBackRow.domain false) (Rows.punyBackSpec.post enc Try.prog Try.f5 false true false false) := by
  refine returnsInHanded_of_change (C := Try.checked) Bas.own started (by kernel_rfl) Try.func5
    (ChangeSpec.witness6 (enc := enc) (C := Try.checked) false ⟨#[], #[.slice none 0 0, .slice none 0 0, .slice none 0 0], []⟩ 8 (by kernel_rfl) (by kernel_rfl) (by kernel_rfl) (by kernel_rfl)) ?_
  intro W base args ds gs before hval0 hW hcnd _
  have hval : ∀ (j : Nat) t v, Try.f5.params[j]? = some t → args[j]? = some v → Value.okWide Try.prog W .any base t v := hval0
  have hW' := hW
  obtain ⟨p, q, hA0, hV, rfl, hfz, hnd⟩ := hW
  have hA : DataW.TrodAll enc Try.prog W 0 (fun _ => true) true Try.f5.params.toList args.toList ds p := hA0
  rw [Try.params5] at hA hval
  obtain ⟨v0, vs0, d0, ds0, p0, q0, hargs, rfl, rfl, h0, r0⟩ := trodAll_cons hA
  obtain ⟨v1, vs1, d1, ds1, p1, q1, rfl, rfl, rfl, h1, r1⟩ := trodAll_cons r0
  obtain ⟨v2, vs2, d2, ds2, p2, q2, rfl, rfl, rfl, h2, r2⟩ := trodAll_cons r1
  obtain ⟨rfl, rfl, rfl⟩ := trodAll_nil r2
  obtain rfl : args = #[v0, v1, v2] := by cases args; simp_all
  obtain ⟨rfl, rfl⟩ := trodVars_none hV
  have k0 := h0
  have lt0 : ∀ x ∈ p0, x.block < W.heap.size := by obtain ⟨m, hm⟩ := k0; exact DataW.trod_lt m _ _ _ hm
  have k1 := h1
  have lt1 : ∀ x ∈ p1, x.block < W.heap.size := by obtain ⟨m, hm⟩ := k1; exact DataW.trod_lt m _ _ _ hm
  have k2 := h2
  have lt2 : ∀ x ∈ p2, x.block < W.heap.size := by obtain ⟨m, hm⟩ := k2; exact DataW.trod_lt m _ _ _ hm
  obtain ⟨a0, n0, c0, l0, rfl, I0, J0⟩ : ∃ a n c l, v0 = .slice a n c ∧ Bas.Ints .u32 W a n c l ∧ Cod.Cap a n c := by
    obtain ⟨a, n, c, rfl⟩ := okWide_slice Try.underlying27 (hval 0 27 v0 rfl rfl)
    obtain ⟨fuel, hf⟩ := h0
    obtain ⟨a', n', c', l, hv, I, J⟩ := Cod.ints_of Try.underlying27 Try.underlying64 (by kernel_rfl) (fun _ => rfl) (by simpa [Value.cells] using hf)
    exact ⟨a', n', c', l, hv, I, J⟩
  obtain ⟨a1, n1, c1, l1, rfl, I1, J1⟩ : ∃ a n c l, v1 = .slice a n c ∧ Bas.Ints .i64 W a n c l ∧ Cod.Cap a n c := by
    obtain ⟨a, n, c, rfl⟩ := okWide_slice Try.underlying22 (hval 1 22 v1 rfl rfl)
    obtain ⟨fuel, hf⟩ := h1
    obtain ⟨a', n', c', l, hv, I, J⟩ := Cod.ints_of Try.underlying22 Try.underlying3 (by kernel_rfl) (fun _ => rfl) (by simpa [Value.cells] using hf)
    exact ⟨a', n', c', l, hv, I, J⟩
  obtain ⟨a2, n2, c2, l2, rfl, I2, J2⟩ : ∃ a n c l, v2 = .slice a n c ∧ Bas.Ints .i64 W a n c l ∧ Cod.Cap a n c := by
    obtain ⟨a, n, c, rfl⟩ := okWide_slice Try.underlying22 (hval 2 22 v2 rfl rfl)
    obtain ⟨fuel, hf⟩ := h2
    obtain ⟨a', n', c', l, hv, I, J⟩ := Cod.ints_of Try.underlying22 Try.underlying3 (by kernel_rfl) (fun _ => rfl) (by simpa [Value.cells] using hf)
    exact ⟨a', n', c', l, hv, I, J⟩
  refine (walk W a0 n0 c0 l0 I0 J0 a1 n1 c1 l1 I1 J1 a2 n2 c2 l2 I2 J2).mono fun e W' ⟨he, bel⟩ => ?_
  subst he
  exact ⟨_, rfl, _, _, _, [], _, [], hW', trodAll_mk1 (shut_bool Try.underlying4 _), (trodAll_cons_mk (Below.trod Bas.laidOut (by kernel_rfl) (of_decide_eq_true (by kernel_rfl)) k0 bel lt0) (trodAll_cons_mk (Below.trod Bas.laidOut (by kernel_rfl) (of_decide_eq_true (by kernel_rfl)) k1 bel lt1) (trodAll_cons_mk (Below.trod Bas.laidOut (by kernel_rfl) (of_decide_eq_true (by kernel_rfl)) k2 bel lt2) trodAll_mk0))), rfl, bel.frame _, fun h => by cases h⟩

theorem over : Rows.punyBackRow.holds Try.pinned (OpenSpec.ofChange Rows.punyBackSpec) :=
  OpenClaim.holds_of_wide 5 Try.f5 rfl rfl rfl rfl rfl rfl rfl ⟨rfl, rfl, rfl, rfl, rfl⟩ rfl rfl rfl rfl rfl (by kernel_rfl) Try.func5 (by kernel_rfl)
    (of_decide_eq_true (by kernel_rfl)) (by unfold Func.isWrapper; first | (rw [if_pos (by decide +kernel)]; kernel_rfl) | (rw [if_neg (by decide +kernel)]; exact ⟨rfl, rfl⟩))
    (fun os started H enc _ => lifted os started H enc)
end Go.Proofs.Ytemgbmacdpnepaa.punyBack
namespace Go.Proofs.Ytemgbmacdpnepaa
/-- The statement. -/
theorem punyBack_proved : Rows.PunyBackSaid := punyBack.over
end Go.Proofs.Ytemgbmacdpnepaa
