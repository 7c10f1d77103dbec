/-
  Proved: any bytes, in whatever parts they come, with whatever room, are told by the decoder of layer 5 as the document says, up to the first byte that is wrong, or to their end; and what is wrong is told, with its place. No condition.
-/
import Derived.Test.YtafigcmiibemeaaU32RRd
import Derived.Test.YtafigcmiibemeaaU32Awk
import Derived.Test.YtafigcmiibemeaaU32Grt
import Derived.Test.YtafigcmiibemeaaPair
namespace Go.Proofs.Ytafigcmiibemeaa
open Go.ChangeShapes Go.WideShapes Go.ChangeAt Go.RowKit
open Go.ChangeMaps (open_string shut_string)
namespace uni32Reads
open Bas Sca Stp Scn Cod U32
set_option linter.unusedVariables false

set_option maxHeartbeats 8000000 in
set_option maxRecDepth 100000 in
theorem walk (w : World) (π : Bool) (s : ByteArray) (hwf : s.size ≤ maxLen) (a1 : Option Addr) (n1 c1 : Nat) (l1 : List Int) (I1 : Ints .i64 w a1 n1 c1 l1) (a2 : Option Addr) (n2 c2 : Nat) (l2 : List Int) (I2 : Ints .i64 w a2 n2 c2 l2) :
    Calls Try.prog 3 #[.bool π, .string s, .agg #[.slice a1 n1 c1, .slice a2 n2 c2]] w fun e w' => e = .returned (.bool true) ∧ Below w.heap.size w w' := by
  have HI : Hid (Ints .i64 w a1 n1 c1 l1 ∧ Ints .i64 w a2 n2 c2 l2) := ⟨I1, I2⟩
  clear I1 I2 hwf
  go_enter Try.func3, Try.ntmps3
  go_upto_region 1 with fail
  have hB0 : Below w.heap.size w (w.alloc (.cells #[.slice a1 n1 c1, .slice a2 n2 c2] 23)).drew := ((Below.refl _ _).alloc (Nat.le_refl _) _).drew
  have hF : (w.alloc (.cells #[.slice a1 n1 c1, .slice a2 n2 c2] 23)).drew.cell? ⟨w.heap.size, 0, none⟩ = some (.slice a1 n1 c1) ∧ (w.alloc (.cells #[.slice a1 n1 c1, .slice a2 n2 c2] 23)).drew.cell? ⟨w.heap.size, 1, none⟩ = some (.slice a2 n2 c2) := by
    simp only [World.cell?_drew]
    exact ⟨by rw [World.cell?_alloc_new]; rfl, by rw [World.cell?_alloc_new]; rfl⟩
  go_region_held3 (fun w' => w'.cell? ⟨w.heap.size, 0, none⟩ = some (.slice a1 n1 c1) ∧ w'.cell? ⟨w.heap.size, 1, none⟩ = some (.slice a2 n2 c2)) (exact hF) (fail)
  have HB0 : Hid (Below w.heap.size w (w.alloc (.cells #[.slice a1 n1 c1, .slice a2 n2 c2] 23)).drew) := hB0
  obtain ⟨w0, hw0⟩ : ∃ w0, (w.alloc (.cells #[.slice a1 n1 c1, .slice a2 n2 c2] 23)).drew = w0 := ⟨_, rfl⟩
  rw [hw0] at HB0 ⊢
  clear hw0 hB0 hF
  go_wp2_with fail
  refine (awake_any _).mono ?_
  rintro e w1 ⟨rfl, b1⟩
  have HB1 : Hid (Below w.heap.size w w1) := below_two HB0.out b1
  clear b1 HB0
  go_wp2_with fail
  refine (great_any _ a1 a2 n1 c1 n2 c2 w1).mono ?_
  rintro e w1' ⟨rfl, rfl⟩
  obtain ⟨g, hg⟩ : ∃ g, (decide ((s.size : Int) > 400) || (decide (n1 > 200) || decide (n2 > 200))) = g := ⟨_, rfl⟩
  rw [hg]
  cases g with
  | true =>
    clear hg
    go_wp2_with fail
    refine (awake_any _).mono ?_
    rintro e w2 ⟨rfl, b2⟩
    go_wp2
    go_ret
    exact ⟨rfl, below_two HB1.out b2⟩
  | false =>
    obtain ⟨h400, h1, h2⟩ := great_no hg
    clear hg
    obtain ⟨X, hX⟩ : ∃ X, X = scan (stepU π) (st0 π) (bytesL s) := ⟨_, rfl⟩
    have hXt : X.told.length ≤ 400 := by
      rw [hX]; have := scan_short (stepU π) (step_one π) (bytesL s) (st0 π); rw [bytesL_length] at this; omega
    have HX : Hid (X = scan (stepU π) (st0 π) (bytesL s)) := hX
    clear hX
    go_wp2_with fail
    refine (newD_any π _ rfl).mono ?_
    rintro e w2 ⟨rfl, D2, z2, B2⟩
    have i1 := (HI.out.1.mono HB1.out).mono B2
    have i2 := (HI.out.2.mono HB1.out).mono B2
    obtain ⟨N, hN⟩ : ∃ N, N = w1'.heap.size := ⟨_, rfl⟩
    have HN : Hid (N = w1'.heap.size ∧ w.heap.size ≤ N) := ⟨hN, by rw [hN]; exact HB1.out.size⟩
    rw [← hN] at D2 z2 B2 ⊢
    have HB2 : Hid (Below w.heap.size w w2) := HB1.out.trans (B2.mono HN.out.2)
    clear hN
    go_wp2_with fail
    refine (read_any N _ _ s a1 a2 n1 c1 n2 c2 l1 l2 X w2 D2 HX.out i1 i2 (fun b' o' h0 e h => by have := row_lt (HI.out.1.row) (by rw [HI.out.1.len]; exact h0) e; have := footD_nil h; have := HN.out.2; omega) (fun b' o' h0 e h => by have := row_lt (HI.out.2.row) (by rw [HI.out.2.len]; exact h0) e; have := footD_nil h; have := HN.out.2; omega) (by omega) (by omega) (by omega)).mono ?_
    rintro e w3 ⟨vo, rfl, v3, u3, s3, f3, D3, C3⟩
    have HB3 : Hid (Below w.heap.size w w3) := HB2.out.trans (C3.below HB2.out.size (fun k j hk h => by have := footD_nil h; have := HN.out.2; omega))
    obtain ⟨ao, co, hvo, -⟩ := s3.form
    obtain ⟨tl, htl⟩ : ∃ tl, X.told.length = tl := ⟨_, rfl⟩
    rw [htl] at hvo hXt
    subst hvo
    have HD3 : Hid (DecV π w3 N X.eaten (endQ X) (endE X) X.st [] v3 u3 ∧ Seg .u32 w3 (.slice ao tl co) X.told) := ⟨D3, s3⟩
    clear D2 z2 B2 i1 i2 s3 f3 D3 C3 HB2
    go_wp2_with fail
    refine (rRead_any s X w3 HX.out (by omega)).mono ?_
    rintro e w4 ⟨vr, rfl, s4, f4, b4⟩
    obtain ⟨ar, cr, hvr, -⟩ := s4.form
    rw [htl] at hvr
    subst hvr
    have hc4 := chg_of_below b4 (Nat.le_refl _) (fun _ _ => False)
    have HD4 : Hid (BaseAt w4 N 0 X.eaten (endQ X) (endE X) ∧ Seg .u32 w4 (.slice ao tl co) X.told ∧ Seg .u32 w4 (.slice ar tl cr) X.told ∧ Below w.heap.size w w4) := ⟨HD3.out.1.base.below b4, HD3.out.2.chg hc4 (fun _ _ _ h => h), s4, below_two HB3.out b4⟩
    clear s4 f4 b4 hc4 HD3 HB3
    go_wp2_with fail
    refine (rSame_any ao ar tl tl co cr X.told X.told w4 (seg_row HD4.out.2.1).1 (seg_row HD4.out.2.2.1).1 htl htl (by unfold maxLen; omega) (by unfold maxLen; omega)).mono ?_
    rintro e w5 ⟨rfl, nd, rfl⟩
    rw [cmpL_self, show ((0 : Int) == 0) = true from rfl]
    have HD5 : Hid (BaseAt (w4.drewN nd) N 0 X.eaten (endQ X) (endE X) ∧ Below w.heap.size w (w4.drewN nd)) := ⟨HD4.out.1.below (below_dn _ _), below_two HD4.out.2.2.2 (below_dn _ _)⟩
    generalize w4.drewN nd = w5 at *
    clear HD4 htl
    obtain ⟨q, hq⟩ : ∃ q, endQ X = q := ⟨_, rfl⟩
    obtain ⟨en, hen⟩ : ∃ en, endE X = en := ⟨_, rfl⟩
    rw [hq, hen] at HD5
    rw [hq]
    clear hq hen
    go_wp2_with fail
    refine (fail_any N 0 _ q en w5 HD5.out.1).mono ?_
    rintro e w6 ⟨rfl, b6⟩
    have HD6 : Hid (BaseAt w6 N 0 X.eaten q en ∧ Below w.heap.size w w6) := ⟨HD5.out.1.below b6, below_two HD5.out.2 b6⟩
    clear b6 HD5
    go_wp2_with fail
    refine (failed_any q X.eaten w6).mono ?_
    rintro e w7 ⟨rfl, b7⟩
    rw [show failAt (X.eaten : Int) q = if q = 0 then 0 else (X.eaten : Int) from rfl]
    obtain ⟨fa, hfa⟩ : ∃ fa : Int, (if q = 0 then 0 else (X.eaten : Int)) = fa := ⟨_, rfl⟩
    rw [hfa]
    clear hfa
    have HD7 : Hid (BaseAt w7 N 0 X.eaten q en ∧ Below w.heap.size w w7) := ⟨HD6.out.1.below b7, below_two HD6.out.2 b7⟩
    clear b7 HD6
    go_wp2_with fail
    refine (at_any N 0 _ q en w7 HD7.out.1).mono ?_
    rintro e w8 ⟨rfl, rfl⟩
    go_wp2
    go_ret
    exact ⟨rfl, HD7.out.2⟩
set_option maxRecDepth 100000 in
theorem lifted (os : Os) (started : os.Started) (H : Type) (enc : TypeId × Value → H) :
    ReturnsInHanded {} Try.checked os 3 .any (Rows.uni32ReadsSpec.pre6 enc Try.prog Try.f3 Rows.uni32ReadsRow.domain false) (Rows.uni32ReadsSpec.post enc Try.prog Try.f3 false true false false) := by
  refine returnsInHanded_of_change (C := Try.checked) Bas.own started (by kernel_rfl) Try.func3
    (ChangeSpec.witness6 (enc := enc) (C := Try.checked) false ⟨#[], #[.bool false, .string ByteArray.empty, .agg #[.slice none 0 0, .slice none 0 0]], []⟩ 8 (by kernel_rfl) (by kernel_rfl) (by kernel_rfl) (by kernel_rfl)) ?_
  intro W base args ds gs before hval0 hW hcnd _
  have hval : ∀ (j : Nat) t v, Try.f3.params[j]? = some t → args[j]? = some v → Value.okWide Try.prog W .any base t v := hval0
  have hW' := hW
  obtain ⟨p, q, hA0, hV, rfl, hfz, hnd⟩ := hW
  have hA : DataW.TrodAll enc Try.prog W 0 (fun _ => true) true Try.f3.params.toList args.toList ds p := hA0
  rw [Try.params3] at hA hval
  obtain ⟨v0, vs0, d0, ds0, p0, q0, hargs, rfl, rfl, h0, r0⟩ := trodAll_cons hA
  obtain ⟨v1, vs1, d1, ds1, p1, q1, rfl, rfl, rfl, h1, r1⟩ := trodAll_cons r0
  obtain ⟨v2, vs2, d2, ds2, p2, q2, rfl, rfl, rfl, h2, r2⟩ := trodAll_cons r1
  obtain ⟨rfl, rfl, rfl⟩ := trodAll_nil r2
  obtain rfl : args = #[v0, v1, v2] := by cases args; simp_all
  obtain ⟨rfl, rfl⟩ := trodVars_none hV
  have k0 := h0
  have lt0 : ∀ x ∈ p0, x.block < W.heap.size := by obtain ⟨m, hm⟩ := k0; exact DataW.trod_lt m _ _ _ hm
  have k1 := h1
  have lt1 : ∀ x ∈ p1, x.block < W.heap.size := by obtain ⟨m, hm⟩ := k1; exact DataW.trod_lt m _ _ _ hm
  have k2 := h2
  have lt2 : ∀ x ∈ p2, x.block < W.heap.size := by obtain ⟨m, hm⟩ := k2; exact DataW.trod_lt m _ _ _ hm
  obtain ⟨a0, rfl, rfl, rfl⟩ := open_bool Try.underlying4 (hval 0 4 v0 rfl rfl) h0
  obtain ⟨a1, rfl, rfl, rfl, w1⟩ := open_string Try.underlying9 (hval 1 9 v1 rfl rfl) h1
  obtain ⟨a2, n2, c2, l2, b2, m2, e2, k2', rfl, I2, J2⟩ := Cod.pair_of Try.underlying23 Try.underlying22 Try.underlying3 (by kernel_rfl) (by kernel_rfl) (by kernel_rfl) (fun _ => rfl) (hval 2 23 v2 rfl rfl) h2
  refine (walk W a0 a1 w1 a2 n2 c2 l2 I2 b2 m2 e2 k2' J2).mono fun e W' ⟨he, bel⟩ => ?_
  subst he
  exact ⟨_, rfl, _, _, _, [], _, [], hW', trodAll_mk1 (shut_bool Try.underlying4 _), (trodAll_cons_mk (Below.trod Bas.laidOut (by kernel_rfl) (of_decide_eq_true (by kernel_rfl)) k0 bel lt0) (trodAll_cons_mk (Below.trod Bas.laidOut (by kernel_rfl) (of_decide_eq_true (by kernel_rfl)) k1 bel lt1) (trodAll_cons_mk (Below.trod Bas.laidOut (by kernel_rfl) (of_decide_eq_true (by kernel_rfl)) k2 bel lt2) trodAll_mk0))), rfl, bel.frame _, fun h => by cases h⟩

theorem over : Rows.uni32ReadsRow.holds Try.pinned (OpenSpec.ofChange Rows.uni32ReadsSpec) :=
  OpenClaim.holds_of_wide 3 Try.f3 rfl rfl rfl rfl rfl rfl rfl ⟨rfl, rfl, rfl, rfl, rfl⟩ rfl rfl rfl rfl rfl (by kernel_rfl) Try.func3 (by kernel_rfl)
    (of_decide_eq_true (by kernel_rfl)) (by unfold Func.isWrapper; first | (rw [if_pos (by decide +kernel)]; kernel_rfl) | (rw [if_neg (by decide +kernel)]; exact ⟨rfl, rfl⟩))
    (fun os started H enc _ => lifted os started H enc)
end Go.Proofs.Ytafigcmiibemeaa.uni32Reads
namespace Go.Proofs.Ytafigcmiibemeaa
/-- The statement. -/
theorem uni32Reads_proved : Rows.Uni32ReadsSaid := uni32Reads.over
end Go.Proofs.Ytafigcmiibemeaa
