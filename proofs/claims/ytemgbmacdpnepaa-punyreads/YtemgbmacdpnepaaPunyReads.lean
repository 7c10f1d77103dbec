/-
  Proved: any bytes, in whatever parts they come, with whatever room, denote in Punycode what the document says, and that is told behind their end; or nothing, and then it is told which byte isn't basic, or that they are cut off. No condition.
-/
import Derived.Test.YtemgbmacdpnepaaPunLaw
import Derived.Test.YtemgbmacdpnepaaPunRf4
namespace Go.Proofs.Ytemgbmacdpnepaa
open Go.ChangeShapes Go.WideShapes Go.ChangeAt Go.RowKit
open Go.ChangeMaps (open_string shut_string)
namespace punyReads
open Bas Sca Stp Scn Cod Pun
set_option linter.unusedVariables false

set_option maxHeartbeats 8000000 in
set_option maxRecDepth 100000 in
theorem walk (w : World) (s : ByteArray) (hwf : s.size ≤ maxLen) (a1 : Option Addr) (n1 c1 : Nat) (l1 : List Int) (I1 : Ints .i64 w a1 n1 c1 l1) (a2 : Option Addr) (n2 c2 : Nat) (l2 : List Int) (I2 : Ints .i64 w a2 n2 c2 l2) :
    Calls Try.prog 3 #[.string s, .slice a1 n1 c1, .slice a2 n2 c2] w fun e w' => e = .returned (.bool true) ∧ Below w.heap.size w w' := by
  have HI : Hid (Ints .i64 w a1 n1 c1 l1 ∧ Ints .i64 w a2 n2 c2 l2) := ⟨I1, I2⟩
  clear I1 I2 hwf
  go_enter Try.func3, Try.ntmps3
  go_wp2_with fail
  refine (awake_any _).mono ?_
  rintro e w1 ⟨rfl, b1⟩
  have HB1 : Hid (Below w.heap.size w w1) := b1
  clear b1
  go_wp2_with fail
  refine (great_any _ a1 a2 n1 c1 n2 c2 w1).mono ?_
  rintro e w1' ⟨rfl, rfl⟩
  obtain ⟨g, hg⟩ : ∃ g, (decide ((s.size : Int) > 120) || (decide (n1 > 200) || decide (n2 > 200))) = g := ⟨_, rfl⟩
  rw [hg]
  cases g with
  | true =>
    clear hg
    go_wp2_with fail
    refine (awake_any _).mono ?_
    rintro e w2 ⟨rfl, b2⟩
    go_wp2
    go_ret
    exact ⟨rfl, below_two HB1.out b2⟩
  | false =>
    obtain ⟨h400, h1, h2⟩ := great_no' hg
    clear hg
    go_wp2_with fail
    refine (newD_any _ rfl).mono ?_
    rintro e w2 ⟨rfl, D2, z2, B2⟩
    have i1 := (HI.out.1.mono HB1.out).mono B2
    have i2 := (HI.out.2.mono HB1.out).mono B2
    obtain ⟨N, hN⟩ : ∃ N, N = w1'.heap.size := ⟨_, rfl⟩
    have HN : Hid (w.heap.size ≤ N) := by show w.heap.size ≤ N; rw [hN]; exact HB1.out.size
    rw [← hN] at D2 z2 B2 ⊢
    have HB2 : Hid (Below w.heap.size w w2) := HB1.out.trans (B2.mono HN.out)
    clear hN
    go_wp2_with fail
    refine (read_any lenOK N _ _ s a1 a2 n1 c1 n2 c2 l1 l2 w2 D2 i1 i2 (fun b' o' h0 e h => by have := row_lt (HI.out.1.row) (by rw [HI.out.1.len]; exact h0) e; have := footD_nil h; have := HN.out; omega) (fun b' o' h0 e h => by have := row_lt (HI.out.2.row) (by rw [HI.out.2.len]; exact h0) e; have := footD_nil h; have := HN.out; omega) (by omega) (by omega) (by omega)).mono ?_
    rintro e w3 ⟨vo, rfl, v3, u3, s3, f3, D3, C3⟩
    have HB3 : Hid (Below w.heap.size w w3) := HB2.out.trans (C3.below HB2.out.size (fun k j hk h => by have := footD_nil h; have := HN.out; omega))
    obtain ⟨ao, co, hvo, -⟩ := s3.form
    obtain ⟨tl, htl⟩ : ∃ tl, (rdL (bytesL s)).length = tl := ⟨_, rfl⟩
    rw [htl] at hvo
    subst hvo
    have HD3 : Hid (BaseAt w3 N 0 (bahL (bytesL s)) (rdQ (bytesL s)) (rdE (bytesL s)) ∧ Seg .u32 w3 (.slice ao tl co) (rdL (bytesL s))) := ⟨D3.base, s3⟩
    clear D2 z2 B2 i1 i2 s3 f3 D3 C3 HB2
    go_wp2_with fail
    refine (rRead_any s w3 (by omega)).mono ?_
    rintro e w4 ⟨vr, rfl, s4, b4⟩
    obtain ⟨ar, cr, hvr, -⟩ := s4.form
    rw [htl] at hvr
    subst hvr
    have hc4 := chg_of_below b4 (Nat.le_refl _) (fun _ _ => False)
    have HD4 : Hid (BaseAt w4 N 0 (bahL (bytesL s)) (rdQ (bytesL s)) (rdE (bytesL s)) ∧ Seg .u32 w4 (.slice ao tl co) (rdL (bytesL s)) ∧ Seg .u32 w4 (.slice ar tl cr) (rdL (bytesL s)) ∧ Below w.heap.size w w4) := ⟨HD3.out.1.below b4, HD3.out.2.chg hc4 (fun _ _ _ h => h), s4, below_two HB3.out b4⟩
    have hmx : tl ≤ maxLen := by have := (seg_row HD4.out.2.1).2.2; rw [htl] at this; exact this
    clear s4 b4 hc4 HD3 HB3
    obtain ⟨p, hp⟩ : ∃ p : Nat, bahL (bytesL s) = p := ⟨_, rfl⟩
    have hps : p ≤ s.size := by rw [← hp, ← bytesL_length]; exact bahL_le _
    obtain ⟨q, hq⟩ : ∃ q, rdQ (bytesL s) = q := ⟨_, rfl⟩
    obtain ⟨en, hen⟩ : ∃ en, rdE (bytesL s) = en := ⟨_, rfl⟩
    obtain ⟨M, hM⟩ : ∃ M, rdL (bytesL s) = M := ⟨_, rfl⟩
    rw [hp, hq, hen, hM] at HD4
    rw [hM] at htl
    rw [hp, hq]
    clear hp hq hen hM
    go_wp2_with fail
    refine (rSame_any ao ar tl tl co cr M M w4 (seg_row HD4.out.2.1).1 (seg_row HD4.out.2.2.1).1 htl htl hmx hmx).mono ?_
    rintro e w5 ⟨rfl, nd, rfl⟩
    rw [cmpL_self, show ((0 : Int) == 0) = true from rfl]
    have HD5 : Hid (BaseAt (w4.drewN nd) N 0 p q en ∧ Below w.heap.size w (w4.drewN nd)) := ⟨HD4.out.1.below (below_dn _ _), below_two HD4.out.2.2.2 (below_dn _ _)⟩
    generalize w4.drewN nd = w5 at *
    clear HD4 htl
    go_wp2_with fail
    refine (fail_any N 0 _ q en w5 HD5.out.1).mono ?_
    rintro e w6 ⟨rfl, b6⟩
    have HD6 : Hid (BaseAt w6 N 0 p q en ∧ Below w.heap.size w w6) := ⟨HD5.out.1.below b6, below_two HD5.out.2 b6⟩
    clear b6 HD5
    go_wp2_with fail
    refine (failed_any q p w6).mono ?_
    rintro e w7 ⟨rfl, b7⟩
    rw [show failAt (p : Int) q = if q = 0 then 0 else (p : Int) from rfl]
    obtain ⟨fa, hfa⟩ : ∃ fa : Int, (if q = 0 then 0 else (p : Int)) = fa := ⟨_, rfl⟩
    rw [hfa]
    clear hfa
    have HD7 : Hid (BaseAt w7 N 0 p q en ∧ Below w.heap.size w w7) := ⟨HD6.out.1.below b7, below_two HD6.out.2 b7⟩
    clear b7 HD6
    go_wp2_with fail
    refine (at_any N 0 _ q en w7 HD7.out.1).mono ?_
    rintro e w8 ⟨rfl, rfl⟩
    go_wp2
    go_ret
    exact ⟨rfl, HD7.out.2⟩
set_option maxRecDepth 100000 in
theorem lifted (os : Os) (started : os.Started) (H : Type) (enc : TypeId × Value → H) :
    ReturnsInHanded {} Try.checked os 3 .any (Rows.punyReadsSpec.pre6 enc Try.prog Try.f3 Rows.punyReadsRow.domain false) (Rows.punyReadsSpec.post enc Try.prog Try.f3 false true false false) := by
  refine returnsInHanded_of_change (C := Try.checked) Bas.own started (by kernel_rfl) Try.func3
    (ChangeSpec.witness6 (enc := enc) (C := Try.checked) false ⟨#[], #[.string ByteArray.empty, .slice none 0 0, .slice none 0 0], []⟩ 8 (by kernel_rfl) (by kernel_rfl) (by kernel_rfl) (by kernel_rfl)) ?_
  intro W base args ds gs before hval0 hW hcnd _
  have hval : ∀ (j : Nat) t v, Try.f3.params[j]? = some t → args[j]? = some v → Value.okWide Try.prog W .any base t v := hval0
  have hW' := hW
  obtain ⟨p, q, hA0, hV, rfl, hfz, hnd⟩ := hW
  have hA : DataW.TrodAll enc Try.prog W 0 (fun _ => true) true Try.f3.params.toList args.toList ds p := hA0
  rw [Try.params3] at hA hval
  obtain ⟨v0, vs0, d0, ds0, p0, q0, hargs, rfl, rfl, h0, r0⟩ := trodAll_cons hA
  obtain ⟨v1, vs1, d1, ds1, p1, q1, rfl, rfl, rfl, h1, r1⟩ := trodAll_cons r0
  obtain ⟨v2, vs2, d2, ds2, p2, q2, rfl, rfl, rfl, h2, r2⟩ := trodAll_cons r1
  obtain ⟨rfl, rfl, rfl⟩ := trodAll_nil r2
  obtain rfl : args = #[v0, v1, v2] := by cases args; simp_all
  obtain ⟨rfl, rfl⟩ := trodVars_none hV
  have k0 := h0
  have lt0 : ∀ x ∈ p0, x.block < W.heap.size := by obtain ⟨m, hm⟩ := k0; exact DataW.trod_lt m _ _ _ hm
  have k1 := h1
  have lt1 : ∀ x ∈ p1, x.block < W.heap.size := by obtain ⟨m, hm⟩ := k1; exact DataW.trod_lt m _ _ _ hm
  have k2 := h2
  have lt2 : ∀ x ∈ p2, x.block < W.heap.size := by obtain ⟨m, hm⟩ := k2; exact DataW.trod_lt m _ _ _ hm
  obtain ⟨a0, rfl, rfl, rfl, w0⟩ := open_string Try.underlying9 (hval 0 9 v0 rfl rfl) h0
  obtain ⟨a1, n1, c1, rfl⟩ := okWide_slice Try.underlying22 (hval 1 22 v1 rfl rfl)
  obtain ⟨l1, I1⟩ : ∃ l : List Int, Bas.Ints .i64 W a1 n1 c1 l := by
    obtain ⟨fuel, hf⟩ := h1
    rcases open_ints Try.underlying22 Try.underlying3 (by kernel_rfl) hf with ⟨hcs, _⟩ | ⟨x, l, c, zs, hcs, _, hl, hm, hz, _, hcell, hwz⟩
    · simp [Value.cells] at hcs
      obtain ⟨rfl, rfl, rfl⟩ := hcs
      exact ⟨[], Bas.row_nil _ _ _, rfl, by unfold maxLen; omega, by simp, fun _ => rfl⟩
    · simp [Value.cells] at hcs
      obtain ⟨rfl, rfl, rfl⟩ := hcs
      have hz' : zs.length = c1 := by simpa using hz
      exact ⟨zs.take n1, Bas.row_of _ _ _ _ _ (by omega) hcell, by simp; omega, by omega, fun n hn => hwz n (List.mem_of_mem_take hn), fun h => by cases h⟩
  obtain ⟨a2, n2, c2, rfl⟩ := okWide_slice Try.underlying22 (hval 2 22 v2 rfl rfl)
  obtain ⟨l2, I2⟩ : ∃ l : List Int, Bas.Ints .i64 W a2 n2 c2 l := by
    obtain ⟨fuel, hf⟩ := h2
    rcases open_ints Try.underlying22 Try.underlying3 (by kernel_rfl) hf with ⟨hcs, _⟩ | ⟨x, l, c, zs, hcs, _, hl, hm, hz, _, hcell, hwz⟩
    · simp [Value.cells] at hcs
      obtain ⟨rfl, rfl, rfl⟩ := hcs
      exact ⟨[], Bas.row_nil _ _ _, rfl, by unfold maxLen; omega, by simp, fun _ => rfl⟩
    · simp [Value.cells] at hcs
      obtain ⟨rfl, rfl, rfl⟩ := hcs
      have hz' : zs.length = c2 := by simpa using hz
      exact ⟨zs.take n2, Bas.row_of _ _ _ _ _ (by omega) hcell, by simp; omega, by omega, fun n hn => hwz n (List.mem_of_mem_take hn), fun h => by cases h⟩
  refine (walk W a0 w0 a1 n1 c1 l1 I1 a2 n2 c2 l2 I2).mono fun e W' ⟨he, bel⟩ => ?_
  subst he
  exact ⟨_, rfl, _, _, _, [], _, [], hW', trodAll_mk1 (shut_bool Try.underlying4 _), (trodAll_cons_mk (Below.trod Bas.laidOut (by kernel_rfl) (of_decide_eq_true (by kernel_rfl)) k0 bel lt0) (trodAll_cons_mk (Below.trod Bas.laidOut (by kernel_rfl) (of_decide_eq_true (by kernel_rfl)) k1 bel lt1) (trodAll_cons_mk (Below.trod Bas.laidOut (by kernel_rfl) (of_decide_eq_true (by kernel_rfl)) k2 bel lt2) trodAll_mk0))), rfl, bel.frame _, fun h => by cases h⟩

theorem over : Rows.punyReadsRow.holds Try.pinned (OpenSpec.ofChange Rows.punyReadsSpec) :=
  OpenClaim.holds_of_wide 3 Try.f3 rfl rfl rfl rfl rfl rfl rfl ⟨rfl, rfl, rfl, rfl, rfl⟩ rfl rfl rfl rfl rfl (by kernel_rfl) Try.func3 (by kernel_rfl)
    (of_decide_eq_true (by kernel_rfl)) (by unfold Func.isWrapper; first | (rw [if_pos (by decide +kernel)]; kernel_rfl) | (rw [if_neg (by decide +kernel)]; exact ⟨rfl, rfl⟩))
    (fun os started H enc _ => lifted os started H enc)
end Go.Proofs.Ytemgbmacdpnepaa.punyReads
namespace Go.Proofs.Ytemgbmacdpnepaa
/-- The statement. -/
theorem punyReads_proved : Rows.PunyReadsSaid := punyReads.over
end Go.Proofs.Ytemgbmacdpnepaa
