/-
  Proved: four bytes alone denote their number, if that is a scalar, and else nothing; in either order. No condition.
-/
import Derived.Test.YtafigcmiibemeaaU32Byt
import Derived.Test.YtafigcmiibemeaaU32Awk
import Derived.Test.YtafigcmiibemeaaU32Grt
import Derived.Test.YtafigcmiibemeaaPair
namespace Go.Proofs.Ytafigcmiibemeaa
open Go.ChangeShapes Go.WideShapes Go.ChangeAt Go.RowKit
namespace uni32Words
open Bas Sca Stp Scn Cod U32
set_option linter.unusedVariables false

set_option maxHeartbeats 8000000 in
set_option maxRecDepth 100000 in
theorem walk (w : World) (c : Int) (hwf : (Lit.int .u32 c).wf = true) (π : Bool) :
    Calls Try.prog 8 #[.int .u32 c, .bool π] w fun e w' => e = .returned (.bool true) ∧ Below w.heap.size w w' := by
  have hc : 0 ≤ c ∧ c < 4294967296 := by
    have e1 : IntKind.u32.min = 0 := rfl
    have e2 : IntKind.u32.max = 4294967295 := rfl
    simp only [Lit.wf, e1, e2, Bool.and_eq_true, decide_eq_true_eq] at hwf
    omega
  have HC : Hid (0 ≤ c ∧ c < 4294967296) := hc
  clear hc hwf
  go_enter Try.func8, Try.ntmps8
  go_wp2_with fail
  refine (awake_any _).mono ?_
  rintro e w1 ⟨rfl, b1⟩
  have HB1 : Hid (Below w.heap.size w w1) := b1
  clear b1
  go_wp2_with fail
  refine (newD_any π _ rfl).mono ?_
  rintro e w2 ⟨rfl, D2, z2, B2⟩
  obtain ⟨N, hN⟩ : ∃ N, N = w1.heap.size := ⟨_, rfl⟩
  have HN : Hid (w.heap.size ≤ N) := by show w.heap.size ≤ N; rw [hN]; exact HB1.out.size
  rw [← hN] at D2 z2 B2 ⊢
  have HD2 : Hid (DecV π w2 N 0 0 false (st0 π) [] (.slice none 0 0) (.slice none 0 0) ∧ Below w.heap.size w w2) := ⟨D2, HB1.out.trans (B2.mono HN.out)⟩
  clear hN D2 z2 B2 HB1
  go_wp2_with fail
  have hB7 := (Below.refl w2.heap.size w2).alloc (Nat.le_refl _) (.cells #[.int .u32 c] 46)
  refine (rBytes_all (π := π) _ 1 1 [c] _ (by exact row_new .u32 _ [c] _ _ (by simp)) rfl (by omega) (by intro x hx; simp at hx; subst hx; exact HC.out)).mono ?_
  rintro e w3 ⟨rfl, b3⟩
  have hB3 := below_two hB7 b3
  have HD3 : Hid (DecV π w3 N 0 0 false (st0 π) [] (.slice none 0 0) (.slice none 0 0) ∧ Below w.heap.size w w3) := ⟨HD2.out.1.below hB3, below_two HD2.out.2 hB3⟩
  rw [show bytesOf (oneN π) [c] = oneN π c from bytesOf_one _ _]
  obtain ⟨s, hs⟩ : ∃ s, Stp.strOf (oneN π c) = s := ⟨_, rfl⟩
  have hsz : s.size = 4 := by rw [← hs, strOf_size, oneN_length]
  have hsb : bytesL s = oneN π c := by rw [← hs]; exact bytesL_strOf _ (oneN_byte' π c HC.out.1 HC.out.2)
  rw [hs]
  obtain ⟨X, hX⟩ : ∃ X, X = scan (stepU π) (st0 π) (bytesL s) := ⟨_, rfl⟩
  have HX : Hid (X = scan (stepU π) (st0 π) (bytesL s) ∧ bytesL s = oneN π c) := ⟨hX, hsb⟩
  clear hX hs hsb hB7 hB3 b3 HD2
  go_wp2_with fail
  refine (read_any N _ _ s none none 0 0 0 0 [] [] X w3 HD3.out.1 HX.out.1 (ints_none _ _) (ints_none _ _) (fun b' o' h0 e h => by omega) (fun b' o' h0 e h => by omega) (by omega) (by omega) (by omega)).mono ?_
  rintro e w4 ⟨vo, rfl, v4, u4, s4, f4, D4, C4⟩
  have HB4 : Hid (Below w.heap.size w w4) := HD3.out.2.trans (C4.below HD3.out.2.size (fun k j hk h => by have := footD_nil h; have := HN.out; omega))
  have HD4 : Hid (BaseAt w4 N 0 X.eaten (endQ X) (endE X) ∧ Seg .u32 w4 vo X.told) := ⟨D4.base, s4⟩
  clear s4 f4 D4 C4 HD3
  by_cases hb : isB c = true
  · have hsc := scan_one π c HC.out.1 hb []
    have hXX : X = ⟨[c], 4, [], false⟩ := by
      rw [HX.out.1, HX.out.2]
      show scan (stepU π) [] (oneN π c) = _
      rw [List.append_nil] at hsc
      rw [hsc, oneN_length]; rfl
    have hD := HD4.out
    rw [hXX] at hD
    obtain ⟨ao, co, hvo, hro, -⟩ := hD.2.form
    rw [show ([c] : List Int).length = 1 from rfl] at hvo
    subst hvo
    have hD1 : BaseAt w4 N 0 4 0 true := hD.1
    have HD5 : Hid (BaseAt w4 N 0 4 0 true ∧ Row .u32 w4 ao [c]) := ⟨hD1, hro⟩
    have HI : Hid (isB c = true) := hb
    clear hsc hXX hD hro hb hD1 HD4 HX
    go_wp2_with fail
    refine (rIs_any c w4).mono ?_
    rintro e w5 ⟨rfl, rfl⟩
    rw [HI.out]
    go_wp2_with fail
    have hB9 : Below w5.heap.size w5 (w5.alloc (.cells #[.int .u32 c] 46)) := (Below.refl _ _).alloc (Nat.le_refl _) _
    refine (rSame_any ao _ 1 1 co 1 [c] [c] _ (HD5.out.2.mono hB9) (by exact row_new .u32 w5 [c] _ _ rfl) rfl rfl (by decide) (by decide)).mono ?_
    rintro e w10 ⟨rfl, nd, rfl⟩
    rw [cmpL_self, show ((0 : Int) == 0) = true from rfl]
    have HD10 : Hid (BaseAt ((w5.alloc (.cells #[.int .u32 c] 46)).drewN nd) N 0 4 0 true ∧ Below w.heap.size w ((w5.alloc (.cells #[.int .u32 c] 46)).drewN nd)) := ⟨HD5.out.1.below (below_drewN hB9 nd), below_two HB4.out (below_drewN hB9 nd)⟩
    generalize (w5.alloc (.cells #[.int .u32 c] 46)).drewN nd = w10 at *
    clear hB9 HD5
    go_wp2_with fail
    refine (fail_any N 0 4 0 true w10 HD10.out.1).mono ?_
    rintro e w11 ⟨rfl, b11⟩
    rw [show failAt 4 0 = 0 from rfl]
    go_wp2
    go_ret
    exact ⟨rfl, below_two HD10.out.2 b11⟩
  · have hb' : isB c = false := by simpa using hb
    obtain ⟨ht, hbd⟩ := scan_none4 π c hb'
    have hX2 : X = scan (stepU π) [] (oneN π c) := by rw [HX.out.1, HX.out.2]; rfl
    rw [← hX2] at ht hbd
    have hD := HD4.out
    rw [ht, show endQ X = 3 by unfold endQ; rw [if_pos hbd]] at hD
    obtain ⟨ao, co, hvo, hro, -⟩ := hD.2.form
    rw [show ([] : List Int).length = 0 from rfl] at hvo
    subst hvo
    obtain ⟨en, hen⟩ : ∃ en, endE X = en := ⟨_, rfl⟩
    obtain ⟨E, hE⟩ : ∃ E, X.eaten = E := ⟨_, rfl⟩
    rw [hen, hE] at hD
    have HD5 : Hid (BaseAt w4 N 0 E 3 en) := hD.1
    have HI : Hid (isB c = false) := hb'
    clear ht hbd hX2 hD hro hen hE hb hb' HD4 HX
    go_wp2_with fail
    refine (rIs_any c w4).mono ?_
    rintro e w5 ⟨rfl, rfl⟩
    rw [HI.out]
    go_wp2_with fail
    refine (fail_any N 0 E 3 en w5 HD5.out).mono ?_
    rintro e w11 ⟨rfl, b11⟩
    have hfl := fld 3 (failAt E 3)
    go_wp2
    go_ret
    exact ⟨rfl, below_two HB4.out b11⟩
set_option maxRecDepth 100000 in
theorem lifted (os : Os) (started : os.Started) (H : Type) (enc : TypeId × Value → H) :
    ReturnsInHanded {} Try.checked os 8 .any (Rows.uni32WordsSpec.pre6 enc Try.prog Try.f8 Rows.uni32WordsRow.domain false) (Rows.uni32WordsSpec.post enc Try.prog Try.f8 false true false false) := by
  refine returnsInHanded_of_change (C := Try.checked) Bas.own started (by kernel_rfl) Try.func8
    (ChangeSpec.witness6 (enc := enc) (C := Try.checked) false ⟨#[], #[.int .u32 0, .bool false], []⟩ 8 (by kernel_rfl) (by kernel_rfl) (by kernel_rfl) (by kernel_rfl)) ?_
  intro W base args ds gs before hval0 hW hcnd _
  have hval : ∀ (j : Nat) t v, Try.f8.params[j]? = some t → args[j]? = some v → Value.okWide Try.prog W .any base t v := hval0
  have hW' := hW
  obtain ⟨p, q, hA0, hV, rfl, hfz, hnd⟩ := hW
  have hA : DataW.TrodAll enc Try.prog W 0 (fun _ => true) true Try.f8.params.toList args.toList ds p := hA0
  rw [Try.params8] at hA hval
  obtain ⟨v0, vs0, d0, ds0, p0, q0, hargs, rfl, rfl, h0, r0⟩ := trodAll_cons hA
  obtain ⟨v1, vs1, d1, ds1, p1, q1, rfl, rfl, rfl, h1, r1⟩ := trodAll_cons r0
  obtain ⟨rfl, rfl, rfl⟩ := trodAll_nil r1
  obtain rfl : args = #[v0, v1] := by cases args; simp_all
  obtain ⟨rfl, rfl⟩ := trodVars_none hV
  have k0 := h0
  have lt0 : ∀ x ∈ p0, x.block < W.heap.size := by obtain ⟨m, hm⟩ := k0; exact DataW.trod_lt m _ _ _ hm
  have k1 := h1
  have lt1 : ∀ x ∈ p1, x.block < W.heap.size := by obtain ⟨m, hm⟩ := k1; exact DataW.trod_lt m _ _ _ hm
  obtain ⟨a0, rfl, rfl, rfl, w0⟩ := open_int Try.underlying46 (hval 0 46 v0 rfl rfl) h0
  obtain ⟨a1, rfl, rfl, rfl⟩ := open_bool Try.underlying4 (hval 1 4 v1 rfl rfl) h1
  refine (walk W a0 w0 a1).mono fun e W' ⟨he, bel⟩ => ?_
  subst he
  exact ⟨_, rfl, _, _, _, [], _, [], hW', trodAll_mk1 (shut_bool Try.underlying4 _), (trodAll_cons_mk (Below.trod Bas.laidOut (by kernel_rfl) (of_decide_eq_true (by kernel_rfl)) k0 bel lt0) (trodAll_cons_mk (Below.trod Bas.laidOut (by kernel_rfl) (of_decide_eq_true (by kernel_rfl)) k1 bel lt1) trodAll_mk0)), rfl, bel.frame _, fun h => by cases h⟩

theorem over : Rows.uni32WordsRow.holds Try.pinned (OpenSpec.ofChange Rows.uni32WordsSpec) :=
  OpenClaim.holds_of_wide 8 Try.f8 rfl rfl rfl rfl rfl rfl rfl ⟨rfl, rfl, rfl, rfl, rfl⟩ rfl rfl rfl rfl rfl (by kernel_rfl) Try.func8 (by kernel_rfl)
    (of_decide_eq_true (by kernel_rfl)) (by unfold Func.isWrapper; first | (rw [if_pos (by decide +kernel)]; kernel_rfl) | (rw [if_neg (by decide +kernel)]; exact ⟨rfl, rfl⟩))
    (fun os started H enc _ => lifted os started H enc)
end Go.Proofs.Ytafigcmiibemeaa.uni32Words
namespace Go.Proofs.Ytafigcmiibemeaa
/-- The statement. -/
theorem uni32Words_proved : Rows.Uni32WordsSaid := uni32Words.over
end Go.Proofs.Ytafigcmiibemeaa
