/-
  Proved: what is eaten ahead of an error, or an end, is the beginning of a text that denotes something, whose first scalars are those that were told; with the byte that is wrong it isn't. No condition.
-/
import Derived.Test.YtohobpjiikpdmaaDoorEXExt
import Derived.Test.YtohobpjiikpdmaaDoorEXAwk
import Derived.Test.YtohobpjiikpdmaaDoorEXGrt
import Derived.Test.YtohobpjiikpdmaaDoorEXTab
import Derived.Test.YtohobpjiikpdmaaDoorPair
import Derived.Deep.RegionHeld3
namespace Go.Proofs.YtohobpjiikpdmaaDoor
open Go.ChangeShapes Go.WideShapes Go.ChangeAt Go.RowKit
open Go.ChangeMaps (open_string shut_string)
namespace expandExtends
open Bas Sca Stp Scn Cod EX
set_option linter.unusedVariables false

/-- What was eaten, and with bytes that make it whole. -/
theorem ext_ok (π : Par) (s : ByteArray) (X : Res St) (hX : X = scan (stepU π) (st0 π) (bytesL s)) :
    (⟨X.told, X.eaten, X.st, false⟩ : Res St) = scan (stepU π) (st0 π) (bytesL (s.extract 0 X.eaten)) := by
  rw [bytesL_take, hX]; exact (scan_take (stepU π) (bytesL s) (st0 π)).symm
theorem ext_fine (π : Par) (s r : ByteArray) (X : Res St) (hX : X = scan (stepU π) (st0 π) (bytesL s)) (hr : Fine π X.st (bytesL r)) (Y : Res St) (hY : Y = scan (stepU π) (st0 π) (bytesL (s.extract 0 X.eaten ++ r))) :
    (∃ m, Y.told = X.told ++ m) ∧ endQ Y = 0 ∧ endE Y = true := by
  rw [bytesL_append, scan_append, ← ext_ok π s X hX] at hY
  simp only [Bool.false_eq_true, if_false] at hY
  obtain ⟨h1, h2⟩ := hr
  have h3 : Y.bad = false ∧ rest Y.st = true := by rw [hY]; exact ⟨h1, h2⟩
  refine ⟨⟨(scan (stepU π) X.st (bytesL r)).told, by rw [hY]; rfl⟩, ?_, ?_⟩
  · simp [endQ, h3.1, h3.2]
  · simp [endE, h3.1, h3.2]
theorem ext_bad (π : Par) (s more : ByteArray) (X : Res St) (hX : X = scan (stepU π) (st0 π) (bytesL s)) (hb : X.bad = true) : X = scan (stepU π) (st0 π) (bytesL (s.extract 0 (X.eaten + 1) ++ more)) ∧ X.eaten < s.size := by
  refine ⟨?_, ?_⟩
  · rw [bytesL_append, bytesL_take, hX, scan_wrong (stepU π) _ _ _ (by rw [← hX]; exact hb)]
  · rw [hX, ← bytesL_length]; exact scan_lt (stepU π) _ _ (by rw [← hX]; exact hb)
theorem size_app (s t : ByteArray) : (s ++ t).size = s.size + t.size := by rw [← bytesL_length, bytesL_append, List.length_append, bytesL_length, bytesL_length]
theorem size_ext (s : ByteArray) (k : Nat) : (s.extract 0 k).size ≤ s.size := by rw [← bytesL_length, bytesL_take, List.length_take, bytesL_length]; omega
theorem failQ (N m : Nat) (q fa : Int) (en : Bool) (w : World) (h : BaseAt w N 0 m q en) (hf : failAt (m : Int) q = fa) :
    Calls Tryd.prog 15 #[.pointer (some ⟨N, 0, none⟩)] w fun e w' => e = .returned (.agg #[.int .i64 q, .int .i64 fa]) ∧ Below w.heap.size w w' := by
  subst hf
  exact fail_any N 0 m q en w h

set_option maxHeartbeats 8000000 in
set_option maxRecDepth 100000 in
theorem walk (w : World) (hT : EX.Tabs w) (s : ByteArray) (hwf : s.size ≤ maxLen) (more : ByteArray) (hwf2 : more.size ≤ maxLen) :
    Calls Tryd.prog 4 #[.string s, .string more] w fun e w' => e = .returned (.bool true) ∧ Below w.heap.size w w' := by
  have HT : Hid (EX.Tabs w) := hT
  obtain ⟨π, -⟩ : ∃ π : Par, π = π := ⟨(), rfl⟩
  clear hwf hwf2 hT
  go_enter Tryd.func4, Tryd.ntmps4
  go_wp2_with fail
  refine (awake_any w (HT.out.below (Below.refl _ _))).mono ?_
  rintro e w1 ⟨rfl, b1⟩
  have HB1 : Hid (Below w.heap.size w w1) := b1
  clear b1
  go_wp2_with fail
  refine (great_any _ none none 0 0 0 0 w1).mono ?_
  rintro e w1' ⟨rfl, rfl⟩
  obtain ⟨g, hg⟩ : ∃ g, (decide ((s.size : Int) > 400) || (decide (0 > 200) || decide (0 > 200))) = g := ⟨_, rfl⟩
  rw [hg]
  cases g with
  | true =>
    clear hg
    go_wp2_with fail
    refine (awake_any _ (HT.out.below HB1.out)).mono ?_
    rintro e w2 ⟨rfl, b2⟩
    go_wp2
    go_ret
    exact ⟨rfl, below_two HB1.out b2⟩
  | false =>
  obtain ⟨h400, -, -⟩ := great_no hg
  clear hg
  by_cases hmo : (more.size : Int) > 100
  · go_wp2_with fail
    refine (awake_any _ (HT.out.below HB1.out)).mono ?_
    rintro e w2 ⟨rfl, b2⟩
    go_wp2
    go_ret
    exact ⟨rfl, below_two HB1.out b2⟩
  obtain ⟨X, hX⟩ : ∃ X, X = scan (stepU π) (st0 π) (bytesL s) := ⟨_, rfl⟩
  have hXt : X.told.length ≤ 400 := by
    rw [hX]; have := scan_short (stepU π) (step_one π) (bytesL s) (st0 π); rw [bytesL_length] at this; omega
  have hXe : X.eaten ≤ s.size := by rw [hX, ← bytesL_length]; exact scan_le (stepU π) _ _
  have HX : Hid (X = scan (stepU π) (st0 π) (bytesL s)) := hX
  clear hX
  go_wp2_with fail
  refine (newD_any π _ rfl (HT.out.below HB1.out)).mono ?_
  rintro e w2 ⟨rfl, D2, z2, B2⟩
  obtain ⟨N, hN⟩ : ∃ N, N = w1'.heap.size := ⟨_, rfl⟩
  have HN : Hid (w.heap.size ≤ N) := by show w.heap.size ≤ N; rw [hN]; exact HB1.out.size
  rw [← hN] at D2 z2 B2 ⊢
  have HB2 : Hid (Below w.heap.size w w2) := HB1.out.trans (B2.mono HN.out)
  clear hN
  go_wp2_with fail
  refine (read_any N _ _ s none none 0 0 0 0 [] [] X w2 D2 HX.out (ints_none _ _) (ints_none _ _) (fun b' o' h0 e h => by omega) (fun b' o' h0 e h => by omega) (by omega) (by omega) (by omega)).mono ?_
  rintro e w3 ⟨vo, rfl, v3, u3, s3, f3, D3, C3⟩
  have HB3 : Hid (Below w.heap.size w w3) := HB2.out.trans (C3.below HB2.out.size (fun k j hk h => by have := footD_nil h; have := HN.out; omega))
  obtain ⟨ao, co, hvo, -⟩ := s3.form
  obtain ⟨tl, htl⟩ : ∃ tl, X.told.length = tl := ⟨_, rfl⟩
  rw [htl] at hvo hXt
  subst hvo
  have HD3 : Hid (BaseAt w3 (N + 1) 0 X.eaten (endQ X) (endE X) ∧ Seg .u32 w3 (.slice ao tl co) X.told ∧ N + 1 < w3.heap.size) := ⟨D3.base, s3, D3.lt⟩
  have HTL : Hid (X.told.length = tl) := htl
  clear D2 z2 B2 s3 f3 D3 C3 HB2 htl
  go_wp2_with fail
  refine (at_any (N + 1) 0 _ (endQ X) (endE X) w3 HD3.out.1).mono ?_
  rintro e w4 ⟨rfl, rfl⟩
  obtain ⟨E, hE⟩ : ∃ E, X.eaten = E := ⟨_, rfl⟩
  have hsE : (E : Int) ≤ (s.size : Int) := by omega
  have hsE' : ¬ (E : Int) > (s.size : Int) := by omega
  have hsE2 : ¬ (E : Int) < 0 := by omega
  have hR := ext_ok π s X HX.out
  rw [hE] at hR HD3 ⊢
  have HR : Hid ((⟨X.told, E, X.st, false⟩ : Res St) = scan (stepU π) (st0 π) (bytesL (s.extract 0 E))) := hR
  have HE : Hid (X.eaten = E) := hE
  clear hR hE hXe
  go_wp2_with fail
  refine (newD_any π _ rfl (HT.out.below HB3.out)).mono ?_
  rintro e w5 ⟨rfl, D5, z5, B5⟩
  obtain ⟨M, hM⟩ : ∃ M, M = w4.heap.size := ⟨_, rfl⟩
  have B5' : Below w4.heap.size w4 w5 := by rw [← hM] at B5 ⊢; exact B5
  have HM : Hid (w.heap.size ≤ M ∧ M = w4.heap.size ∧ N + 1 < M) := ⟨by rw [hM]; exact HB3.out.size, hM, by rw [hM]; exact HD3.out.2.2⟩
  rw [← hM] at D5 z5 B5 ⊢
  have HB5 : Hid (Below w.heap.size w w5) := HB3.out.trans (B5.mono HM.out.1)
  have HD5 : Hid (BaseAt w5 (N + 1) 0 E (endQ X) (endE X) ∧ Seg .u32 w5 (.slice ao tl co) X.told ∧ DecV π w5 M 0 0 false (st0 π) [] (.slice none 0 0) (.slice none 0 0)) := ⟨HD3.out.1.below B5', HD3.out.2.1.chg (chg_of_below B5' (Nat.le_refl _) (fun _ _ => False)) (fun _ _ _ h => h), D5⟩
  have HMO : Hid (M = w4.heap.size ∧ Seg .u32 w4 (.slice ao tl co) X.told) := ⟨hM, HD3.out.2.1⟩
  clear hM D5 z5 B5 B5' HD3 HB3
  have HFN : Hid (∀ r, Fine π X.st (bytesL r) → ∀ Y, Y = scan (stepU π) (st0 π) (bytesL (s.extract 0 E ++ r)) → (∃ m, Y.told = X.told ++ m) ∧ endQ Y = 0 ∧ endE Y = true) := fun r hr Y hY => ext_fine π s r X HX.out hr Y (by rw [HE.out]; exact hY)
  have hs1 := size_ext s E
  go_upto_region 9 with fail
  have hbd : Below w5.heap.size w5 w5.drew := (Below.refl _ _).drew
  have D6 : DecV π w5.drew M 0 0 false (st0 π) [] (.slice none 0 0) (.slice none 0 0) := HD5.out.2.2.below hbd
  have A6 : BaseAt w5.drew (N + 1) 0 E (endQ X) (endE X) := HD5.out.1.below hbd
  have S6 : Seg .u32 w5.drew (.slice ao tl co) X.told := HD5.out.2.1.chg (chg_of_below hbd (Nat.le_refl _) (fun _ _ => False)) (fun _ _ _ h => h)
  have B6 : Below w.heap.size w w5.drew := below_two HB5.out hbd
  clear hbd
  go_region_held3 (fun w' => True) (exact trivial) (first
    | (go_at_call 18; refine (rRest_any (π := π) (s.extract 0 E) ⟨X.told, E, X.st, false⟩ _ HR.out rfl ?_).mono ?_; omega; rintro e w6 ⟨r, rfl, hfn, hrs, b6⟩; have hsum : ¬ 9223372036854775807 < (s.extract 0 E).size + r.size := (by omega); have hsum2 : ¬ 9223372036854775807 < min E s.size + r.size := (by omega); have hsum3 : ¬ 9223372036854775807 < E + r.size := (by omega); have D6 := D6.below b6; have A6 := A6.below b6; have S6 := S6.chg (chg_of_below b6 (Nat.le_refl _) (fun _ _ => False)) (fun _ _ _ h => h); have B6 := below_two B6 b6; clear b6)
    | (go_at_call 12; refine (read_any (π := π) M (.slice none 0 0) (.slice none 0 0) (s.extract 0 E ++ r) none none 0 0 0 0 [] [] (scan (stepU π) (st0 π) (bytesL (s.extract 0 E ++ r))) _ ?_ rfl (ints_none _ _) (ints_none _ _) (fun b' o' h0 e h => by omega) (fun b' o' h0 e h => by omega) (by omega) (by omega) ?_).mono ?_; exact D6; (rw [size_app]; omega); rintro e w7 ⟨vo, rfl, v7, u7, s7, f7, D7, C7⟩))
  obtain ⟨Y, hYY⟩ : ∃ Y, Y = scan (stepU π) (st0 π) (bytesL (s.extract 0 E ++ r)) := ⟨_, rfl⟩
  rw [← hYY] at s7 D7
  obtain ⟨⟨m, hYm⟩, hYq, hYe⟩ := HFN.out r hfn Y hYY
  have HY : Hid (Y.told = X.told ++ m ∧ endQ Y = 0 ∧ endE Y = true) := ⟨hYm, hYq, hYe⟩
  clear hYY hYm hYq hYe
  have A7 := A6.chg C7 (fun k j hk h => by have := hk.1; have := footD_nil h; have := HM.out.2.2; omega)
  have S7 := S6.chg C7 (fun g o hg h => by have := HMO.out.2.lt hg; have := footD_nil h; have := HMO.out.1; omega)
  have B7 : Below w.heap.size w w7 := B6.trans (C7.below B6.size (fun k j hk h => by have := footD_nil h; have := HM.out.1; omega))
  obtain ⟨a7, c7, hv7, r7, -, hc7, -, -⟩ := s7.form
  obtain ⟨yl, hyl⟩ : ∃ yl, Y.told.length = yl := ⟨_, rfl⟩
  have hyl2 : tl ≤ yl := by rw [← hyl, HY.out.1, List.length_append, HTL.out]; omega
  rw [hyl] at hv7 hc7
  subst hv7
  have hcc : (tl : Int) ≤ (c7 : Int) := by omega
  have hnl : ¬ (yl : Int) < (tl : Int) := by omega
  have D7b := D7.base
  rw [HY.out.2.1, HY.out.2.2] at D7b
  have r7' : Row .u32 w7 a7 X.told := by
    have := (s7.takeO (f := tl) (by omega)).form
    obtain ⟨a8, c8, e8, r8, -⟩ := this
    simp only [Value.slice.injEq] at e8
    rw [← e8.1, HY.out.1] at r8
    have e : (X.told ++ m).take tl = X.told := by rw [← HTL.out]; simp
    rwa [e] at r8
  have HD7 : Hid (BaseAt w7 (M + 1) 0 Y.eaten 0 true ∧ BaseAt w7 (N + 1) 0 E (endQ X) (endE X) ∧ Row .u32 w7 a7 X.told ∧ Row .u32 w7 ao X.told ∧ Below w.heap.size w w7) := ⟨D7b, A7, r7', (seg_row S7).1, B7⟩
  clear D6 A6 S6 B6
  clear D6 A6 S6 B6
  clear s7 f7 D7 C7 A7 S7 B7 r7 r7' D7b HD5 HB5 HY HFN HR hs1 hsum hsum2 hsum3 hyl hyl2 hfn hrs
  go_wp2_with fail
  refine (failQ (M + 1) _ 0 0 true w7 HD7.out.1 rfl).mono ?_
  rintro e w8 ⟨rfl, b8⟩
  have HD8 : Hid (BaseAt w8 (N + 1) 0 E (endQ X) (endE X) ∧ Row .u32 w8 a7 X.told ∧ Row .u32 w8 ao X.told ∧ Below w.heap.size w w8) := ⟨HD7.out.2.1.below b8, HD7.out.2.2.1.mono b8, HD7.out.2.2.2.1.mono b8, below_two HD7.out.2.2.2.2 b8⟩
  clear b8 HD7
  go_wp2_with fail
  refine (rSame_any a7 ao tl tl c7 co X.told X.told w8 HD8.out.2.1 HD8.out.2.2.1 HTL.out HTL.out (by unfold maxLen; omega) (by unfold maxLen; omega)).mono ?_
  rintro e w9 ⟨rfl, nd, rfl⟩
  rw [cmpL_self, show ((0 : Int) == 0) = true from rfl]
  have HD9 : Hid (BaseAt (w8.drewN nd) (N + 1) 0 E (endQ X) (endE X) ∧ Below w.heap.size w (w8.drewN nd)) := ⟨HD8.out.1.below (below_dn _ _), below_two HD8.out.2.2.2 (below_dn _ _)⟩
  generalize w8.drewN nd = w9 at *
  clear HD8
  obtain ⟨en, hen⟩ : ∃ en, endE X = en := ⟨_, rfl⟩
  rw [hen] at HD9
  by_cases hb : X.bad = true
  · have hq : endQ X = 3 := by unfold endQ; rw [if_pos hb]
    obtain ⟨hZ, hlt⟩ := ext_bad π s more X HX.out hb
    rw [HE.out] at hZ hlt
    rw [hq] at HD9
    have HZ : Hid (X = scan (stepU π) (st0 π) (bytesL (s.extract 0 (E + 1) ++ more)) ∧ endQ X = 3) := ⟨hZ, hq⟩
    clear hen hb hZ hq
    go_wp2_with fail
    refine (failQ (N + 1) E 3 E en w9 HD9.out.1 rfl).mono ?_
    rintro e w10 ⟨rfl, b10⟩
    have HD10 : Hid (BaseAt w10 (N + 1) 0 E 3 en ∧ Below w.heap.size w w10) := ⟨HD9.out.1.below b10, below_two HD9.out.2 b10⟩
    have hfl := fld 3 (E : Int)
    clear b10 HD9
    go_wp2_with fail
    refine (newD_any π _ rfl (HT.out.below HD10.out.2)).mono ?_
    rintro e w11 ⟨rfl, D11, z11, B11⟩
    obtain ⟨K, hK⟩ : ∃ K, K = w10.heap.size := ⟨_, rfl⟩
    have B11' : Below w10.heap.size w10 w11 := by rw [← hK] at B11 ⊢; exact B11
    have HK : Hid (w.heap.size ≤ K ∧ N + 1 < K) := ⟨by rw [hK]; exact HD10.out.2.size, by rw [hK]; exact HD10.out.1.lt⟩
    rw [← hK] at D11 z11 B11 ⊢
    have HD11 : Hid (BaseAt w11 (N + 1) 0 E 3 en ∧ DecV π w11 K 0 0 false (st0 π) [] (.slice none 0 0) (.slice none 0 0) ∧ Below w.heap.size w w11) := ⟨HD10.out.1.below B11', D11, below_two HD10.out.2 B11'⟩
    clear hK D11 z11 B11 B11' HD10
    have hw1 : IntKind.i64.wrap ((E : Int) + 1) = ((E + 1 : Nat) : Int) := by rw [wrap_i64s _ (by omega) (by omega)]; omega
    have hmin : min ((E + 1 : Nat) : Int) (s.size : Int) = ((E + 1 : Nat) : Int) := by omega
    have hle1 : ((E + 1 : Nat) : Int) ≤ (s.size : Int) := by omega
    have hz1 := size_ext s (E + 1)
    have hsum : ¬ 9223372036854775807 < (s.extract 0 (E + 1)).size + more.size := by omega
    have hsum2 : ¬ 9223372036854775807 < min (E + 1) s.size + more.size := by omega
    have hsum3 : ¬ 9223372036854775807 < E + 1 + more.size := by omega
    go_wp2_with fail
    have hmt : (min ((E : Int) + 1) (s.size : Int)).toNat = E + 1 := by omega
    try rw [hmt]
    refine (read_any K _ _ (s.extract 0 (E + 1) ++ more) none none 0 0 0 0 [] [] X w11 HD11.out.2.1 HZ.out.1 (ints_none _ _) (ints_none _ _) (fun b' o' h0 e h => by omega) (fun b' o' h0 e h => by omega) (by omega) (by omega) (by rw [size_app]; omega)).mono ?_
    rintro e w12 ⟨vo, rfl, v12, u12, s12, f12, D12, C12⟩
    have D12b := D12.base
    rw [HE.out, HZ.out.2] at D12b
    have HD12 : Hid (BaseAt w12 (K + 1) 0 E 3 (endE X) ∧ BaseAt w12 (N + 1) 0 E 3 en ∧ Below w.heap.size w w12) := ⟨D12b, HD11.out.1.chg C12 (fun k j hk h => by have := hk.1; have := footD_nil h; have := HK.out.2; omega), HD11.out.2.2.trans (C12.below HD11.out.2.2.size (fun k j hk h => by have := footD_nil h; have := HK.out.1; omega))⟩
    clear D12b s12 f12 D12 C12 HD11 hmt hw1 hmin hle1 hz1 hsum hsum2 hsum3
    obtain ⟨en2, hen2⟩ : ∃ en2, endE X = en2 := ⟨_, rfl⟩
    rw [hen2] at HD12
    clear hen2
    go_upto_region 16 with fail
    obtain ⟨K1, hK1⟩ : ∃ K1, K + 1 = K1 := ⟨_, rfl⟩
    obtain ⟨N1, hN1⟩ : ∃ N1, N + 1 = N1 := ⟨_, rfl⟩
    rw [hK1, hN1] at HD12
    rw [hK1, hN1]
    clear hK1 hN1
    have hbd : Below w12.heap.size w12 w12.drew := (Below.refl _ _).drew
    have A13 : BaseAt w12.drew K1 0 E 3 en2 := HD12.out.1.below hbd
    have G13 : BaseAt w12.drew N1 0 E 3 en := HD12.out.2.1.below hbd
    have B13 : Below w.heap.size w w12.drew := below_two HD12.out.2.2 hbd
    clear hbd
    go_region_held3 (fun w' => True) (exact trivial) (first
      | (go_at_call_of 15 (Value.pointer (some (Addr.mk K1 0 none))); refine (failQ K1 E 3 E en2 _ ?_ rfl).mono ?_; exact A13; rintro e w13 ⟨rfl, b13⟩; have A13 := A13.below b13; have G13 := G13.below b13; have B13 := below_two B13 b13; clear b13)
      | (go_at_call_of 15 (Value.pointer (some (Addr.mk N1 0 none))); refine (failQ N1 E 3 E en _ ?_ rfl).mono ?_; exact G13; rintro e w13 ⟨rfl, b13⟩; have A13 := A13.below b13; have G13 := G13.below b13; have B13 := below_two B13 b13; clear b13))
    all_goals
      go_wp2
      go_ret
      exact ⟨by first | rfl | exact ret_bool (by simp), B13⟩
  · have hq : endQ X ≠ 3 := by unfold endQ; rw [if_neg hb]; split <;> omega
    have hes : E = s.size := by
      rw [← HE.out, HX.out, ← bytesL_length]
      exact scan_all (stepU π) _ _ (by rw [← HX.out]; simpa using hb)
    obtain ⟨q, hqq⟩ : ∃ q, endQ X = q := ⟨_, rfl⟩
    rw [hqq] at hq HD9
    have hq3 : (q == 3) = false := by simp [hq]
    obtain ⟨fa, hfa⟩ : ∃ fa, failAt (E : Int) q = fa := ⟨_, rfl⟩
    clear hqq hen hb hq
    go_wp2_with fail
    refine (failQ (N + 1) E q fa en w9 HD9.out.1 hfa).mono ?_
    rintro e w10 ⟨rfl, b10⟩
    have HB10 : Hid (Below w.heap.size w w10) := below_two HD9.out.2 b10
    have hfl := fld q fa
    clear b10 HD9 hfa
    go_wp2
    go_ret
    exact ⟨rfl, HB10.out⟩
theorem reads (os : Os) {H : Type} (enc : TypeId × Value → H) : ∃ places, DataW.whole enc Tryd.prog ((({ World.holding Tryd.prog os ⟨#[], #[], []⟩ with heap := ((((World.holding Tryd.prog os ⟨#[], #[], []⟩).heap.modify 1 EX.layN).modify 2 EX.layS).modify 0 EX.layZ) } : World)).forCall (fun _ _ => 0) ⟨#[], #[.string ByteArray.empty, .string ByteArray.empty], []⟩).memory Tryd.f4.params.toList Rows.expandExtendsSpec.vars false #[.string ByteArray.empty, .string ByteArray.empty].toList 8 = some ([.lit (.string []), .lit (.string [])], [], places) :=
  ⟨[], by kernel_rfl⟩
set_option maxRecDepth 100000 in
theorem lifted (os : Os) (started : os.Started) (H : Type) (enc : TypeId × Value → H) (Fi : Stop.Interp) :
    ReturnsInHanded {} Tryd.checked os 4 .any ((OpenSpec.ofChange Rows.expandExtendsSpec).preRow enc Tryd.prog Tryd.f4 Rows.expandExtendsRow.domain false Rows.expandExtendsRow.laid) (((OpenSpec.ofChange Rows.expandExtendsSpec).at Fi).post enc Tryd.prog Tryd.f4 false true false false) := by
  obtain ⟨places, hx⟩ := reads os enc
  refine returnsInHanded_of_row (C := Tryd.checked) (s := OpenSpec.ofChange Rows.expandExtendsSpec) Bas.own started (by kernel_rfl) Tryd.func4
    (witness_row_at (enc := enc) (C := Tryd.checked) false (({ World.holding Tryd.prog os ⟨#[], #[], []⟩ with heap := ((((World.holding Tryd.prog os ⟨#[], #[], []⟩).heap.modify 1 EX.layN).modify 2 EX.layS).modify 0 EX.layZ) } : World)) #[.string ByteArray.empty, .string ByteArray.empty] rfl (by kernel_rfl) (by kernel_rfl) (by kernel_rfl)
      (OpenSpec.preRow_of_cond 8 hx (by kernel_rfl) (fun k hk => by cases hk) (by kernel_rfl) (EX.laid_met os _))) ?_
  intro W base args ds gs before hval0 hW _ _ _ hL _ _
  have hval : ∀ (j : Nat) t v, Tryd.f4.params[j]? = some t → args[j]? = some v → Value.okWide Tryd.prog W .any base t v := hval0
  have hW' := hW
  obtain ⟨p, q, hA0, hV, rfl, hfz, hnd⟩ := hW
  have hA : DataW.TrodAll enc Tryd.prog W 0 (fun _ => true) true Tryd.f4.params.toList args.toList ds p := hA0
  rw [Tryd.params4] at hA hval
  obtain ⟨v0, vs0, d0, ds0, p0, q0, hargs, rfl, rfl, h0, r0⟩ := trodAll_cons hA
  obtain ⟨v1, vs1, d1, ds1, p1, q1, rfl, rfl, rfl, h1, r1⟩ := trodAll_cons r0
  obtain ⟨rfl, rfl, rfl⟩ := trodAll_nil r1
  obtain rfl : args = #[v0, v1] := by cases args; simp_all
  obtain ⟨rfl, rfl⟩ := trodVars_none hV
  have k0 := h0
  have lt0 : ∀ x ∈ p0, x.block < W.heap.size := by obtain ⟨m, hm⟩ := k0; exact DataW.trod_lt m _ _ _ hm
  have k1 := h1
  have lt1 : ∀ x ∈ p1, x.block < W.heap.size := by obtain ⟨m, hm⟩ := k1; exact DataW.trod_lt m _ _ _ hm
  obtain ⟨a0, rfl, rfl, rfl, w0⟩ := open_string Tryd.underlying9 (hval 0 9 v0 rfl rfl) h0
  obtain ⟨a1, rfl, rfl, rfl, w1⟩ := open_string Tryd.underlying9 (hval 1 9 v1 rfl rfl) h1
  refine (walk W (EX.tabs_of hL) a0 w0 a1 w1).mono fun e W' ⟨he, bel⟩ => ?_
  subst he
  exact ⟨_, rfl, _, _, _, [], _, [], hW', trodAll_mk1 (shut_bool Tryd.underlying4 _), (trodAll_cons_mk (Below.trod Bas.laidOut (by kernel_rfl) (of_decide_eq_true (by kernel_rfl)) k0 bel lt0) (trodAll_cons_mk (Below.trod Bas.laidOut (by kernel_rfl) (of_decide_eq_true (by kernel_rfl)) k1 bel lt1) trodAll_mk0)), rfl, bel.frame _, fun h => by cases h⟩


theorem over : Rows.expandExtendsRow.holds Tryd.pinned (OpenSpec.ofChange Rows.expandExtendsSpec) :=
  OpenClaim.holds_of_cond 4 Tryd.f4 rfl rfl rfl rfl rfl rfl rfl ⟨rfl, rfl, rfl, rfl, rfl⟩ rfl rfl rfl rfl rfl (by kernel_rfl) Tryd.func4 (by kernel_rfl)
    (of_decide_eq_true (by kernel_rfl)) (by unfold Func.isWrapper; first | (rw [if_pos (by decide +kernel)]; kernel_rfl) | (rw [if_neg (by decide +kernel)]; exact ⟨rfl, rfl⟩))
    (fun os started H enc _ Fi => by rw [OpenClaim.pre_eq_preRow]; exact lifted os started H enc Fi)
theorem plain (f : FuncId) (fn : Func) (hf : Tryd.pinned.checked.prog.funcNamed Rows.expandExtendsRow.func = some f) (hfn : Tryd.pinned.checked.prog.funcs[f]? = some fn) :
    false = Tryd.pinned.checked.prog.looks [] ∧ ∀ (j : Nat) t, fn.params[j]? = some t → Tryd.pinned.checked.prog.wantsStandIn t = false := by
  obtain rfl : f = 4 := Option.some.inj ((show Tryd.prog.funcNamed Rows.expandExtendsRow.func = some 4 by kernel_rfl).symm.trans hf) |>.symm
  obtain rfl : fn = Tryd.f4 := (Option.some.inj (Tryd.func4.symm.trans hfn)).symm
  refine ⟨by kernel_rfl, fun j t ht => ?_⟩
  rw [Tryd.params4] at ht
  have hm : t ∈ [9, 9] := by simpa using Array.mem_of_getElem? ht
  have hall : ([9, 9].all fun u => !Tryd.prog.wantsStandIn u) = true := by kernel_rfl
  exact (show Tryd.prog.wantsStandIn t = false by simpa using List.all_eq_true.1 hall t hm)
end Go.Proofs.YtohobpjiikpdmaaDoor.expandExtends
namespace Go.Proofs.YtohobpjiikpdmaaDoor
/-- The statement: the tied card. -/
theorem expandExtends_proved : Rows.ExpandExtendsCardSaid :=
  Claim7.holds_tied_plain_at .later [] _ _ _ _ expandExtends.over (fun _ h => by cases h) (by kernel_rfl) (fun _ h => by cases h) expandExtends_row_tie rfl ⟨rfl, rfl⟩ (by kernel_rfl) rfl expandExtends.plain (by kernel_rfl)
end Go.Proofs.YtohobpjiikpdmaaDoor
