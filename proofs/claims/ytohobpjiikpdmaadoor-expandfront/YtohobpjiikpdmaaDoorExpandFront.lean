/-
  Proved: the scalars of a beginning of a text are a beginning of the text's scalars, and it goes wrong where that does, if it reaches so far. No condition.
-/
import Derived.Test.YtohobpjiikpdmaaDoorEXRd
import Derived.Test.YtohobpjiikpdmaaDoorEXAwk
import Derived.Test.YtohobpjiikpdmaaDoorEXGrt
import Derived.Test.YtohobpjiikpdmaaDoorEXTab
import Derived.Test.YtohobpjiikpdmaaDoorPair
import Derived.Deep.RegionHeld3
namespace Go.Proofs.YtohobpjiikpdmaaDoor
open Go.ChangeShapes Go.WideShapes Go.ChangeAt Go.RowKit
open Go.ChangeMaps (open_string shut_string)
namespace expandFront
open Bas Sca Stp Scn Cod EX
set_option linter.unusedVariables false
set_option linter.unusedSimpArgs false

theorem failQ (N m : Nat) (q fa : Int) (en : Bool) (w : World) (h : BaseAt w N 0 m q en) (hf : failAt (m : Int) q = fa) :
    Calls Tryd.prog 15 #[.pointer (some ⟨N, 0, none⟩)] w fun e w' => e = .returned (.agg #[.int .i64 q, .int .i64 fa]) ∧ Below w.heap.size w w' := by
  subst hf
  exact fail_any N 0 m q en w h
set_option maxHeartbeats 8000000 in
set_option maxRecDepth 100000 in
theorem walk (w : World) (hT : EX.Tabs w) (s : ByteArray) (hwf : s.size ≤ maxLen) (n : Int) (hn : (Lit.int .i64 n).wf = true) :
    Calls Tryd.prog 8 #[.string s, .int .i64 n] w fun e w' => e = .returned (.bool true) ∧ Below w.heap.size w w' := by
  have HT : Hid (EX.Tabs w) := hT
  clear hwf hT hn
  go_enter Tryd.func8, Tryd.ntmps8
  go_wp2_with fail
  refine (awake_any w HT.out).mono ?_
  rintro e w1 ⟨rfl, b1⟩
  have HB1 : Hid (Below w.heap.size w w1) := b1
  clear b1
  go_wp2_with fail
  refine (great_any _ none none 0 0 0 0 w1).mono ?_
  rintro e w1' ⟨rfl, rfl⟩
  obtain ⟨g, hg⟩ : ∃ g, (decide ((s.size : Int) > 400) || (decide (0 > 200) || decide (0 > 200))) = g := ⟨_, rfl⟩
  rw [hg]
  cases g with
  | true =>
    clear hg
    go_wp2_with fail
    refine (awake_any _ (HT.out.below HB1.out)).mono ?_
    rintro e w2 ⟨rfl, b2⟩
    go_wp2
    go_ret
    exact ⟨rfl, below_two HB1.out b2⟩
  | false =>
  obtain ⟨h400, -, -⟩ := great_no hg
  clear hg
  by_cases hn0 : n < 0
  · go_wp2_with fail
    refine (awake_any _ (HT.out.below HB1.out)).mono ?_
    rintro e w2 ⟨rfl, b2⟩
    go_wp2
    go_ret
    exact ⟨rfl, below_two HB1.out b2⟩
  by_cases hn1 : n > (s.size : Int)
  · go_wp2_with fail
    refine (awake_any _ (HT.out.below HB1.out)).mono ?_
    rintro e w2 ⟨rfl, b2⟩
    go_wp2
    go_ret
    exact ⟨rfl, below_two HB1.out b2⟩
  obtain ⟨k, rfl⟩ := Int.eq_ofNat_of_zero_le (show 0 ≤ n by omega)
  have hks : (k : Int) ≤ (s.size : Int) := by omega
  obtain ⟨X, hX⟩ : ∃ X, X = scan Exp.stepX Exp.st0 (bytesL s) := ⟨_, rfl⟩
  obtain ⟨Y, hY⟩ : ∃ Y, Y = scan Exp.stepX Exp.st0 (bytesL (s.extract 0 k)) := ⟨_, rfl⟩
  have HX : Hid (X = scan Exp.stepX Exp.st0 (bytesL s)) := hX
  have HY : Hid (Y = scan Exp.stepX Exp.st0 (bytesL (s.extract 0 k))) := hY
  have hfr := Exp.front (bytesL s) k Exp.st0
  rw [← bytesL_take, ← hX, ← hY] at hfr
  have hXt : X.told.length ≤ 400 := by
    rw [hX]; have := scan_short Exp.stepX Exp.step_one (bytesL s) Exp.st0; rw [bytesL_length] at this; omega
  obtain ⟨⟨tm, htm⟩, hbd⟩ := hfr
  have HTM : Hid (X.told = Y.told ++ tm ∧ (X.bad = true → X.eaten < k → Y = X)) := ⟨htm, hbd⟩
  clear hX hY htm hbd
  go_wp2_with fail
  refine (newD_any () w1' rfl (HT.out.below HB1.out)).mono ?_
  rintro e w2 ⟨rfl, D2, z2, B2⟩
  obtain ⟨N, hN⟩ : ∃ N, N = w1'.heap.size := ⟨_, rfl⟩
  have HN : Hid (w.heap.size ≤ N) := by show w.heap.size ≤ N; rw [hN]; exact HB1.out.size
  rw [← hN] at D2 z2 B2 ⊢
  have HB2 : Hid (Below w.heap.size w w2) := HB1.out.trans (B2.mono HN.out)
  have HD2 : Hid (DecV () w2 N 0 0 false (st0 ()) [] (.slice none 0 0) (.slice none 0 0) ∧ w2.heap.size = N + 2) := ⟨D2, z2⟩
  clear hN D2 z2 B2 HB1
  go_wp2_with fail
  refine (newD_any () w2 HD2.out.2.symm (HT.out.below HB2.out)).mono ?_
  rintro e w3 ⟨rfl, F3, z3, B3⟩
  have B3' : Below w2.heap.size w2 w3 := by rw [HD2.out.2]; exact B3
  have HD3 : Hid (DecV () w3 N 0 0 false (st0 ()) [] (.slice none 0 0) (.slice none 0 0) ∧ DecV () w3 (N + 2) 0 0 false (st0 ()) [] (.slice none 0 0) (.slice none 0 0) ∧ w3.heap.size = N + 2 + 2 ∧ Below w.heap.size w w3) := ⟨HD2.out.1.below B3', F3, z3, below_two HB2.out B3'⟩
  clear F3 z3 B3 B3' HD2 HB2
  go_wp2_with fail
  refine (read_any N _ _ s none none 0 0 0 0 [] [] X w3 HD3.out.1 HX.out (ints_none _ _) (ints_none _ _) (fun b' o' h0 e h => by omega) (fun b' o' h0 e h => by omega) (by omega) (by omega) (by omega)).mono ?_
  rintro e w4 ⟨vo, rfl, v4, u4, s4, f4, D4, C4⟩
  have HD4 : Hid (BaseAt w4 (N + 1) 0 X.eaten (endQ X) (endE X) ∧ DecV () w4 (N + 2) 0 0 false (st0 ()) [] (.slice none 0 0) (.slice none 0 0) ∧ Seg .u32 w4 vo X.told ∧ (∀ g, vo.ownBlock = some g → N + 4 ≤ g) ∧ Below w.heap.size w w4) :=
    ⟨D4.base, HD3.out.2.1.chg C4 (fun k j h1 h2 => by have := footD_nil h1; have := footD_nil h2; omega) (fun k hk j h2 => by have := footD_nil h2; have := HD3.out.1.inn.bigd; omega), s4, fun g hg => by have := f4 g hg; have := HD3.out.2.2.1; omega, HD3.out.2.2.2.trans (C4.below HD3.out.2.2.2.size (fun k j hk h => by have := footD_nil h; have := HN.out; omega))⟩
  obtain ⟨a4, c4, hv4, -⟩ := s4.form
  obtain ⟨xl, hxl⟩ : ∃ xl, X.told.length = xl := ⟨_, rfl⟩
  rw [hxl] at hv4
  subst hv4
  have HXL : Hid (X.told.length = xl ∧ xl ≤ 400) := ⟨hxl, by rw [← hxl]; exact hXt⟩
  clear s4 f4 D4 C4 HD3 hxl hXt
  go_wp2_with fail
  refine (read_any (N + 2) _ _ (s.extract 0 k) none none 0 0 0 0 [] [] Y w4 HD4.out.2.1 HY.out (ints_none _ _) (ints_none _ _) (fun b' o' h0 e h => by omega) (fun b' o' h0 e h => by omega) (by omega) (by omega) (by simp; omega)).mono ?_
  rintro e w5 ⟨vm, rfl, v5, u5, s5, f5, F5, C5⟩
  have S5 := HD4.out.2.2.1.chg C5 (fun g o hg h2 => by have := HD4.out.2.2.2.1 g hg; have := footD_nil h2; omega)
  have HD5 : Hid (BaseAt w5 (N + 1) 0 X.eaten (endQ X) (endE X) ∧ BaseAt w5 (N + 2 + 1) 0 Y.eaten (endQ Y) (endE Y) ∧ Seg .u32 w5 (.slice a4 xl c4) X.told ∧ Seg .u32 w5 vm Y.told ∧ Below w.heap.size w w5) :=
    ⟨HD4.out.1.chg C5 (fun k j h1 h2 => by have := h1.1; have := footD_nil h2; omega), F5.base, S5, s5, HD4.out.2.2.2.2.trans (C5.below HD4.out.2.2.2.2.size (fun k j hk h => by have := footD_nil h; have := HN.out; omega))⟩
  obtain ⟨a5, c5, hv5, -⟩ := s5.form
  obtain ⟨yl, hyl⟩ : ∃ yl, Y.told.length = yl := ⟨_, rfl⟩
  have hle : yl ≤ xl := by rw [← hyl, ← HXL.out.1, HTM.out.1, List.length_append]; omega
  have hcap : xl ≤ c4 := by
    obtain ⟨a', c', e', -, -, hc', -⟩ := S5.form
    simp only [Value.slice.injEq] at e'
    have := HXL.out.1
    omega
  rw [hyl] at hv5
  subst hv5
  have HR5 : Hid (Row .u32 w5 a4 Y.told) := by
    have hh := HD5.out.2.2.1
    have := (Seg.takeO (f := yl) hh (by rw [HXL.out.1]; exact hle)).form
    obtain ⟨a8, c8, e8, r8, -⟩ := this
    simp only [Value.slice.injEq] at e8
    rw [← e8.1, HTM.out.1] at r8
    have e : (Y.told ++ tm).take yl = Y.told := by rw [← hyl]; simp
    rwa [e] at r8
  have HYL : Hid (Y.told.length = yl ∧ yl ≤ 400) := ⟨hyl, by have := HXL.out.2; omega⟩
  have hnl : ¬ (yl : Int) > (xl : Int) := by omega
  have hcc : (yl : Int) ≤ (c4 : Int) := by omega
  clear s5 f5 F5 C5 S5 HD4 hyl hcap hle
  go_wp2_with fail
  refine (rSame_any a4 a5 yl yl c4 c5 Y.told Y.told w5 HR5.out (seg_row HD5.out.2.2.2.1).1 HYL.out.1 HYL.out.1 (by have := HYL.out.2; unfold maxLen; omega) (by have := HYL.out.2; unfold maxLen; omega)).mono ?_
  rintro e w6 ⟨rfl, nd, rfl⟩
  rw [cmpL_self, show ((0 : Int) == 0) = true from rfl]
  have HD6 : Hid (BaseAt (w5.drewN nd) (N + 1) 0 X.eaten (endQ X) (endE X) ∧ BaseAt (w5.drewN nd) (N + 2 + 1) 0 Y.eaten (endQ Y) (endE Y) ∧ Below w.heap.size w (w5.drewN nd)) := ⟨HD5.out.1.below (below_dn _ _), HD5.out.2.1.below (below_dn _ _), below_two HD5.out.2.2.2.2 (below_dn _ _)⟩
  generalize w5.drewN nd = w6 at *
  clear HD5 HR5
  go_upto_region 8 with fail
  obtain ⟨D1, hD1⟩ : ∃ D1, N + 1 = D1 := ⟨_, rfl⟩
  obtain ⟨F1, hF1⟩ : ∃ F1, N + 2 + 1 = F1 := ⟨_, rfl⟩
  rw [hD1, hF1] at HD6
  rw [hD1, hF1]
  clear hD1 hF1
  obtain ⟨E, hE⟩ : ∃ E, X.eaten = E := ⟨_, rfl⟩
  obtain ⟨en, hen⟩ : ∃ en, endE X = en := ⟨_, rfl⟩
  rw [hE, hen] at HD6
  have HE : Hid (X.eaten = E ∧ endE X = en) := ⟨hE, hen⟩
  clear hE hen
  have hbd : Below w6.heap.size w6 w6.drew := (Below.refl _ _).drew
  have B6 : Below w.heap.size w w6.drew := below_two HD6.out.2.2 hbd
  by_cases hb : X.bad = true
  · have hq : endQ X = 3 := by unfold endQ; rw [if_pos hb]
    have A6 : BaseAt w6.drew D1 0 E 3 en := by have := HD6.out.1.below hbd; rwa [hq] at this
    have hfl := fld 3 (E : Int)
    by_cases hlt : E < k
    · have hYX := HTM.out.2 hb (by rw [HE.out.1]; exact hlt)
      have F6 : BaseAt w6.drew F1 0 E 3 en := by have := HD6.out.2.1.below hbd; rwa [hYX, hq, HE.out.1, HE.out.2] at this
      have hlti : ¬ (E : Int) ≥ (k : Int) := by omega
      clear hbd HD6 hYX hb hq
      have hkE : ¬ k ≤ E := by omega
      go_region_held3 (fun w' => True) (exact trivial) (first
      | (go_at_call_of 15 (Value.pointer (some (Addr.mk D1 0 none))); refine (failQ D1 E 3 E en _ ?_ rfl).mono ?_; exact A6; rintro e w7 ⟨rfl, b7⟩; have A6 := A6.below b7; have F6 := F6.below b7; have B6 := below_two B6 b7; clear b7)
      | (go_at_call_of 15 (Value.pointer (some (Addr.mk F1 0 none))); refine (failQ F1 E 3 E en _ ?_ rfl).mono ?_; exact F6; rintro e w7 ⟨rfl, b7⟩; have A6 := A6.below b7; have F6 := F6.below b7; have B6 := below_two B6 b7; clear b7)
      | (go_at_call 17; refine (at_any D1 0 (E : Int) 3 en _ ?_).mono ?_; exact A6; rintro e w7 ⟨rfl, rfl⟩))
      all_goals
        go_wp2
        go_ret
        exact ⟨by first | rfl | exact ret_bool (by simp), B6⟩
    · have hlti : (E : Int) ≥ (k : Int) := by omega
      obtain ⟨yE, hyE⟩ : ∃ yE, Y.eaten = yE := ⟨_, rfl⟩
      obtain ⟨yq, hyq⟩ : ∃ yq, endQ Y = yq := ⟨_, rfl⟩
      obtain ⟨yn, hyn⟩ : ∃ yn, endE Y = yn := ⟨_, rfl⟩
      obtain ⟨yf, hyf⟩ : ∃ yf, failAt (yE : Int) yq = yf := ⟨_, rfl⟩
      have F6 : BaseAt w6.drew F1 0 yE yq yn := by have := HD6.out.2.1.below hbd; rwa [hyE, hyq, hyn] at this
      clear hbd HD6 hb hq hyE hyq hyn
      have hkE : k ≤ E := by omega
      refine wp_region_any (by kernel_rfl) ?_
      change wpAny _ _ _ _ _ _ _ (World.drew _)
      refine wpAny_take (i := 0) (oi := { dst := some 67, op := _, type := _, pos := _, after := _, guard := _ }) (v := ?_) rfl (by kernel_rfl) (by kernel_rfl) (by kernel_rfl) (fun _ _ _ h => h) (Or.inl ⟨by rfl, ?_⟩) ?_
      rotate_left
      · (intro w; go_simp; try with_reducible rfl)
      (try simp only [Act.put, List.setIfInBounds_toArray, List.set_cons_zero, List.set_cons_succ])
      refine wpAny_take (i := 1) (oi := { dst := some 68, op := _, type := _, pos := _, after := _, guard := _ }) (v := ?_) rfl (by kernel_rfl) (by kernel_rfl) (by kernel_rfl) (fun _ _ _ h => h) (Or.inl ⟨by rfl, ?_⟩) ?_
      rotate_left
      · (intro w; go_simp; try with_reducible rfl)
      (try simp only [Act.put, List.setIfInBounds_toArray, List.set_cons_zero, List.set_cons_succ])
      refine wpAny_take (i := 2) (oi := { dst := some 69, op := _, type := _, pos := _, after := _, guard := _ }) (v := ?_) rfl (by kernel_rfl) (by kernel_rfl) (by kernel_rfl) (fun _ _ _ h => h) (Or.inl ⟨by rfl, ?_⟩) ?_
      rotate_left
      · (intro w; go_simp; try with_reducible rfl)
      (try simp only [Act.put, List.setIfInBounds_toArray, List.set_cons_zero, List.set_cons_succ])
      refine wpAny_take (i := 3) (oi := { dst := some 70, op := _, type := _, pos := _, after := _, guard := _ }) (v := ?_) rfl (by kernel_rfl) (by kernel_rfl) (by kernel_rfl) (fun _ _ _ h => h) (Or.inl ⟨by rfl, ?_⟩) ?_
      rotate_left
      · (intro w; go_simp; try with_reducible rfl)
      (try simp only [Act.put, List.setIfInBounds_toArray, List.set_cons_zero, List.set_cons_succ])
      refine wpAny_ready (rs := [4]) (by kernel_rfl) (by simp) ?_
      refine AllReady.cons (o := { dst := some 71, op := _, type := _, pos := _, after := _, guard := _ }) rfl (fun K hK => ?_) AllReady.nil
      go_simp
      refine (failQ D1 E 3 E en _ A6 rfl).mono ?_
      rintro e w7 ⟨rfl, b7⟩
      have A6 := A6.below b7
      have F6 := F6.below b7
      have B6 := below_two B6 b7
      clear b7
      (try go_simp)
      refine hK _ _ ?_
      clear hK K
      (try simp only [Act.put, List.setIfInBounds_toArray, List.set_cons_zero, List.set_cons_succ])
      refine wpAny_take (i := 5) (oi := { dst := some 72, op := _, type := _, pos := _, after := _, guard := _ }) (v := ?_) rfl (by kernel_rfl) (by kernel_rfl) (by kernel_rfl) (fun _ _ _ h => h) (Or.inl ⟨by rfl, ?_⟩) ?_
      rotate_left
      · (intro w; go_simp; try with_reducible rfl)
      (try simp only [Act.put, List.setIfInBounds_toArray, List.set_cons_zero, List.set_cons_succ])
      refine wpAny_take (i := 6) (oi := { dst := some 73, op := _, type := _, pos := _, after := _, guard := _ }) (v := ?_) rfl (by kernel_rfl) (by kernel_rfl) (by kernel_rfl) (fun _ _ _ h => h) (Or.inl ⟨by rfl, ?_⟩) ?_
      rotate_left
      · (intro w; go_simp; try with_reducible rfl)
      (try simp only [Act.put, List.setIfInBounds_toArray, List.set_cons_zero, List.set_cons_succ])
      refine wpAny_take (i := 7) (oi := { dst := some 74, op := _, type := _, pos := _, after := _, guard := _ }) (v := ?_) rfl (by kernel_rfl) (by kernel_rfl) (by kernel_rfl) (fun _ _ _ h => h) (Or.inl ⟨by rfl, ?_⟩) ?_
      rotate_left
      · (intro w; go_simp; try with_reducible rfl)
      (try simp only [Act.put, List.setIfInBounds_toArray, List.set_cons_zero, List.set_cons_succ])
      refine wpAny_take (i := 8) (oi := { dst := some 75, op := _, type := _, pos := _, after := _, guard := _ }) (v := ?_) rfl (by kernel_rfl) (by kernel_rfl) (by kernel_rfl) (fun _ _ _ h => h) (Or.inl ⟨by rfl, ?_⟩) ?_
      rotate_left
      · (intro w; go_simp; try with_reducible rfl)
      (try simp only [Act.put, List.setIfInBounds_toArray, List.set_cons_zero, List.set_cons_succ])
      refine wpAny_take (i := 9) (oi := { dst := some 76, op := _, type := _, pos := _, after := _, guard := _ }) (v := ?_) rfl (by kernel_rfl) (by kernel_rfl) (by kernel_rfl) (fun _ _ _ h => h) (Or.inl ⟨by rfl, ?_⟩) ?_
      rotate_left
      · (intro w; go_simp; try with_reducible rfl)
      (try simp only [Act.put, List.setIfInBounds_toArray, List.set_cons_zero, List.set_cons_succ])
      refine wpAny_take (i := 10) (oi := { dst := some 77, op := _, type := _, pos := _, after := _, guard := _ }) (v := ?_) rfl (by kernel_rfl) (by kernel_rfl) (by kernel_rfl) (fun _ _ _ h => h) (Or.inl ⟨by rfl, ?_⟩) ?_
      rotate_left
      · (intro w; go_simp; try with_reducible rfl)
      (try simp only [Act.put, List.setIfInBounds_toArray, List.set_cons_zero, List.set_cons_succ])
      refine wpAny_take (i := 11) (oi := { dst := some 78, op := _, type := _, pos := _, after := _, guard := _ }) (v := ?_) rfl (by kernel_rfl) (by kernel_rfl) (by kernel_rfl) (fun _ _ _ h => h) (Or.inl ⟨by rfl, ?_⟩) ?_
      rotate_left
      · (intro w; go_simp; try with_reducible rfl)
      (try simp only [Act.put, List.setIfInBounds_toArray, List.set_cons_zero, List.set_cons_succ])
      refine wpAny_take (i := 13) (oi := { dst := some 80, op := _, type := _, pos := _, after := _, guard := _ }) (v := ?_) rfl (by kernel_rfl) (by kernel_rfl) (by kernel_rfl) (fun _ _ _ h => h) (Or.inl ⟨by rfl, ?_⟩) ?_
      rotate_left
      · (intro w; go_simp; try with_reducible rfl)
      (try simp only [Act.put, List.setIfInBounds_toArray, List.set_cons_zero, List.set_cons_succ])
      refine wpAny_ready (rs := [12]) (by kernel_rfl) (by simp) ?_
      refine AllReady.cons (o := { dst := some 79, op := _, type := _, pos := _, after := _, guard := _ }) rfl (fun K hK => ?_) AllReady.nil
      go_simp
      refine (at_any D1 0 (E : Int) 3 en _ A6).mono ?_
      rintro e w7 ⟨rfl, rfl⟩
      (try go_simp)
      refine hK _ _ ?_
      clear hK K
      (try simp only [Act.put, List.setIfInBounds_toArray, List.set_cons_zero, List.set_cons_succ])
      refine wpAny_take (i := 14) (oi := { dst := some 81, op := _, type := _, pos := _, after := _, guard := _ }) (v := ?_) rfl (by kernel_rfl) (by kernel_rfl) (by kernel_rfl) (fun _ _ _ h => h) (Or.inl ⟨by rfl, ?_⟩) ?_
      rotate_left
      · (intro w; go_simp; try with_reducible rfl)
      (try simp only [Act.put, List.setIfInBounds_toArray, List.set_cons_zero, List.set_cons_succ])
      refine wpAny_take (i := 15) (oi := { dst := some 82, op := _, type := _, pos := _, after := _, guard := _ }) (v := ?_) rfl (by kernel_rfl) (by kernel_rfl) (by kernel_rfl) (fun _ _ _ h => h) (Or.inl ⟨by rfl, ?_⟩) ?_
      rotate_left
      · (intro w; go_simp; try with_reducible rfl)
      (try simp only [Act.put, List.setIfInBounds_toArray, List.set_cons_zero, List.set_cons_succ])
      refine wpAny_take (i := 16) (oi := { dst := some 83, op := _, type := _, pos := _, after := _, guard := _ }) (v := ?_) rfl (by kernel_rfl) (by kernel_rfl) (by kernel_rfl) (fun _ _ _ h => h) (Or.inl ⟨by rfl, ?_⟩) ?_
      rotate_left
      · (intro w; go_simp; try with_reducible rfl)
      (try simp only [Act.put, List.setIfInBounds_toArray, List.set_cons_zero, List.set_cons_succ])
      refine wpAny_take (i := 17) (oi := { dst := some 84, op := _, type := _, pos := _, after := _, guard := _ }) (v := undef) rfl (by kernel_rfl) (by kernel_rfl) (by kernel_rfl) (fun _ _ _ h => h) (Or.inr ⟨by rfl, rfl⟩) ?_
      (try simp only [Act.put, List.setIfInBounds_toArray, List.set_cons_zero, List.set_cons_succ])
      refine wpAny_take (i := 18) (oi := { dst := some 85, op := _, type := _, pos := _, after := _, guard := _ }) (v := undef) rfl (by kernel_rfl) (by kernel_rfl) (by kernel_rfl) (fun _ _ _ h => h) (Or.inr ⟨by rfl, rfl⟩) ?_
      (try simp only [Act.put, List.setIfInBounds_toArray, List.set_cons_zero, List.set_cons_succ])
      refine wpAny_take (i := 19) (oi := { dst := some 86, op := _, type := _, pos := _, after := _, guard := _ }) (v := undef) rfl (by kernel_rfl) (by kernel_rfl) (by kernel_rfl) (fun _ _ _ h => h) (Or.inr ⟨by rfl, rfl⟩) ?_
      (try simp only [Act.put, List.setIfInBounds_toArray, List.set_cons_zero, List.set_cons_succ])
      refine wpAny_take (i := 20) (oi := { dst := some 87, op := _, type := _, pos := _, after := _, guard := _ }) (v := undef) rfl (by kernel_rfl) (by kernel_rfl) (by kernel_rfl) (fun _ _ _ h => h) (Or.inr ⟨by rfl, rfl⟩) ?_
      (try simp only [Act.put, List.setIfInBounds_toArray, List.set_cons_zero, List.set_cons_succ])
      refine wpAny_take (i := 22) (oi := { dst := some 89, op := _, type := _, pos := _, after := _, guard := _ }) (v := undef) rfl (by kernel_rfl) (by kernel_rfl) (by kernel_rfl) (fun _ _ _ h => h) (Or.inr ⟨by rfl, rfl⟩) ?_
      (try simp only [Act.put, List.setIfInBounds_toArray, List.set_cons_zero, List.set_cons_succ])
      refine wpAny_take (i := 23) (oi := { dst := some 90, op := _, type := _, pos := _, after := _, guard := _ }) (v := undef) rfl (by kernel_rfl) (by kernel_rfl) (by kernel_rfl) (fun _ _ _ h => h) (Or.inr ⟨by rfl, rfl⟩) ?_
      (try simp only [Act.put, List.setIfInBounds_toArray, List.set_cons_zero, List.set_cons_succ])
      refine wpAny_take (i := 24) (oi := { dst := some 91, op := _, type := _, pos := _, after := _, guard := _ }) (v := undef) rfl (by kernel_rfl) (by kernel_rfl) (by kernel_rfl) (fun _ _ _ h => h) (Or.inr ⟨by rfl, rfl⟩) ?_
      (try simp only [Act.put, List.setIfInBounds_toArray, List.set_cons_zero, List.set_cons_succ])
      refine wpAny_take (i := 25) (oi := { dst := some 92, op := _, type := _, pos := _, after := _, guard := _ }) (v := undef) rfl (by kernel_rfl) (by kernel_rfl) (by kernel_rfl) (fun _ _ _ h => h) (Or.inr ⟨by rfl, rfl⟩) ?_
      (try simp only [Act.put, List.setIfInBounds_toArray, List.set_cons_zero, List.set_cons_succ])
      refine wpAny_ready (rs := [21]) (by kernel_rfl) (by simp) ?_
      refine AllReady.cons (o := { dst := some 88, op := _, type := _, pos := _, after := _, guard := _ }) rfl (fun K hK => ?_) AllReady.nil
      refine Eq.mpr (if_neg (by exact fun h => Bool.false_ne_true h)) ?_
      refine hK _ _ ?_
      clear hK K
      (try simp only [Act.put, List.setIfInBounds_toArray, List.set_cons_zero, List.set_cons_succ])
      refine wpAny_ready (rs := [26]) (by kernel_rfl) (by simp) ?_
      refine AllReady.cons (o := { dst := some 93, op := _, type := _, pos := _, after := _, guard := _ }) rfl (fun K hK => ?_) AllReady.nil
      refine Eq.mpr (if_neg (by exact fun h => Bool.false_ne_true h)) ?_
      refine hK _ _ ?_
      clear hK K
      (try simp only [Act.put, List.setIfInBounds_toArray, List.set_cons_zero, List.set_cons_succ])
      refine wpAny_take (i := 27) (oi := { dst := some 94, op := _, type := _, pos := _, after := _, guard := _ }) (v := undef) rfl (by kernel_rfl) (by kernel_rfl) (by kernel_rfl) (fun _ _ _ h => h) (Or.inr ⟨by rfl, rfl⟩) ?_
      (try simp only [Act.put, List.setIfInBounds_toArray, List.set_cons_zero, List.set_cons_succ])
      refine wpAny_take (i := 28) (oi := { dst := some 95, op := _, type := _, pos := _, after := _, guard := _ }) (v := ?_) rfl (by kernel_rfl) (by kernel_rfl) (by kernel_rfl) (fun _ _ _ h => h) (Or.inl ⟨by rfl, ?_⟩) ?_
      rotate_left
      · (intro w; go_simp; try with_reducible rfl)
      (try simp only [Act.put, List.setIfInBounds_toArray, List.set_cons_zero, List.set_cons_succ])
      refine wpAny_take (i := 29) (oi := { dst := some 4, op := _, type := _, pos := _, after := _, guard := _ }) (v := ?_) rfl (by kernel_rfl) (by kernel_rfl) (by kernel_rfl) (fun _ _ _ h => h) (Or.inl ⟨by rfl, ?_⟩) ?_
      rotate_left
      · (intro w; go_simp; try with_reducible rfl)
      (try simp only [Act.put, List.setIfInBounds_toArray, List.set_cons_zero, List.set_cons_succ])
      refine wpAny_done (by kernel_rfl) ?_ _
      go_wp2
      go_ret
      exact ⟨by first | rfl | exact ret_bool (by simp), B6⟩
  · have hq3 : endQ X ≠ 3 := by unfold endQ; rw [if_neg hb]; split <;> decide
    obtain ⟨q, hq⟩ : ∃ q, endQ X = q := ⟨_, rfl⟩
    obtain ⟨fa, hfa⟩ : ∃ fa, failAt (E : Int) q = fa := ⟨_, rfl⟩
    rw [hq] at hq3
    have A6 : BaseAt w6.drew D1 0 E q en := by have := HD6.out.1.below hbd; rwa [hq] at this
    obtain ⟨yE, hyE⟩ : ∃ yE, Y.eaten = yE := ⟨_, rfl⟩
    obtain ⟨yq, hyq⟩ : ∃ yq, endQ Y = yq := ⟨_, rfl⟩
    obtain ⟨yn, hyn⟩ : ∃ yn, endE Y = yn := ⟨_, rfl⟩
    obtain ⟨yf, hyf⟩ : ∃ yf, failAt (yE : Int) yq = yf := ⟨_, rfl⟩
    have F6 : BaseAt w6.drew F1 0 yE yq yn := by have := HD6.out.2.1.below hbd; rwa [hyE, hyq, hyn] at this
    have hfl := fld q fa
    have hqb : (q != 3) = true := by rw [bne_iff_ne]; exact hq3
    have hqc : (q == 3) = false := by rw [beq_eq_false_iff_ne]; exact hq3
    clear hbd HD6 hb hq hyE hyq hyn
    refine wp_region_any (by kernel_rfl) ?_
    change wpAny _ _ _ _ _ _ _ (World.drew _)
    refine wpAny_take (i := 0) (oi := { dst := some 67, op := _, type := _, pos := _, after := _, guard := _ }) (v := ?_) rfl (by kernel_rfl) (by kernel_rfl) (by kernel_rfl) (fun _ _ _ h => h) (Or.inl ⟨by rfl, ?_⟩) ?_
    rotate_left
    · (intro w; go_simp; try with_reducible rfl)
    (try simp only [Act.put, List.setIfInBounds_toArray, List.set_cons_zero, List.set_cons_succ])
    refine wpAny_take (i := 1) (oi := { dst := some 68, op := _, type := _, pos := _, after := _, guard := _ }) (v := ?_) rfl (by kernel_rfl) (by kernel_rfl) (by kernel_rfl) (fun _ _ _ h => h) (Or.inl ⟨by rfl, ?_⟩) ?_
    rotate_left
    · (intro w; go_simp; try with_reducible rfl)
    (try simp only [Act.put, List.setIfInBounds_toArray, List.set_cons_zero, List.set_cons_succ])
    refine wpAny_take (i := 2) (oi := { dst := some 69, op := _, type := _, pos := _, after := _, guard := _ }) (v := ?_) rfl (by kernel_rfl) (by kernel_rfl) (by kernel_rfl) (fun _ _ _ h => h) (Or.inl ⟨by rfl, ?_⟩) ?_
    rotate_left
    · (intro w; go_simp; try with_reducible rfl)
    (try simp only [Act.put, List.setIfInBounds_toArray, List.set_cons_zero, List.set_cons_succ])
    refine wpAny_take (i := 3) (oi := { dst := some 70, op := _, type := _, pos := _, after := _, guard := _ }) (v := ?_) rfl (by kernel_rfl) (by kernel_rfl) (by kernel_rfl) (fun _ _ _ h => h) (Or.inl ⟨by rfl, ?_⟩) ?_
    rotate_left
    · (intro w; go_simp; try with_reducible rfl)
    (try simp only [Act.put, List.setIfInBounds_toArray, List.set_cons_zero, List.set_cons_succ])
    refine wpAny_ready (rs := [4]) (by kernel_rfl) (by simp) ?_
    refine AllReady.cons (o := { dst := some 71, op := _, type := _, pos := _, after := _, guard := _ }) rfl (fun K hK => ?_) AllReady.nil
    go_simp
    refine (failQ D1 E q fa en _ A6 hfa).mono ?_
    rintro e w7 ⟨rfl, b7⟩
    have A6 := A6.below b7
    have F6 := F6.below b7
    have B6 := below_two B6 b7
    clear b7
    (try go_simp)
    refine hK _ _ ?_
    clear hK K
    (try simp only [Act.put, List.setIfInBounds_toArray, List.set_cons_zero, List.set_cons_succ])
    refine wpAny_take (i := 5) (oi := { dst := some 72, op := _, type := _, pos := _, after := _, guard := _ }) (v := ?_) rfl (by kernel_rfl) (by kernel_rfl) (by kernel_rfl) (fun _ _ _ h => h) (Or.inl ⟨by rfl, ?_⟩) ?_
    rotate_left
    · (intro w; go_simp; try with_reducible rfl)
    (try simp only [Act.put, List.setIfInBounds_toArray, List.set_cons_zero, List.set_cons_succ])
    refine wpAny_take (i := 6) (oi := { dst := some 73, op := _, type := _, pos := _, after := _, guard := _ }) (v := ?_) rfl (by kernel_rfl) (by kernel_rfl) (by kernel_rfl) (fun _ _ _ h => h) (Or.inl ⟨by rfl, ?_⟩) ?_
    rotate_left
    · (intro w; go_simp; try with_reducible rfl)
    (try simp only [Act.put, List.setIfInBounds_toArray, List.set_cons_zero, List.set_cons_succ])
    refine wpAny_take (i := 7) (oi := { dst := some 74, op := _, type := _, pos := _, after := _, guard := _ }) (v := ?_) rfl (by kernel_rfl) (by kernel_rfl) (by kernel_rfl) (fun _ _ _ h => h) (Or.inl ⟨by rfl, ?_⟩) ?_
    rotate_left
    · (intro w; go_simp; try with_reducible rfl)
    (try simp only [Act.put, List.setIfInBounds_toArray, List.set_cons_zero, List.set_cons_succ])
    refine wpAny_take (i := 8) (oi := { dst := some 75, op := _, type := _, pos := _, after := _, guard := _ }) (v := undef) rfl (by kernel_rfl) (by kernel_rfl) (by kernel_rfl) (fun _ _ _ h => h) (Or.inr ⟨by rfl, rfl⟩) ?_
    (try simp only [Act.put, List.setIfInBounds_toArray, List.set_cons_zero, List.set_cons_succ])
    refine wpAny_take (i := 9) (oi := { dst := some 76, op := _, type := _, pos := _, after := _, guard := _ }) (v := undef) rfl (by kernel_rfl) (by kernel_rfl) (by kernel_rfl) (fun _ _ _ h => h) (Or.inr ⟨by rfl, rfl⟩) ?_
    (try simp only [Act.put, List.setIfInBounds_toArray, List.set_cons_zero, List.set_cons_succ])
    refine wpAny_take (i := 10) (oi := { dst := some 77, op := _, type := _, pos := _, after := _, guard := _ }) (v := undef) rfl (by kernel_rfl) (by kernel_rfl) (by kernel_rfl) (fun _ _ _ h => h) (Or.inr ⟨by rfl, rfl⟩) ?_
    (try simp only [Act.put, List.setIfInBounds_toArray, List.set_cons_zero, List.set_cons_succ])
    refine wpAny_take (i := 11) (oi := { dst := some 78, op := _, type := _, pos := _, after := _, guard := _ }) (v := undef) rfl (by kernel_rfl) (by kernel_rfl) (by kernel_rfl) (fun _ _ _ h => h) (Or.inr ⟨by rfl, rfl⟩) ?_
    (try simp only [Act.put, List.setIfInBounds_toArray, List.set_cons_zero, List.set_cons_succ])
    refine wpAny_take (i := 13) (oi := { dst := some 80, op := _, type := _, pos := _, after := _, guard := _ }) (v := undef) rfl (by kernel_rfl) (by kernel_rfl) (by kernel_rfl) (fun _ _ _ h => h) (Or.inr ⟨by rfl, rfl⟩) ?_
    (try simp only [Act.put, List.setIfInBounds_toArray, List.set_cons_zero, List.set_cons_succ])
    refine wpAny_ready (rs := [12]) (by kernel_rfl) (by simp) ?_
    refine AllReady.cons (o := { dst := some 79, op := _, type := _, pos := _, after := _, guard := _ }) rfl (fun K hK => ?_) AllReady.nil
    refine Eq.mpr (if_neg (by exact fun h => Bool.false_ne_true h)) ?_
    refine hK _ _ ?_
    clear hK K
    (try simp only [Act.put, List.setIfInBounds_toArray, List.set_cons_zero, List.set_cons_succ])
    refine wpAny_take (i := 14) (oi := { dst := some 81, op := _, type := _, pos := _, after := _, guard := _ }) (v := undef) rfl (by kernel_rfl) (by kernel_rfl) (by kernel_rfl) (fun _ _ _ h => h) (Or.inr ⟨by rfl, rfl⟩) ?_
    (try simp only [Act.put, List.setIfInBounds_toArray, List.set_cons_zero, List.set_cons_succ])
    refine wpAny_take (i := 15) (oi := { dst := some 82, op := _, type := _, pos := _, after := _, guard := _ }) (v := ?_) rfl (by kernel_rfl) (by kernel_rfl) (by kernel_rfl) (fun _ _ _ h => h) (Or.inl ⟨by rfl, ?_⟩) ?_
    rotate_left
    · (intro w; go_simp; try with_reducible rfl)
    (try simp only [Act.put, List.setIfInBounds_toArray, List.set_cons_zero, List.set_cons_succ])
    refine wpAny_take (i := 16) (oi := { dst := some 83, op := _, type := _, pos := _, after := _, guard := _ }) (v := ?_) rfl (by kernel_rfl) (by kernel_rfl) (by kernel_rfl) (fun _ _ _ h => h) (Or.inl ⟨by rfl, ?_⟩) ?_
    rotate_left
    · (intro w; go_simp; try with_reducible rfl)
    (try simp only [Act.put, List.setIfInBounds_toArray, List.set_cons_zero, List.set_cons_succ])
    refine wpAny_take (i := 17) (oi := { dst := some 84, op := _, type := _, pos := _, after := _, guard := _ }) (v := undef) rfl (by kernel_rfl) (by kernel_rfl) (by kernel_rfl) (fun _ _ _ h => h) (Or.inr ⟨by rfl, rfl⟩) ?_
    (try simp only [Act.put, List.setIfInBounds_toArray, List.set_cons_zero, List.set_cons_succ])
    refine wpAny_take (i := 18) (oi := { dst := some 85, op := _, type := _, pos := _, after := _, guard := _ }) (v := undef) rfl (by kernel_rfl) (by kernel_rfl) (by kernel_rfl) (fun _ _ _ h => h) (Or.inr ⟨by rfl, rfl⟩) ?_
    (try simp only [Act.put, List.setIfInBounds_toArray, List.set_cons_zero, List.set_cons_succ])
    refine wpAny_take (i := 19) (oi := { dst := some 86, op := _, type := _, pos := _, after := _, guard := _ }) (v := undef) rfl (by kernel_rfl) (by kernel_rfl) (by kernel_rfl) (fun _ _ _ h => h) (Or.inr ⟨by rfl, rfl⟩) ?_
    (try simp only [Act.put, List.setIfInBounds_toArray, List.set_cons_zero, List.set_cons_succ])
    refine wpAny_take (i := 20) (oi := { dst := some 87, op := _, type := _, pos := _, after := _, guard := _ }) (v := undef) rfl (by kernel_rfl) (by kernel_rfl) (by kernel_rfl) (fun _ _ _ h => h) (Or.inr ⟨by rfl, rfl⟩) ?_
    (try simp only [Act.put, List.setIfInBounds_toArray, List.set_cons_zero, List.set_cons_succ])
    refine wpAny_take (i := 22) (oi := { dst := some 89, op := _, type := _, pos := _, after := _, guard := _ }) (v := undef) rfl (by kernel_rfl) (by kernel_rfl) (by kernel_rfl) (fun _ _ _ h => h) (Or.inr ⟨by rfl, rfl⟩) ?_
    (try simp only [Act.put, List.setIfInBounds_toArray, List.set_cons_zero, List.set_cons_succ])
    refine wpAny_take (i := 23) (oi := { dst := some 90, op := _, type := _, pos := _, after := _, guard := _ }) (v := undef) rfl (by kernel_rfl) (by kernel_rfl) (by kernel_rfl) (fun _ _ _ h => h) (Or.inr ⟨by rfl, rfl⟩) ?_
    (try simp only [Act.put, List.setIfInBounds_toArray, List.set_cons_zero, List.set_cons_succ])
    refine wpAny_take (i := 24) (oi := { dst := some 91, op := _, type := _, pos := _, after := _, guard := _ }) (v := undef) rfl (by kernel_rfl) (by kernel_rfl) (by kernel_rfl) (fun _ _ _ h => h) (Or.inr ⟨by rfl, rfl⟩) ?_
    (try simp only [Act.put, List.setIfInBounds_toArray, List.set_cons_zero, List.set_cons_succ])
    refine wpAny_take (i := 25) (oi := { dst := some 92, op := _, type := _, pos := _, after := _, guard := _ }) (v := undef) rfl (by kernel_rfl) (by kernel_rfl) (by kernel_rfl) (fun _ _ _ h => h) (Or.inr ⟨by rfl, rfl⟩) ?_
    (try simp only [Act.put, List.setIfInBounds_toArray, List.set_cons_zero, List.set_cons_succ])
    refine wpAny_ready (rs := [21]) (by kernel_rfl) (by simp) ?_
    refine AllReady.cons (o := { dst := some 88, op := _, type := _, pos := _, after := _, guard := _ }) rfl (fun K hK => ?_) AllReady.nil
    refine Eq.mpr (if_neg (by exact fun h => Bool.false_ne_true h)) ?_
    refine hK _ _ ?_
    clear hK K
    (try simp only [Act.put, List.setIfInBounds_toArray, List.set_cons_zero, List.set_cons_succ])
    refine wpAny_ready (rs := [26]) (by kernel_rfl) (by simp) ?_
    refine AllReady.cons (o := { dst := some 93, op := _, type := _, pos := _, after := _, guard := _ }) rfl (fun K hK => ?_) AllReady.nil
    refine Eq.mpr (if_neg (by exact fun h => Bool.false_ne_true h)) ?_
    refine hK _ _ ?_
    clear hK K
    (try simp only [Act.put, List.setIfInBounds_toArray, List.set_cons_zero, List.set_cons_succ])
    refine wpAny_take (i := 27) (oi := { dst := some 94, op := _, type := _, pos := _, after := _, guard := _ }) (v := undef) rfl (by kernel_rfl) (by kernel_rfl) (by kernel_rfl) (fun _ _ _ h => h) (Or.inr ⟨by rfl, rfl⟩) ?_
    (try simp only [Act.put, List.setIfInBounds_toArray, List.set_cons_zero, List.set_cons_succ])
    refine wpAny_take (i := 28) (oi := { dst := some 95, op := _, type := _, pos := _, after := _, guard := _ }) (v := ?_) rfl (by kernel_rfl) (by kernel_rfl) (by kernel_rfl) (fun _ _ _ h => h) (Or.inl ⟨by rfl, ?_⟩) ?_
    rotate_left
    · (intro w; go_simp; try with_reducible rfl)
    (try simp only [Act.put, List.setIfInBounds_toArray, List.set_cons_zero, List.set_cons_succ])
    refine wpAny_take (i := 29) (oi := { dst := some 4, op := _, type := _, pos := _, after := _, guard := _ }) (v := ?_) rfl (by kernel_rfl) (by kernel_rfl) (by kernel_rfl) (fun _ _ _ h => h) (Or.inl ⟨by rfl, ?_⟩) ?_
    rotate_left
    · (intro w; go_simp; try with_reducible rfl)
    (try simp only [Act.put, List.setIfInBounds_toArray, List.set_cons_zero, List.set_cons_succ])
    refine wpAny_done (by kernel_rfl) ?_ _
    go_wp2
    go_ret
    exact ⟨by first | rfl | exact ret_bool (by simp), B6⟩
theorem reads (os : Os) {H : Type} (enc : TypeId × Value → H) : ∃ places, DataW.whole enc Tryd.prog ((({ World.holding Tryd.prog os ⟨#[], #[], []⟩ with heap := ((((World.holding Tryd.prog os ⟨#[], #[], []⟩).heap.modify 1 EX.layN).modify 2 EX.layS).modify 0 EX.layZ) } : World)).forCall (fun _ _ => 0) ⟨#[], #[.string ByteArray.empty, .int .i64 0], []⟩).memory Tryd.f8.params.toList Rows.expandFrontSpec.vars false #[.string ByteArray.empty, .int .i64 0].toList 8 = some ([.lit (.string []), .lit (.int .i64 0)], [], places) :=
  ⟨[], by kernel_rfl⟩
set_option maxRecDepth 100000 in
theorem lifted (os : Os) (started : os.Started) (H : Type) (enc : TypeId × Value → H) (Fi : Stop.Interp) :
    ReturnsInHanded {} Tryd.checked os 8 .any ((OpenSpec.ofChange Rows.expandFrontSpec).preRow enc Tryd.prog Tryd.f8 Rows.expandFrontRow.domain false Rows.expandFrontRow.laid) (((OpenSpec.ofChange Rows.expandFrontSpec).at Fi).post enc Tryd.prog Tryd.f8 false true false false) := by
  obtain ⟨places, hx⟩ := reads os enc
  refine returnsInHanded_of_row (C := Tryd.checked) (s := OpenSpec.ofChange Rows.expandFrontSpec) Bas.own started (by kernel_rfl) Tryd.func8
    (witness_row_at (enc := enc) (C := Tryd.checked) false (({ World.holding Tryd.prog os ⟨#[], #[], []⟩ with heap := ((((World.holding Tryd.prog os ⟨#[], #[], []⟩).heap.modify 1 EX.layN).modify 2 EX.layS).modify 0 EX.layZ) } : World)) #[.string ByteArray.empty, .int .i64 0] rfl (by kernel_rfl) (by kernel_rfl) (by kernel_rfl)
      (OpenSpec.preRow_of_cond 8 hx (by kernel_rfl) (fun k hk => by cases hk) (by kernel_rfl) (EX.laid_met os _))) ?_
  intro W base args ds gs before hval0 hW _ _ _ hL _ _
  have hval : ∀ (j : Nat) t v, Tryd.f8.params[j]? = some t → args[j]? = some v → Value.okWide Tryd.prog W .any base t v := hval0
  have hW' := hW
  obtain ⟨p, q, hA0, hV, rfl, hfz, hnd⟩ := hW
  have hA : DataW.TrodAll enc Tryd.prog W 0 (fun _ => true) true Tryd.f8.params.toList args.toList ds p := hA0
  rw [Tryd.params8] at hA hval
  obtain ⟨v0, vs0, d0, ds0, p0, q0, hargs, rfl, rfl, h0, r0⟩ := trodAll_cons hA
  obtain ⟨v1, vs1, d1, ds1, p1, q1, rfl, rfl, rfl, h1, r1⟩ := trodAll_cons r0
  obtain ⟨rfl, rfl, rfl⟩ := trodAll_nil r1
  obtain rfl : args = #[v0, v1] := by cases args; simp_all
  obtain ⟨rfl, rfl⟩ := trodVars_none hV
  have k0 := h0
  have lt0 : ∀ x ∈ p0, x.block < W.heap.size := by obtain ⟨m, hm⟩ := k0; exact DataW.trod_lt m _ _ _ hm
  have k1 := h1
  have lt1 : ∀ x ∈ p1, x.block < W.heap.size := by obtain ⟨m, hm⟩ := k1; exact DataW.trod_lt m _ _ _ hm
  obtain ⟨a0, rfl, rfl, rfl, w0⟩ := open_string Tryd.underlying9 (hval 0 9 v0 rfl rfl) h0
  obtain ⟨a1, rfl, rfl, rfl, w1⟩ := open_int Tryd.underlying3 (hval 1 3 v1 rfl rfl) h1
  refine (walk W (EX.tabs_of hL) a0 w0 a1 w1).mono fun e W' ⟨he, bel⟩ => ?_
  subst he
  exact ⟨_, rfl, _, _, _, [], _, [], hW', trodAll_mk1 (shut_bool Tryd.underlying4 _), (trodAll_cons_mk (Below.trod Bas.laidOut (by kernel_rfl) (of_decide_eq_true (by kernel_rfl)) k0 bel lt0) (trodAll_cons_mk (Below.trod Bas.laidOut (by kernel_rfl) (of_decide_eq_true (by kernel_rfl)) k1 bel lt1) trodAll_mk0)), rfl, bel.frame _, fun h => by cases h⟩


theorem over : Rows.expandFrontRow.holds Tryd.pinned (OpenSpec.ofChange Rows.expandFrontSpec) :=
  OpenClaim.holds_of_cond 8 Tryd.f8 rfl rfl rfl rfl rfl rfl rfl ⟨rfl, rfl, rfl, rfl, rfl⟩ rfl rfl rfl rfl rfl (by kernel_rfl) Tryd.func8 (by kernel_rfl)
    (of_decide_eq_true (by kernel_rfl)) (by unfold Func.isWrapper; first | (rw [if_pos (by decide +kernel)]; kernel_rfl) | (rw [if_neg (by decide +kernel)]; exact ⟨rfl, rfl⟩))
    (fun os started H enc _ Fi => by rw [OpenClaim.pre_eq_preRow]; exact lifted os started H enc Fi)
theorem plain (f : FuncId) (fn : Func) (hf : Tryd.pinned.checked.prog.funcNamed Rows.expandFrontRow.func = some f) (hfn : Tryd.pinned.checked.prog.funcs[f]? = some fn) :
    false = Tryd.pinned.checked.prog.looks [] ∧ ∀ (j : Nat) t, fn.params[j]? = some t → Tryd.pinned.checked.prog.wantsStandIn t = false := by
  obtain rfl : f = 8 := Option.some.inj ((show Tryd.prog.funcNamed Rows.expandFrontRow.func = some 8 by kernel_rfl).symm.trans hf) |>.symm
  obtain rfl : fn = Tryd.f8 := (Option.some.inj (Tryd.func8.symm.trans hfn)).symm
  refine ⟨by kernel_rfl, fun j t ht => ?_⟩
  rw [Tryd.params8] at ht
  have hm : t ∈ [9, 3] := by simpa using Array.mem_of_getElem? ht
  have hall : ([9, 3].all fun u => !Tryd.prog.wantsStandIn u) = true := by kernel_rfl
  exact (show Tryd.prog.wantsStandIn t = false by simpa using List.all_eq_true.1 hall t hm)
end Go.Proofs.YtohobpjiikpdmaaDoor.expandFront
namespace Go.Proofs.YtohobpjiikpdmaaDoor
/-- The statement: the tied card. -/
theorem expandFront_proved : Rows.ExpandFrontCardSaid :=
  Claim7.holds_tied_plain_at .later [] _ _ _ _ expandFront.over (fun _ h => by cases h) (by kernel_rfl) (fun _ h => by cases h) expandFront_row_tie rfl ⟨rfl, rfl⟩ (by kernel_rfl) rfl expandFront.plain (by kernel_rfl)
end Go.Proofs.YtohobpjiikpdmaaDoor
