/-
  Proved: a text of whole units denotes in the one order what the text whose bytes are turned, two by two, denotes in the other one; or neither denotes anything. No condition.
-/
import Derived.Test.YtajpllhljgpidaaU16Turn
import Derived.Test.YtajpllhljgpidaaU16Awk
import Derived.Test.YtajpllhljgpidaaU16Grt
import Derived.Test.YtajpllhljgpidaaPair
import Derived.Deep.RegionHeld3
namespace Go.Proofs.Ytajpllhljgpidaa
open Go.ChangeShapes Go.WideShapes Go.ChangeAt Go.RowKit
open Go.ChangeMaps (open_string shut_string)
namespace uni16Turned
open Bas Sca Stp Scn Cod U16
set_option linter.unusedVariables false

theorem failQ (N m : Nat) (q fa : Int) (en : Bool) (w : World) (h : BaseAt w N 0 m q en) (hf : failAt (m : Int) q = fa) :
    Calls Try.prog 15 #[.pointer (some ⟨N, 0, none⟩)] w fun e w' => e = .returned (.agg #[.int .i64 q, .int .i64 fa]) ∧ Below w.heap.size w w' := by
  subst hf
  exact fail_any N 0 m q en w h
theorem sameB (a b : Option Addr) (n ca cb : Nat) (l : List Int) (w : World) (hr : Row .u32 w a l) (hs : Row .u32 w b l) (hl : l.length = n) (hn : n ≤ 1000) :
    Calls Try.prog 14 #[.slice a n ca, .slice b n cb] w fun e w' => e = .returned (.bool true) ∧ Below w.heap.size w w' := by
  refine (rSame_any a b n n ca cb l l w hr hs hl hl (by unfold maxLen; omega) (by unfold maxLen; omega)).mono ?_
  rintro e w' ⟨rfl, nd, rfl⟩
  exact ⟨by rw [cmpL_self]; rfl, below_dn _ nd⟩
set_option maxHeartbeats 8000000 in
set_option maxRecDepth 100000 in
theorem walk (w : World) (s : ByteArray) (hwf : s.size ≤ maxLen) :
    Calls Try.prog 8 #[.string s] w fun e w' => e = .returned (.bool true) ∧ Below w.heap.size w w' := by
  clear hwf
  go_enter Try.func8, Try.ntmps8
  go_wp2_with fail
  refine (awake_any w).mono ?_
  rintro e w1 ⟨rfl, b1⟩
  have HB1 : Hid (Below w.heap.size w w1) := b1
  clear b1
  go_wp2_with fail
  refine (great_any _ none none 0 0 0 0 w1).mono ?_
  rintro e w1' ⟨rfl, rfl⟩
  obtain ⟨g, hg⟩ : ∃ g, (decide ((s.size : Int) > 400) || (decide (0 > 200) || decide (0 > 200))) = g := ⟨_, rfl⟩
  rw [hg]
  cases g with
  | true =>
    clear hg
    go_wp2_with fail
    refine (awake_any _).mono ?_
    rintro e w2 ⟨rfl, b2⟩
    go_wp2
    go_ret
    exact ⟨rfl, below_two HB1.out b2⟩
  | false =>
    obtain ⟨h400, -, -⟩ := great_no hg
    clear hg
    by_cases hodd : s.size % 2 = 0
    · obtain ⟨h, hh⟩ : ∃ h, s.size = 2 * h := ⟨s.size / 2, by omega⟩
      have hev : (s.size : Int) % 2 = 0 := by omega
      obtain ⟨X, hX⟩ : ∃ X, X = scan (stepU true) (st0 true) (bytesL s) := ⟨_, rfl⟩
      obtain ⟨r, hr⟩ : ∃ r, Stp.strOf (turnL (bytesL s)) = r := ⟨_, rfl⟩
      have hrb : bytesL r = turnL (bytesL s) := by rw [← hr]; exact bytesL_strOf _ (turnL_byte _ (bytesL_byte s))
      have hrz : r.size ≤ 400 := by rw [← bytesL_length, hrb, turnL_length, bytesL_length]; omega
      obtain ⟨Y, hY⟩ : ∃ Y, Y = scan (stepU false) (st0 false) (bytesL r) := ⟨_, rfl⟩
      have hal : U16.Alike X Y := by
        rw [hX, hY, hrb]
        exact (turn_scan h (bytesL s) (by rw [bytesL_length]; exact hh) (bytesL_byte s)).1
      have hXt : X.told.length ≤ 400 := by
        rw [hX]; have := scan_short (stepU true) (step_one true) (bytesL s) (st0 true); rw [bytesL_length] at this; omega
      have hXe : X.eaten ≤ 400 := by rw [hX]; have := scan_le (stepU true) (bytesL s) (st0 true); rw [bytesL_length] at this; omega
      have hYe : Y.eaten ≤ 400 := by rw [hY]; have := scan_le (stepU false) (bytesL r) (st0 false); rw [bytesL_length] at this; omega
      have HX : Hid (X = scan (stepU true) (st0 true) (bytesL s)) := hX
      have HY : Hid (Y = scan (stepU false) (st0 false) (bytesL r) ∧ U16.Alike X Y) := ⟨hY, hal⟩
      have HR : Hid (Stp.strOf (turnL (bytesL s)) = r ∧ s.size = 2 * h) := ⟨hr, hh⟩
      clear hX hY hr hrb hal hh hodd
      go_wp2_with fail
      refine (newD_any true _ rfl).mono ?_
      rintro e w2 ⟨rfl, D2, z2, B2⟩
      obtain ⟨N, hN⟩ : ∃ N, N = w1'.heap.size := ⟨_, rfl⟩
      have HN : Hid (w.heap.size ≤ N) := by show w.heap.size ≤ N; rw [hN]; exact HB1.out.size
      rw [← hN] at D2 z2 B2 ⊢
      have HB2 : Hid (Below w.heap.size w w2) := HB1.out.trans (B2.mono HN.out)
      clear hN
      go_wp2_with fail
      obtain ⟨M, hM⟩ : ∃ M, M = N + 1 := ⟨_, rfl⟩
      refine (newD_any false _ (N := M) (by omega)).mono ?_
      rintro e w3 ⟨rfl, F3, z3, B3⟩
      have D3 := D2.below (B3.mono (by omega))
      have HB3 : Hid (Below w.heap.size w w3) := HB2.out.trans (B3.mono (by have := HN.out; omega))
      have HD3 : Hid (DecV false w3 M 0 0 false (st0 false) [] (.slice none 0 0) (.slice none 0 0)) := F3
      have HM : Hid (M = N + 1 ∧ M + 1 = w3.heap.size) := ⟨hM, z3.symm⟩
      clear D2 z2 B2 F3 B3 HB2 hM z3
      go_wp2_with fail
      refine (read_any N _ _ s none none 0 0 0 0 [] [] X w3 D3 HX.out (ints_none _ _) (ints_none _ _) (fun b' o' h0 e h => by omega) (fun b' o' h0 e h => by omega) (by omega) (by omega) (by omega)).mono ?_
      rintro e w4 ⟨vo, rfl, v4, u4, s4, f4, D4, C4⟩
      have HB4 : Hid (Below w.heap.size w w4) := HB3.out.trans (C4.below HB3.out.size (fun k j hk h => by have := footD_nil h; have := HN.out; omega))
      have F4 := HD3.out.chg C4 (fun k j h1 h2 => by have := footD_nil h1; have := footD_nil h2; have := HM.out; omega)
      obtain ⟨ao, co, hvo, -⟩ := s4.form
      obtain ⟨tl, htl⟩ : ∃ tl, X.told.length = tl := ⟨_, rfl⟩
      rw [htl] at hvo hXt
      subst hvo
      have HD4 : Hid (BaseAt w4 N 0 X.eaten (endQ X) (endE X) ∧ Seg .u32 w4 (.slice ao tl co) X.told ∧ DecV false w4 M 0 0 false (st0 false) [] (.slice none 0 0) (.slice none 0 0) ∧ (∀ g, (Value.slice ao tl co).ownBlock = some g → M + 1 ≤ g)) := ⟨D4.base, s4, F4, fun g hg => by have := f4 g hg; have := HM.out; omega⟩
      have HTL : Hid (X.told.length = tl) := htl
      clear D3 HD3 s4 f4 D4 C4 F4 HB3 htl
      go_wp2_with fail
      refine (rTurn_any s h w4 HR.out.2 (by have := HR.out.2; omega)).mono ?_
      rintro e w5 ⟨rfl, b5⟩
      rw [HR.out.1]
      have HD5 : Hid (BaseAt w5 N 0 X.eaten (endQ X) (endE X) ∧ Seg .u32 w5 (.slice ao tl co) X.told ∧ DecV false w5 M 0 0 false (st0 false) [] (.slice none 0 0) (.slice none 0 0) ∧ (∀ g, (Value.slice ao tl co).ownBlock = some g → M + 1 ≤ g) ∧ Below w.heap.size w w5) :=
        ⟨HD4.out.1.below b5, HD4.out.2.1.chg (chg_of_below b5 (Nat.le_refl _) (fun _ _ => False)) (fun _ _ _ h => h), HD4.out.2.2.1.below b5, HD4.out.2.2.2, below_two HB4.out b5⟩
      clear b5 HD4 HB4
      go_wp2_with fail
      refine (read_any M _ _ r none none 0 0 0 0 [] [] Y w5 HD5.out.2.2.1 HY.out.1 (ints_none _ _) (ints_none _ _) (fun b' o' h0 e h => by omega) (fun b' o' h0 e h => by omega) (by omega) (by omega) (by omega)).mono ?_
      rintro e w6 ⟨vq, rfl, v6, u6, s6, f6, D6, C6⟩
      have B6 : Below w.heap.size w w6 := HD5.out.2.2.2.2.trans (C6.below HD5.out.2.2.2.2.size (fun k j hk h => by have := footD_nil h; have := HN.out; have := HM.out; omega))
      have A6 := HD5.out.1.chg C6 (fun k j hk h => by have := hk.1; have := footD_nil h; have := HM.out; omega)
      have S6 := HD5.out.2.1.chg C6 (fun g o hg h => by have := HD5.out.2.2.2.1 g hg; have := footD_nil h; have := HM.out; omega)
      obtain ⟨aq, cq, hvq, -⟩ := s6.form
      rw [← HY.out.2.1, HTL.out] at hvq
      subst hvq
      rw [← HY.out.2.1] at s6
      have D6b := D6.base
      rw [← HY.out.2.endQ] at D6b
      obtain ⟨q, hq⟩ : ∃ q, endQ X = q := ⟨_, rfl⟩
      obtain ⟨en, hen⟩ : ∃ en, endE X = en := ⟨_, rfl⟩
      obtain ⟨en2, hen2⟩ : ∃ en2, endE Y = en2 := ⟨_, rfl⟩
      obtain ⟨x1, hx1⟩ : ∃ x1, X.eaten = x1 := ⟨_, rfl⟩
      obtain ⟨x2, hx2⟩ : ∃ x2, Y.eaten = x2 := ⟨_, rfl⟩
      rw [hq, hen, hx1] at A6
      rw [hq, hen2, hx2] at D6b
      have hxx : (x1 : Int).tdiv 2 = (x2 : Int).tdiv 2 := by
        have := HY.out.2.2.2.2
        rw [hx1, hx2] at this
        rw [Int.tdiv_eq_ediv_of_nonneg (by omega), Int.tdiv_eq_ediv_of_nonneg (by omega)]; omega
      have HD6 : Hid (BaseAt w6 N 0 x1 q en ∧ BaseAt w6 M 0 x2 q en2 ∧ Seg .u32 w6 (.slice ao tl co) X.told ∧ Seg .u32 w6 (.slice aq tl cq) X.told ∧ Below w.heap.size w w6) := ⟨A6, D6b, S6, s6, B6⟩
      have HXX : Hid ((x1 : Int).tdiv 2 = (x2 : Int).tdiv 2) := hxx
      clear hq hen hen2 hx1 hx2 hxx A6 S6 s6 f6 D6 D6b C6 B6 HD5 hXe hYe
      obtain ⟨f1, hf1⟩ : ∃ f1, failAt (x1 : Int) q = f1 := ⟨_, rfl⟩
      obtain ⟨f2, hf2⟩ : ∃ f2, failAt (x2 : Int) q = f2 := ⟨_, rfl⟩
      have hl1 := fld q f1
      have hl2 := fld q f2
      have HFF : Hid (failAt (x1 : Int) q = f1 ∧ failAt (x2 : Int) q = f2) := ⟨hf1, hf2⟩
      clear hf1 hf2
      have hxy := HXX.out
      go_upto_region 6 with fail
      have hbd : Below w6.heap.size w6 w6.drew := (Below.refl _ _).drew
      have A7 : BaseAt w6.drew N 0 x1 q en := HD6.out.1.below hbd
      have G7 : BaseAt w6.drew M 0 x2 q en2 := HD6.out.2.1.below hbd
      have R7 : Row .u32 w6.drew ao X.told := (seg_row HD6.out.2.2.1).1.mono hbd
      have Q7 : Row .u32 w6.drew aq X.told := (seg_row HD6.out.2.2.2.1).1.mono hbd
      have B7 : Below w.heap.size w w6.drew := below_two HD6.out.2.2.2.2 hbd
      clear hbd
      go_region_held3 (fun w' => True) (exact trivial) (first
        | (go_at_call 14; refine (sameB ao aq tl co cq X.told _ ?_ ?_ HTL.out ?_).mono ?_; exact R7; exact Q7; omega; rintro e w7 ⟨rfl, b7⟩; have A7 := A7.below b7; have G7 := G7.below b7; have B7 := below_two B7 b7; clear b7)
        | (go_at_call_of 15 (Value.pointer (some (Addr.mk N 0 none))); refine (failQ N x1 q f1 en _ ?_ HFF.out.1).mono ?_; exact A7; rintro e w8 ⟨rfl, b8⟩; have A7 := A7.below b8; have G7 := G7.below b8; have B7 := below_two B7 b8; clear b8)
        | (go_at_call_of 15 (Value.pointer (some (Addr.mk M 0 none))); refine (failQ M x2 q f2 en2 _ ?_ HFF.out.2).mono ?_; exact G7; rintro e w8 ⟨rfl, b8⟩; have A7 := A7.below b8; have G7 := G7.below b8; have B7 := below_two B7 b8; clear b8)
        | (go_at_call_of 17 (Value.pointer (some (Addr.mk N 0 none))); refine (at_any N 0 x1 q en _ ?_).mono ?_; exact A7; rintro e w9 ⟨rfl, rfl⟩)
        | (go_at_call_of 17 (Value.pointer (some (Addr.mk M 0 none))); refine (at_any M 0 x2 q en2 _ ?_).mono ?_; exact G7; rintro e w9 ⟨rfl, rfl⟩))
      all_goals
        go_wp2
        go_ret
        exact ⟨by first | rfl | exact ret_bool (by simp), B7⟩
    · have hev : ((s.size : Int) % 2 == 0) = false := by simp; omega
      go_wp2_with fail
      refine (awake_any _).mono ?_
      rintro e w2 ⟨rfl, b2⟩
      go_wp2
      go_ret
      exact ⟨rfl, below_two HB1.out b2⟩
set_option maxRecDepth 100000 in
theorem lifted (os : Os) (started : os.Started) (H : Type) (enc : TypeId × Value → H) :
    ReturnsInHanded {} Try.checked os 8 .any (Rows.uni16TurnedSpec.pre6 enc Try.prog Try.f8 Rows.uni16TurnedRow.domain false) (Rows.uni16TurnedSpec.post enc Try.prog Try.f8 false true false false) := by
  refine returnsInHanded_of_change (C := Try.checked) Bas.own started (by kernel_rfl) Try.func8
    (ChangeSpec.witness6 (enc := enc) (C := Try.checked) false ⟨#[], #[.string ByteArray.empty], []⟩ 8 (by kernel_rfl) (by kernel_rfl) (by kernel_rfl) (by kernel_rfl)) ?_
  intro W base args ds gs before hval0 hW hcnd _
  have hval : ∀ (j : Nat) t v, Try.f8.params[j]? = some t → args[j]? = some v → Value.okWide Try.prog W .any base t v := hval0
  have hW' := hW
  obtain ⟨p, q, hA0, hV, rfl, hfz, hnd⟩ := hW
  have hA : DataW.TrodAll enc Try.prog W 0 (fun _ => true) true Try.f8.params.toList args.toList ds p := hA0
  rw [Try.params8] at hA hval
  obtain ⟨v0, vs0, d0, ds0, p0, q0, hargs, rfl, rfl, h0, r0⟩ := trodAll_cons hA
  obtain ⟨rfl, rfl, rfl⟩ := trodAll_nil r0
  obtain rfl : args = #[v0] := by cases args; simp_all
  obtain ⟨rfl, rfl⟩ := trodVars_none hV
  have k0 := h0
  have lt0 : ∀ x ∈ p0, x.block < W.heap.size := by obtain ⟨m, hm⟩ := k0; exact DataW.trod_lt m _ _ _ hm
  obtain ⟨a0, rfl, rfl, rfl, w0⟩ := open_string Try.underlying9 (hval 0 9 v0 rfl rfl) h0
  refine (walk W a0 w0).mono fun e W' ⟨he, bel⟩ => ?_
  subst he
  exact ⟨_, rfl, _, _, _, [], _, [], hW', trodAll_mk1 (shut_bool Try.underlying4 _), (trodAll_cons_mk (Below.trod Bas.laidOut (by kernel_rfl) (of_decide_eq_true (by kernel_rfl)) k0 bel lt0) trodAll_mk0), rfl, bel.frame _, fun h => by cases h⟩

theorem over : Rows.uni16TurnedRow.holds Try.pinned (OpenSpec.ofChange Rows.uni16TurnedSpec) :=
  OpenClaim.holds_of_wide 8 Try.f8 rfl rfl rfl rfl rfl rfl rfl ⟨rfl, rfl, rfl, rfl, rfl⟩ rfl rfl rfl rfl rfl (by kernel_rfl) Try.func8 (by kernel_rfl)
    (of_decide_eq_true (by kernel_rfl)) (by unfold Func.isWrapper; first | (rw [if_pos (by decide +kernel)]; kernel_rfl) | (rw [if_neg (by decide +kernel)]; exact ⟨rfl, rfl⟩))
    (fun os started H enc _ => lifted os started H enc)
end Go.Proofs.Ytajpllhljgpidaa.uni16Turned
namespace Go.Proofs.Ytajpllhljgpidaa
/-- The statement. -/
theorem uni16Turned_proved : Rows.Uni16TurnedSaid := uni16Turned.over
end Go.Proofs.Ytajpllhljgpidaa
