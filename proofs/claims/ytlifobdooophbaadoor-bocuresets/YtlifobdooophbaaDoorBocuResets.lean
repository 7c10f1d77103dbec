/-
  Proved: two texts that denote something, with FF between, denote what both denote, one behind the other; so they do without FF, if the first one ends with a control. No condition.
-/
import Derived.Test.YtlifobdooophbaaDoorBORd
import Derived.Test.YtlifobdooophbaaDoorBOAwk
import Derived.Test.YtlifobdooophbaaDoorBOGrt
import Derived.Test.YtlifobdooophbaaDoorPair
import Derived.Test.YtlifobdooophbaaDoorMemStep
import Derived.Test.YtlifobdooophbaaDoorRefO
import Derived.Test.YtlifobdooophbaaDoorDifTab
namespace Go.Proofs.YtlifobdooophbaaDoor
open Go.ChangeShapes Go.WideShapes Go.ChangeAt Go.RowKit
open Go.ChangeMaps (open_string shut_string)
namespace bocuResets
open Bas Sca Stp Scn Cod BO
set_option linter.unusedVariables false

theorem size_app (s t : ByteArray) : (s ++ t).size = s.size + t.size := by rw [← bytesL_length, bytesL_append, List.length_append, bytesL_length, bytesL_length]
/-- A whole text, and what follows it. -/
theorem whole (s : ByteArray) (X : Res St) (hX : X = scan Boc.stepB Boc.st0 (bytesL s)) (hq : endQ X = 0) : X.bad = false ∧ X.st.beg = [] ∧ X.eaten = s.size := by
  have hbad : X.bad = false ∧ rest X.st = true := by
    unfold endQ at hq
    split at hq
    · omega
    · split at hq
      · exact ⟨by simpa using (by assumption : ¬ X.bad = true), by assumption⟩
      · omega
  refine ⟨hbad.1, by simpa [rest] using hbad.2, ?_⟩
  rw [hX, ← bytesL_length]
  exact scan_all Boc.stepB _ _ (by rw [← hX]; exact hbad.1)
/-- With FF between. -/
theorem joint_ff (s t : ByteArray) (X Y : Res St) (hX : X = scan Boc.stepB Boc.st0 (bytesL s)) (hY : Y = scan Boc.stepB Boc.st0 (bytesL t)) (hq : endQ X = 0) :
    scan Boc.stepB Boc.st0 (bytesL ((s ++ { data := #[255] }) ++ t)) = Y.pre X.told (s.size + 1) := by
  obtain ⟨h1, h2, h3⟩ := whole s X hX hq
  rw [bytesL_append, bytesL_append, List.append_assoc, scan_append, ← hX, if_neg (by rw [h1]; simp)]
  have e : bytesL ({ data := #[255] } : ByteArray) = [255] := rfl
  rw [e, List.cons_append, List.nil_append, scan_some _ (Boc.step_ff h2), Res.pre_pre, h3, List.append_nil]
  rw [hY]; rfl
/-- Behind a control. -/
theorem joint_none (s t : ByteArray) (X Y : Res St) (hX : X = scan Boc.stepB Boc.st0 (bytesL s)) (hY : Y = scan Boc.stepB Boc.st0 (bytesL t)) (hq : endQ X = 0) (c : Int) (hc : X.told.getLast? = some c) (h32 : c < 32) :
    scan Boc.stepB Boc.st0 (bytesL ((s ++ { data := #[] }) ++ t)) = Y.pre X.told (s.size + 0) := by
  obtain ⟨h1, h2, h3⟩ := whole s X hX hq
  have hst : X.st = Boc.st0 := by
    have := Boc.last_ctl (bytesL s) Boc.st0 Boc.good_0 (bytesL_byte s) c (by rw [← hX]; exact hc) h32 (by rw [← hX]; exact h2)
    rw [← hX] at this
    show (⟨X.st.ag, X.st.beg⟩ : Boc.St) = Boc.st0
    rw [this, h2]; rfl
  rw [bytesL_append, bytesL_append, List.append_assoc, scan_append, ← hX, if_neg (by rw [h1]; simp), hst, h3]
  have e : bytesL ({ data := #[] } : ByteArray) = [] := rfl
  rw [e, List.nil_append, ← hY]; rfl
theorem last_nth {l : List Int} {c : Int} (h : l ≠ []) (hc : nth l (l.length - 1) = c) : l.getLast? = some c := by
  rw [List.getLast?_eq_getElem?]
  have : l.length - 1 < l.length := by have := List.length_pos_iff.2 h; omega
  rw [← hc, nth, List.getElem?_eq_getElem this]; rfl
theorem failQ (N m : Nat) (q fa : Int) (en : Bool) (w : World) (h : BaseAt w N 0 m q en) (hf : failAt (m : Int) q = fa) :
    Calls Tryd.prog 17 #[.pointer (some ⟨N, 0, none⟩)] w fun e w' => e = .returned (.agg #[.int .i64 q, .int .i64 fa]) ∧ Below w.heap.size w w' := by
  subst hf
  exact fail_any N 0 m q en w h
theorem chg_new {w w1 w2 : World} {H : Nat} (hb : Below w.heap.size w w1) (hc : Chg (fun b _ => (Value.slice (some ⟨H, 0, none⟩) 0 0).ownBlock = some b) w1 w2) (hH : w.heap.size ≤ H) : Chg (fun _ _ => False) w w2 :=
  (chg_of_below hb (Nat.le_refl _) _).trans2 hc (fun _ _ _ h => h) (fun k j hk h => by simp [Value.ownBlock] at h; omega)
theorem own_new {w w1 : World} {H : Nat} {v : Value} (hm : Mov w1 (.slice (some ⟨H, 0, none⟩) 0 0) v) (hb : Below w.heap.size w w1) (hH : w.heap.size ≤ H) : ∀ g, v.ownBlock = some g → w.heap.size ≤ g := fun g hg => by
  have := hb.size
  rcases hm g hg with e | e
  · simp [Value.ownBlock] at e; omega
  · omega
theorem chg_more {w w1 w2 : World} {v : Value} (hc : Chg (fun _ _ => False) w w1) (h2 : Chg (fun b _ => v.ownBlock = some b) w1 w2) (hf : ∀ g, v.ownBlock = some g → w.heap.size ≤ g) : Chg (fun _ _ => False) w w2 :=
  hc.trans2 h2 (fun _ _ _ h => h) (fun k j hk h => by have := hf k h; omega)
theorem seg_two {w : World} {v : Value} {l m : List Int} {zl : Nat} (h : Seg .u32 w v ([] ++ l ++ m)) (hl : (l ++ m).length = zl) : ∃ a c, v = .slice a zl c ∧ Row .u32 w a (l ++ m) := by
  obtain ⟨a, c, e, r, -⟩ := h.form
  rw [List.nil_append] at e r
  rw [hl] at e
  exact ⟨a, c, e, r⟩
set_option maxHeartbeats 8000000 in
set_option maxRecDepth 100000 in
theorem walk (w : World) (hT : Dif.Tabs w) (s : ByteArray) (hwf : s.size ≤ maxLen) (t : ByteArray) (hwf2 : t.size ≤ maxLen) :
    Calls Tryd.prog 10 #[.string s, .string t] w fun e w' => e = .returned (.bool true) ∧ Below w.heap.size w w' := by
  have HT : Hid (Dif.Tabs w) := hT
  obtain ⟨π, -⟩ : ∃ π : Par, π = π := ⟨(), rfl⟩
  clear hT hwf hwf2
  go_enter Tryd.func10, Tryd.ntmps10
  go_wp2_with fail
  refine (awake_any w HT.out).mono ?_
  rintro e w1 ⟨rfl, b1⟩
  have HB1 : Hid (Below w.heap.size w w1) := b1
  have HAW : Hid (Dif.Tabs w1) := HT.out.below b1
  clear b1
  go_wp2_with fail
  refine (great_any _ none none 0 0 0 0 w1).mono ?_
  rintro e w1 ⟨rfl, rfl⟩
  obtain ⟨g, hg⟩ : ∃ g, (decide ((s.size : Int) > 400) || (decide (0 > 200) || decide (0 > 200))) = g := ⟨_, rfl⟩
  rw [hg]
  cases g with
  | true =>
    clear hg
    go_wp2_with fail
    refine (awake_any _ HAW.out).mono ?_
    rintro e w2 ⟨rfl, b2⟩
    go_wp2
    go_ret
    exact ⟨rfl, below_two HB1.out b2⟩
  | false =>
  obtain ⟨h400, -, -⟩ := great_no hg
  clear hg
  go_wp2_with fail
  refine (great_any _ none none 0 0 0 0 w1).mono ?_
  rintro e w1 ⟨rfl, rfl⟩
  obtain ⟨g, hg⟩ : ∃ g, (decide ((t.size : Int) > 400) || (decide (0 > 200) || decide (0 > 200))) = g := ⟨_, rfl⟩
  rw [hg]
  cases g with
  | true =>
    clear hg
    go_wp2_with fail
    refine (awake_any _ HAW.out).mono ?_
    rintro e w2 ⟨rfl, b2⟩
    go_wp2
    go_ret
    exact ⟨rfl, below_two HB1.out b2⟩
  | false =>
  obtain ⟨h401, -, -⟩ := great_no hg
  clear hg
  obtain ⟨X, hX⟩ : ∃ X, X = scan (stepU π) (st0 π) (bytesL s) := ⟨_, rfl⟩
  obtain ⟨Y, hY⟩ : ∃ Y, Y = scan (stepU π) (st0 π) (bytesL t) := ⟨_, rfl⟩
  have hXt : X.told.length ≤ 400 := by
    rw [hX]; have := scan_short (stepU π) (step_one π) (bytesL s) (st0 π); rw [bytesL_length] at this; omega
  have hYt : Y.told.length ≤ 400 := by
    rw [hY]; have := scan_short (stepU π) (step_one π) (bytesL t) (st0 π); rw [bytesL_length] at this; omega
  have hYe : Y.eaten ≤ t.size := by rw [hY, ← bytesL_length]; exact scan_le (stepU π) _ _
  have HX : Hid (X = scan (stepU π) (st0 π) (bytesL s)) := hX
  have HY : Hid (Y = scan (stepU π) (st0 π) (bytesL t)) := hY
  clear hX hY
  obtain ⟨N, hN⟩ : ∃ N, N = w1.heap.size := ⟨_, rfl⟩
  have HN : Hid (N = w1.heap.size ∧ w.heap.size ≤ N) := ⟨hN, by rw [hN]; exact HB1.out.size⟩
  clear hN
  go_wp2_with fail
  refine (newD_any π w1 HN.out.1 HAW.out).mono ?_
  rintro e w2 ⟨rfl, D2, z2, B2⟩
  go_wp2_with fail
  refine (newD_any π w2 z2.symm D2.tabs).mono ?_
  rintro e w3 ⟨rfl, F3, z3, B3⟩
  go_wp2_with fail
  refine (newD_any π w3 z3.symm F3.tabs).mono ?_
  rintro e w4 ⟨rfl, G4, z4, B4⟩
  have D4 := (D2.below (B3.mono (by omega))).below (B4.mono (by omega))
  have F4 := F3.below (B4.mono (by omega))
  have HB4 : Hid (Below w.heap.size w w4) := ((HB1.out.trans (B2.mono HN.out.2)).trans (B3.mono (by have := HN.out.2; omega))).trans (B4.mono (by have := HN.out.2; omega))
  have HD4 : Hid (DecV π w4 N 0 0 false (st0 π) [] (.slice none 0 0) (.slice none 0 0) ∧ DecV π w4 (N + 1) 0 0 false (st0 π) [] (.slice none 0 0) (.slice none 0 0) ∧ DecV π w4 (N + 1 + 1) 0 0 false (st0 π) [] (.slice none 0 0) (.slice none 0 0) ∧ w4.heap.size = N + 3) := ⟨D4, F4, G4, by omega⟩
  clear D2 F3 G4 z2 z3 z4 B2 B3 B4 D4 F4
  obtain ⟨N1, hN1⟩ : ∃ N1, N + 1 = N1 := ⟨_, rfl⟩
  obtain ⟨N2, hN2⟩ : ∃ N2, N1 + 1 = N2 := ⟨_, rfl⟩
  rw [hN1, hN2] at HD4 ⊢
  have hNa : N < N1 := by omega
  have hNb : N1 < N2 := by omega
  have hNc : N2 < N + 3 := by omega
  clear hN1 hN2
  have HN2 : Hid (2 ≤ N) := by have := HAW.out.pos; have := HN.out.1; show 2 ≤ N; omega
  go_wp2_with fail
  refine (read_any N _ _ s none none 0 0 0 0 [] [] X w4 HD4.out.1 HX.out (ints_none _ _) (ints_none _ _) (fun b' o' h0 e h => by omega) (fun b' o' h0 e h => by omega) (by omega) (by omega) (by omega)).mono ?_
  rintro e w5 ⟨vo, rfl, v5, u5, s5, f5, D5, C5⟩
  have HB5 : Hid (Below w.heap.size w w5) := HB4.out.trans (C5.below HB4.out.size (fun k j hk h => by have := footD_nil h; have := HN.out.2; omega))
  have F5 := HD4.out.2.1.chg C5 (fun k j h1 h2 => by have := footD_nil h1; have := footD_nil h2; omega) (fun j h2 => by have := footD_nil h2; have := HN2.out; omega) (fun j h2 => by have := footD_nil h2; have := HN2.out; omega)
  have G5 := HD4.out.2.2.1.chg C5 (fun k j h1 h2 => by have := footD_nil h1; have := footD_nil h2; omega) (fun j h2 => by have := footD_nil h2; have := HN2.out; omega) (fun j h2 => by have := footD_nil h2; have := HN2.out; omega)
  obtain ⟨ao, co, hvo, hro, -, hco, -, hnil⟩ := s5.form
  obtain ⟨tl, htl⟩ : ∃ tl, X.told.length = tl := ⟨_, rfl⟩
  rw [htl] at hvo hXt hco
  subst hvo
  have HD5 : Hid (BaseAt w5 N 0 X.eaten (endQ X) (endE X) ∧ DecV π w5 N1 0 0 false (st0 π) [] (.slice none 0 0) (.slice none 0 0) ∧ DecV π w5 N2 0 0 false (st0 π) [] (.slice none 0 0) (.slice none 0 0) ∧ N + 3 ≤ w5.heap.size) := ⟨D5.base, F5, G5, by have := C5.size; have := HD4.out.2.2.2; omega⟩
  have HS5 : Hid (Seg .u32 w5 (.slice ao tl co) X.told ∧ (∀ g, (Value.slice ao tl co).ownBlock = some g → N + 3 ≤ g)) := ⟨s5, fun g hg => by have := f5 g hg; have := HD4.out.2.2.2; omega⟩
  have HTL : Hid (X.told.length = tl ∧ (ao = none → co = 0)) := ⟨htl, hnil⟩
  clear F5 G5 D5 C5 s5 f5 hro htl hnil HD4 HB4
  go_wp2_with fail
  refine (read_any N1 _ _ t none none 0 0 0 0 [] [] Y w5 HD5.out.2.1 HY.out (ints_none _ _) (ints_none _ _) (fun b' o' h0 e h => by omega) (fun b' o' h0 e h => by omega) (by omega) (by omega) (by omega)).mono ?_
  rintro e w6 ⟨vo, rfl, v6, u6, s6, f6, F6, C6⟩
  have HB6 : Hid (Below w.heap.size w w6) := HB5.out.trans (C6.below HB5.out.size (fun k j hk h => by have := footD_nil h; have := HN.out.2; omega))
  have D6 := HD5.out.1.chg C6 (fun k j h1 h2 => by have := h1.1; have := footD_nil h2; omega)
  have G6 := HD5.out.2.2.1.chg C6 (fun k j h1 h2 => by have := footD_nil h1; have := footD_nil h2; omega) (fun j h2 => by have := footD_nil h2; have := HN2.out; omega) (fun j h2 => by have := footD_nil h2; have := HN2.out; omega)
  have S6 := HS5.out.1.chg C6 (fun g o hg h2 => by have := HS5.out.2 g hg; have := footD_nil h2; omega)
  obtain ⟨ap, cp, hvp, hrp, -, hcp, -, hnilp⟩ := s6.form
  obtain ⟨yl, hyl⟩ : ∃ yl, Y.told.length = yl := ⟨_, rfl⟩
  rw [hyl] at hvp hYt hcp
  subst hvp
  have HD6 : Hid (BaseAt w6 N 0 X.eaten (endQ X) (endE X) ∧ BaseAt w6 N1 0 Y.eaten (endQ Y) (endE Y) ∧ DecV π w6 N2 0 0 false (st0 π) [] (.slice none 0 0) (.slice none 0 0) ∧ N + 3 ≤ w6.heap.size) := ⟨D6, F6.base, G6, by have := C6.size; have := HD5.out.2.2.2; omega⟩
  have HS6 : Hid (Seg .u32 w6 (.slice ao tl co) X.told ∧ Seg .u32 w6 (.slice ap yl cp) Y.told ∧ (∀ g, (Value.slice ao tl co).ownBlock = some g → N + 3 ≤ g) ∧ (∀ g, (Value.slice ap yl cp).ownBlock = some g → N + 3 ≤ g)) := ⟨S6, s6, HS5.out.2, fun g hg => by have := f6 g hg; have := HD5.out.2.2.2; omega⟩
  have HYL : Hid (Y.told.length = yl ∧ (ap = none → cp = 0)) := ⟨hyl, hnilp⟩
  clear D6 G6 F6 S6 C6 s6 f6 hrp hyl hnilp HD5 HB5 HS5
  go_wp2_with fail
  refine (fail_any N 0 _ (endQ X) (endE X) w6 HD6.out.1).mono ?_
  rintro e w7 ⟨rfl, b7⟩
  have hc7 := chg_of_below b7 (Nat.le_refl _) (fun _ _ => False)
  have HD7 : Hid (BaseAt w7 N1 0 Y.eaten (endQ Y) (endE Y) ∧ DecV π w7 N2 0 0 false (st0 π) [] (.slice none 0 0) (.slice none 0 0) ∧ N + 3 ≤ w7.heap.size ∧ Below w.heap.size w w7) := ⟨HD6.out.2.1.below b7, HD6.out.2.2.1.below b7, by have := b7.size; have := HD6.out.2.2.2; omega, below_two HB6.out b7⟩
  have HS7 : Hid (Seg .u32 w7 (.slice ao tl co) X.told ∧ Seg .u32 w7 (.slice ap yl cp) Y.told ∧ (∀ g, (Value.slice ao tl co).ownBlock = some g → N + 3 ≤ g) ∧ (∀ g, (Value.slice ap yl cp).ownBlock = some g → N + 3 ≤ g)) := ⟨HS6.out.1.chg hc7 (fun _ _ _ h => h), HS6.out.2.1.chg hc7 (fun _ _ _ h => h), HS6.out.2.2.1, HS6.out.2.2.2⟩
  clear b7 hc7 HD6 HS6 HB6
  have hfl := fld (endQ X) (failAt X.eaten (endQ X))
  by_cases hq : endQ X = 0
  · have HQ : Hid (endQ X = 0) := hq
    obtain ⟨fa, hfa⟩ : ∃ fa, failAt X.eaten (endQ X) = fa := ⟨_, rfl⟩
    rw [hfa] at hfl ⊢
    rw [hq] at hfl ⊢
    clear hq hfa
    have m1 : ¬ 9223372036854775807 < s.size + 1 := by omega
    have m2 : ¬ 9223372036854775807 < s.size + 1 + t.size := by omega
    have m3 : ¬ 9223372036854775807 < s.size + 0 := by omega
    have m4 : ¬ 9223372036854775807 < s.size + t.size := by omega
    have m5 : ¬ 9223372036854775807 < s.size := by omega
    have hcs : (tl = 0) ∨ (0 < tl ∧ nth X.told (tl - 1) < 32) ∨ (0 < tl ∧ ¬ nth X.told (tl - 1) < 32) := by omega
    rcases hcs with h0 | ⟨h0, hc⟩ | ⟨h0, hc⟩
    have i1 : (tl : Int) ≤ 0 := by omega
    have i2 : ¬ (tl : Int) > 0 := by omega
    clear h0
    obtain ⟨J, jn, hJ, HJ⟩ : ∃ (J : ByteArray) (jn : Nat), ({ data := #[255] } : ByteArray) = J ∧ Hid (J.size = jn ∧ jn ≤ 1 ∧ scan (stepU π) (st0 π) (bytesL ((s ++ J) ++ t)) = Y.pre X.told (s.size + jn)) := ⟨_, 1, rfl, rfl, by omega, joint_ff s t X Y HX.out HY.out HQ.out⟩
    have HJJ : Hid (({ data := #[255] } : ByteArray) = J) := hJ
    clear hJ
    go_wp2_with fail
    rw [HJJ.out]
    clear HJJ i1 i2
    rotate_left
    obtain ⟨m, hm⟩ : ∃ m, tl - 1 = m := ⟨_, rfl⟩
    rw [hm] at hc
    obtain ⟨c, hce⟩ : ∃ c, nth X.told m = c := ⟨_, rfl⟩
    have HM1 : Hid ((tl : Int) - 1 = (m : Int)) := (by omega : (tl : Int) - 1 = (m : Int))
    have hm4 : m < tl := by omega
    have ht0 : tl ≠ 0 := by omega
    have hm2 : (m : Int) < (tl : Int) := by omega
    replace hc : c < 32 := by rw [← hce]; exact hc
    have HLS : Hid (X.told.getLast? = some c) := last_nth (by intro e; have := HTL.out.1; rw [e] at this; exact ht0 this.symm) (by rw [HTL.out.1, hm]; exact hce)
    obtain ⟨J, jn, hJ, HJ⟩ : ∃ (J : ByteArray) (jn : Nat), ({ data := #[] } : ByteArray) = J ∧ Hid (J.size = jn ∧ jn ≤ 1 ∧ scan (stepU π) (st0 π) (bytesL ((s ++ J) ++ t)) = Y.pre X.told (s.size + jn)) := ⟨_, 0, rfl, rfl, by omega, joint_none s t X Y HX.out HY.out HQ.out c HLS.out hc⟩
    have HJJ : Hid (({ data := #[] } : ByteArray) = J) := hJ
    clear hJ
    have hcell : ∃ g o, ao = some ⟨g, o, none⟩ ∧ w7.cell? ⟨g, o + m, none⟩ = some (.int .u32 c) := by
      obtain ⟨g, o, e1, e2, -⟩ := HS7.out.1.at (j := m) (by rw [HTL.out.1]; omega)
      exact ⟨g, o, e1, by rw [e2, hce]⟩
    obtain ⟨g, o, rfl, hcell⟩ := hcell
    have hm3 : (tl : Int) > 0 := by omega
    clear hce hm h0
    go_wp2_with fail
    rw [HM1.out]
    go_simp
    go_wp2_with fail
    rw [HJJ.out]
    obtain ⟨ao, hao⟩ : ∃ ao, some (⟨g, o, none⟩ : Addr) = ao := ⟨_, rfl⟩
    rw [hao] at HTL HS7 ⊢
    clear hao HJJ hcell hm2 hm3 hm4 ht0 HM1
    rotate_left
    obtain ⟨m, hm⟩ : ∃ m, tl - 1 = m := ⟨_, rfl⟩
    rw [hm] at hc
    obtain ⟨c, hce⟩ : ∃ c, nth X.told m = c := ⟨_, rfl⟩
    have HM1 : Hid ((tl : Int) - 1 = (m : Int)) := (by omega : (tl : Int) - 1 = (m : Int))
    have hm4 : m < tl := by omega
    have ht0 : tl ≠ 0 := by omega
    have hm2 : (m : Int) < (tl : Int) := by omega
    replace hc : 32 ≤ c := by rw [← hce]; omega
    obtain ⟨J, jn, hJ, HJ⟩ : ∃ (J : ByteArray) (jn : Nat), ({ data := #[255] } : ByteArray) = J ∧ Hid (J.size = jn ∧ jn ≤ 1 ∧ scan (stepU π) (st0 π) (bytesL ((s ++ J) ++ t)) = Y.pre X.told (s.size + jn)) := ⟨_, 1, rfl, rfl, by omega, joint_ff s t X Y HX.out HY.out HQ.out⟩
    have HJJ : Hid (({ data := #[255] } : ByteArray) = J) := hJ
    clear hJ
    have hcell : ∃ g o, ao = some ⟨g, o, none⟩ ∧ w7.cell? ⟨g, o + m, none⟩ = some (.int .u32 c) := by
      obtain ⟨g, o, e1, e2, -⟩ := HS7.out.1.at (j := m) (by rw [HTL.out.1]; omega)
      exact ⟨g, o, e1, by rw [e2, hce]⟩
    obtain ⟨g, o, rfl, hcell⟩ := hcell
    have hm3 : (tl : Int) > 0 := by omega
    clear hce hm h0
    go_wp2_with fail
    rw [HM1.out]
    go_simp
    go_wp2_with fail
    rw [HJJ.out]
    obtain ⟨ao, hao⟩ : ∃ ao, some (⟨g, o, none⟩ : Addr) = ao := ⟨_, rfl⟩
    rw [hao] at HTL HS7 ⊢
    clear hao HJJ hcell hm2 hm3 hm4 ht0 HM1
    rotate_left
    all_goals
      obtain ⟨Z, hZ⟩ : ∃ Z, Y.pre X.told (s.size + jn) = Z := ⟨_, rfl⟩
      have HZ : Hid (Z.told = X.told ++ Y.told ∧ Z.eaten = s.size + jn + Y.eaten ∧ endQ Z = endQ Y ∧ Z = scan (stepU π) (st0 π) (bytesL ((s ++ J) ++ t)) ∧ J.size = jn ∧ jn ≤ 1) := by subst hZ; exact ⟨rfl, rfl, rfl, HJ.out.2.2.symm, HJ.out.1, HJ.out.2.1⟩
      have hzs : ((s ++ J) ++ t).size ≤ 1000 := by rw [size_app, size_app, HJ.out.1]; have := HJ.out.2.1; omega
      clear hZ HJ m1 m2 m3 m4 m5
      refine (read_any N2 _ _ ((s ++ J) ++ t) none none 0 0 0 0 [] [] Z w7 HD7.out.2.1 HZ.out.2.2.2.1 (ints_none _ _) (ints_none _ _) (fun b' o' h0 e h => by omega) (fun b' o' h0 e h => by omega) (by omega) (by omega) (by omega)).mono ?_
      rintro e w8 ⟨vo, rfl, vx, ux, s8, f8, G8, C8⟩
      have HB8 : Hid (Below w.heap.size w w8) := HD7.out.2.2.2.trans (C8.below HD7.out.2.2.2.size (fun k j hk h => by have := footD_nil h; have := HN.out.2; omega))
      have F8 := HD7.out.1.chg C8 (fun k j h1 h2 => by have := h1.1; have := footD_nil h2; omega)
      have L8 := HS7.out.1.chg C8 (fun g o hg h2 => by have := HS7.out.2.2.1 g hg; have := footD_nil h2; omega)
      have M8 := HS7.out.2.1.chg C8 (fun g o hg h2 => by have := HS7.out.2.2.2 g hg; have := footD_nil h2; omega)
      have R8 := s8.form
      rw [HZ.out.1] at R8
      obtain ⟨aq, cq, hvq, hrq, -, hcq, -, -⟩ := R8
      obtain ⟨zl, hzl⟩ : ∃ zl, (X.told ++ Y.told).length = zl := ⟨_, rfl⟩
      have hzz : zl = tl + yl := by rw [← hzl, List.length_append, HTL.out.1, HYL.out.1]
      rw [hzl] at hvq hcq
      subst hvq
      have G8b := G8.base
      rw [HZ.out.2.2.1] at G8b
      obtain ⟨ze, hze⟩ : ∃ ze, Z.eaten = ze := ⟨_, rfl⟩
      obtain ⟨ye, hye⟩ : ∃ ye, Y.eaten = ye := ⟨_, rfl⟩
      have hzy : ze = s.size + jn + ye := by rw [← hze, ← hye]; exact HZ.out.2.1
      rw [hze] at G8b
      rw [hye] at F8
      obtain ⟨qy, hqy⟩ : ∃ qy, endQ Y = qy := ⟨_, rfl⟩
      obtain ⟨ez, hez⟩ : ∃ ez, endE Z = ez := ⟨_, rfl⟩
      obtain ⟨ey, hey⟩ : ∃ ey, endE Y = ey := ⟨_, rfl⟩
      rw [hqy, hez] at G8b
      rw [hqy, hey] at F8
      have hJn : J.size = jn := HZ.out.2.2.2.2.1
      have hj1 : jn ≤ 1 := HZ.out.2.2.2.2.2
      have hye2 : ye ≤ t.size := by rw [← hye]; exact hYe
      have H8 : Hid (BaseAt w8 N2 0 ze qy ez ∧ BaseAt w8 N1 0 ye qy ey ∧ Row .u32 w8 aq (X.told ++ Y.told) ∧ Row .u32 w8 ao X.told ∧ Row .u32 w8 ap Y.told) := ⟨G8b, F8, hrq, (seg_row L8).1, (seg_row M8).1⟩
      have HZL : Hid ((X.told ++ Y.told).length = zl) := hzl
      clear hze hye hqy hez hey G8b F8 L8 M8 C8 s8 f8 G8 HD7 HS7 hzs hrq hzl hfl
      have hzm : zl ≤ maxLen := by unfold maxLen; omega
      have hfq := fld qy (failAt (ze : Int) qy)
      have hfq2 := fld qy (failAt (ye : Int) qy)
      have hzi : (ze : Int) = (s.size : Int) + (jn : Int) + (ye : Int) := by omega
      have hzi2 : (ze : Int) ≤ 1000 := by omega
      obtain ⟨fz, hfz⟩ : ∃ fz, failAt (ze : Int) qy = fz := ⟨_, rfl⟩
      obtain ⟨fy, hfy⟩ : ∃ fy, failAt (ye : Int) qy = fy := ⟨_, rfl⟩
      rw [hfz] at hfq
      rw [hfy] at hfq2
      have HFZ : Hid (failAt (ze : Int) qy = fz ∧ failAt (ye : Int) qy = fy) := ⟨hfz, hfy⟩
      have HZI : Hid ((ze : Int) = (s.size : Int) + (jn : Int) + (ye : Int)) := hzi
      have HWR : Hid (IntKind.i64.wrap (IntKind.i64.wrap ((s.size : Int) + (jn : Int)) + (ye : Int)) = (ze : Int)) := by
        show _ = _
        rw [wrap_i64s ((s.size : Int) + (jn : Int)) (by omega) (by omega), wrap_i64s _ (by omega) (by omega)]; omega
      have HA1 : Hid (Seg .u32 (w8.drew.alloc (.cells #[] 43)) (.slice (some ⟨w8.heap.size, 0, none⟩) 0 0) [] ∧ Row .u32 (w8.drew.alloc (.cells #[] 43)) ao X.told ∧ Below w8.heap.size w8 (w8.drew.alloc (.cells #[] 43))) := by
        have hb : Below w8.heap.size w8 (w8.drew.alloc (.cells #[] 43)) := (Below.refl _ _).drew.alloc (by simp) _
        exact ⟨seg_empty .u32 w8.drew 43, H8.out.2.2.2.1.mono hb, hb⟩
      have HBD : Hid (([] : List Int).length + X.told.length ≤ maxLen ∧ (([] : List Int).length + X.told.length) * 4 ≤ 140737488355328 ∧ ([] ++ X.told).length + Y.told.length ≤ maxLen ∧ (([] ++ X.told).length + Y.told.length) * 4 ≤ 140737488355328) := by
        have := HTL.out.1
        have := HYL.out.1
        unfold maxLen
        refine ⟨?_, ?_, ?_, ?_⟩ <;> simp only [List.length_nil, List.nil_append] <;> omega
      clear hfz hfy hzi hzy hzz
      go_upto_region 14 with fail
      go_region_held3 (fun w' => True) (exact trivial) (first
        | (refine step_append_segG (by rfl) _ _ 27 27 (by rfl) .u32 43 4 Tryd.underlying27 info_u32 (.slice (some ⟨w8.heap.size, 0, none⟩) 0 0) [] X.told (by rfl) HA1.out.1 _ (by rfl) (src_row Tryd.underlying27 HA1.out.2.1 HTL.out.1 HTL.out.2) HBD.out.1 HBD.out.2.1 ?_; intro va wa hsa hca hma; have CA := chg_new HA1.out.2.2 hca (Nat.le_refl _); have FA := own_new hma HA1.out.2.2 (Nat.le_refl _))
        | (refine step_append_segG (by rfl) _ _ 27 27 (by rfl) .u32 43 4 Tryd.underlying27 info_u32 va ([] ++ X.told) Y.told (by rfl) hsa _ (by rfl) (src_row Tryd.underlying27 (H8.out.2.2.2.2.chg CA (fun _ _ _ _ h => h)) HYL.out.1 HYL.out.2) HBD.out.2.2.1 HBD.out.2.2.2 ?_; intro vb wb hsb hcb hmb; have CB := chg_more CA hcb FA; have HFM := seg_two hsb HZL.out; obtain ⟨ab, cb, rfl, hrb⟩ := HFM)
        | (go_at_call 16; refine (rSame_any aq ab zl zl cq cb (X.told ++ Y.told) (X.told ++ Y.told) _ ?_ ?_ HZL.out HZL.out hzm hzm).mono ?_; exact H8.out.2.2.1.chg CB (fun _ _ _ _ h => h); exact hrb; rintro e wc ⟨rfl, nd, rfl⟩; rw [cmpL_self, show ((0 : Int) == 0) = true from rfl]; have CC := CB.drewN nd)
        | (go_at_call_of 17 (Value.pointer (some (Addr.mk N2 0 none))); refine (failQ N2 ze qy fz ez _ ?_ HFZ.out.1).mono ?_; exact H8.out.1.chg CC (fun _ _ _ h => h); rintro e wd ⟨rfl, bd⟩; have CC := CC.trans (chg_of_below bd (Nat.le_refl _) _); clear bd)
        | (go_at_call_of 17 (Value.pointer (some (Addr.mk N1 0 none))); refine (failQ N1 ye qy fy ey _ ?_ HFZ.out.2).mono ?_; exact H8.out.2.1.chg CC (fun _ _ _ h => h); rintro e wd ⟨rfl, bd⟩; have CC := CC.trans (chg_of_below bd (Nat.le_refl _) _); clear bd)
        | (go_at_call_of 19 (Value.pointer (some (Addr.mk N2 0 none))); refine (at_any N2 0 ze qy ez _ ?_).mono ?_; exact H8.out.1.chg CC (fun _ _ _ h => h); rintro e wd ⟨rfl, rfl⟩)
        | (go_at_call_of 19 (Value.pointer (some (Addr.mk N1 0 none))); refine (at_any N1 0 ye qy ey _ ?_).mono ?_; exact H8.out.2.1.chg CC (fun _ _ _ h => h); rintro e wd ⟨rfl, rfl⟩))
      all_goals
        go_wp2
        go_ret
        exact ⟨by first | rfl | exact ret_bool (by simp [HWR.out]), HB8.out.trans (CC.below HB8.out.size (fun _ _ _ h => h))⟩
  · have hq' : (endQ X == 0) = false := by simp [hq]
    clear hq
    go_wp2
    go_ret
    exact ⟨rfl, HD7.out.2.2.2⟩
theorem reads (os : Os) {H : Type} (enc : TypeId × Value → H) : ∃ places, DataW.whole enc Tryd.prog ((({ World.holding Tryd.prog os ⟨#[], #[], []⟩ with heap := (((World.holding Tryd.prog os ⟨#[], #[], []⟩).heap.modify 0 Dif.lay0).modify 1 Dif.lay1) } : World)).forCall (fun _ _ => 0) ⟨#[], #[.string ByteArray.empty, .string ByteArray.empty], []⟩).memory Tryd.f10.params.toList Rows.bocuResetsSpec.vars false #[.string ByteArray.empty, .string ByteArray.empty].toList 8 = some ([.lit (.string []), .lit (.string [])], [], places) :=
  ⟨[], by kernel_rfl⟩
set_option maxRecDepth 100000 in
theorem lifted (os : Os) (started : os.Started) (H : Type) (enc : TypeId × Value → H) (Fi : Stop.Interp) :
    ReturnsInHanded {} Tryd.checked os 10 .any ((OpenSpec.ofChange Rows.bocuResetsSpec).preRow enc Tryd.prog Tryd.f10 Rows.bocuResetsRow.domain false Rows.bocuResetsRow.laid) (((OpenSpec.ofChange Rows.bocuResetsSpec).at Fi).post enc Tryd.prog Tryd.f10 false true false false) := by
  obtain ⟨places, hx⟩ := reads os enc
  refine returnsInHanded_of_row (C := Tryd.checked) (s := OpenSpec.ofChange Rows.bocuResetsSpec) Bas.own started (by kernel_rfl) Tryd.func10
    (witness_row_at (enc := enc) (C := Tryd.checked) false (({ World.holding Tryd.prog os ⟨#[], #[], []⟩ with heap := (((World.holding Tryd.prog os ⟨#[], #[], []⟩).heap.modify 0 Dif.lay0).modify 1 Dif.lay1) } : World)) #[.string ByteArray.empty, .string ByteArray.empty] rfl (by kernel_rfl) (by kernel_rfl) (by kernel_rfl)
      (OpenSpec.preRow_of_cond 8 hx (by kernel_rfl) (fun k hk => by cases hk) (by kernel_rfl) (Dif.laid_met os _))) ?_
  intro W base args ds gs before hval0 hW _ _ _ hL _ _
  have hval : ∀ (j : Nat) t v, Tryd.f10.params[j]? = some t → args[j]? = some v → Value.okWide Tryd.prog W .any base t v := hval0
  have hW' := hW
  obtain ⟨p, q, hA0, hV, rfl, hfz, hnd⟩ := hW
  have hA : DataW.TrodAll enc Tryd.prog W 0 (fun _ => true) true Tryd.f10.params.toList args.toList ds p := hA0
  rw [Tryd.params10] at hA hval
  obtain ⟨v0, vs0, d0, ds0, p0, q0, hargs, rfl, rfl, h0, r0⟩ := trodAll_cons hA
  obtain ⟨v1, vs1, d1, ds1, p1, q1, rfl, rfl, rfl, h1, r1⟩ := trodAll_cons r0
  obtain ⟨rfl, rfl, rfl⟩ := trodAll_nil r1
  obtain rfl : args = #[v0, v1] := by cases args; simp_all
  obtain ⟨rfl, rfl⟩ := trodVars_none hV
  have k0 := h0
  have lt0 : ∀ x ∈ p0, x.block < W.heap.size := by obtain ⟨m, hm⟩ := k0; exact DataW.trod_lt m _ _ _ hm
  have k1 := h1
  have lt1 : ∀ x ∈ p1, x.block < W.heap.size := by obtain ⟨m, hm⟩ := k1; exact DataW.trod_lt m _ _ _ hm
  obtain ⟨a0, rfl, rfl, rfl, w0⟩ := open_string Tryd.underlying9 (hval 0 9 v0 rfl rfl) h0
  obtain ⟨a1, rfl, rfl, rfl, w1⟩ := open_string Tryd.underlying9 (hval 1 9 v1 rfl rfl) h1
  refine (walk W (Dif.tabs_of hL) a0 w0 a1 w1).mono fun e W' ⟨he, bel⟩ => ?_
  subst he
  exact ⟨_, rfl, _, _, _, [], _, [], hW', trodAll_mk1 (shut_bool Tryd.underlying4 _), (trodAll_cons_mk (Below.trod Bas.laidOut (by kernel_rfl) (of_decide_eq_true (by kernel_rfl)) k0 bel lt0) (trodAll_cons_mk (Below.trod Bas.laidOut (by kernel_rfl) (of_decide_eq_true (by kernel_rfl)) k1 bel lt1) trodAll_mk0)), rfl, bel.frame _, fun h => by cases h⟩


theorem over : Rows.bocuResetsRow.holds Tryd.pinned (OpenSpec.ofChange Rows.bocuResetsSpec) :=
  OpenClaim.holds_of_cond 10 Tryd.f10 rfl rfl rfl rfl rfl rfl rfl ⟨rfl, rfl, rfl, rfl, rfl⟩ rfl rfl rfl rfl rfl (by kernel_rfl) Tryd.func10 (by kernel_rfl)
    (of_decide_eq_true (by kernel_rfl)) (by unfold Func.isWrapper; first | (rw [if_pos (by decide +kernel)]; kernel_rfl) | (rw [if_neg (by decide +kernel)]; exact ⟨rfl, rfl⟩))
    (fun os started H enc _ Fi => by rw [OpenClaim.pre_eq_preRow]; exact lifted os started H enc Fi)
theorem plain (f : FuncId) (fn : Func) (hf : Tryd.pinned.checked.prog.funcNamed Rows.bocuResetsRow.func = some f) (hfn : Tryd.pinned.checked.prog.funcs[f]? = some fn) :
    false = Tryd.pinned.checked.prog.looks [] ∧ ∀ (j : Nat) t, fn.params[j]? = some t → Tryd.pinned.checked.prog.wantsStandIn t = false := by
  obtain rfl : f = 10 := Option.some.inj ((show Tryd.prog.funcNamed Rows.bocuResetsRow.func = some 10 by kernel_rfl).symm.trans hf) |>.symm
  obtain rfl : fn = Tryd.f10 := (Option.some.inj (Tryd.func10.symm.trans hfn)).symm
  refine ⟨by kernel_rfl, fun j t ht => ?_⟩
  rw [Tryd.params10] at ht
  have hm : t ∈ [9, 9] := by simpa using Array.mem_of_getElem? ht
  have hall : ([9, 9].all fun u => !Tryd.prog.wantsStandIn u) = true := by kernel_rfl
  exact (show Tryd.prog.wantsStandIn t = false by simpa using List.all_eq_true.1 hall t hm)
end Go.Proofs.YtlifobdooophbaaDoor.bocuResets
namespace Go.Proofs.YtlifobdooophbaaDoor
/-- The statement: the tied card. -/
theorem bocuResets_proved : Rows.BocuResetsCardSaid :=
  Claim7.holds_tied_plain_at .later [] _ _ _ _ bocuResets.over (fun _ h => by cases h) (by kernel_rfl) (fun _ h => by cases h) bocuResets_row_tie rfl ⟨rfl, rfl⟩ (by kernel_rfl) rfl bocuResets.plain (by kernel_rfl)
end Go.Proofs.YtlifobdooophbaaDoor
