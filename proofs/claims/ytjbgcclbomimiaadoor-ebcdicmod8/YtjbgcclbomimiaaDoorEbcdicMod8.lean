/-
  Proved: turned back by the table a text is told by layer 6's decoder as it is by layer 8's: the same scalars, the same error, at the same place. No condition.
-/
import Derived.Test.YtjbgcclbomimiaaDoorEBAwk
import Derived.Test.YtjbgcclbomimiaaDoorEBGrt
import Derived.Test.YtjbgcclbomimiaaDoorM8Tab
import Derived.Test.YtjbgcclbomimiaaDoorPerRf3
import Derived.Test.YtjbgcclbomimiaaDoorPair
import Derived.Deep.RegionHeld3
namespace Go.Proofs.YtjbgcclbomimiaaDoor
open Go.ChangeShapes Go.WideShapes Go.ChangeAt Go.RowKit
open Go.ChangeMaps (open_string shut_string)
namespace ebcdicMod8
open Bas Sca Stp Scn Cod EB
set_option linter.unusedVariables false

theorem failQ (N : Nat) (p q fa : Int) (en : Bool) (w : World) (h : BaseAt w N 0 p q en) (hf : failAt p q = fa) :
    Calls Tryd.prog 22 #[.pointer (some ⟨N, 0, none⟩)] w fun e w' => e = .returned (.agg #[.int .i64 q, .int .i64 fa]) ∧ Below w.heap.size w w' := by
  subst hf
  exact fail_any N 0 p q en w h
theorem sameQ (a b : Option Addr) (n ca cb : Nat) (l : List Int) (w : World) (hr : Row .u32 w a l) (hs : Row .u32 w b l) (hl : l.length = n) (hn : n ≤ maxLen) :
    Calls Tryd.prog 21 #[.slice a n ca, .slice b n cb] w fun e w' => e = .returned (.bool true) ∧ Below w.heap.size w w' :=
  (rSame_any a b n n ca cb l l w hr hs hl hl hn hn).mono fun e w' ⟨he, k, hk⟩ => ⟨by rw [he, cmpL_self]; rfl, by rw [hk]; exact below_dn _ _⟩
theorem doneQ (N : Nat) (p q : Int) (en dn : Bool) (v : Value) (w : World) (h : BaseAt w N 0 p q en) (h2 : RowAt .u32 w N 3 v []) (hd : (!goB q en && (([] : List Int).length == 0)) = dn) :
    Calls Tryd.prog 46 #[.pointer (some ⟨N, 0, none⟩)] w fun e w' => e = .returned (.bool dn) ∧ w' = w := by
  subst hd
  exact inDone_any N 0 p q en v [] w h h2
set_option maxHeartbeats 8000000 in
set_option maxRecDepth 100000 in
theorem walk (w : World) (hT : M8.Tabs w) (s : ByteArray) (hwf : s.size ≤ maxLen) (room : Int) (hr : (Lit.int .i64 room).wf = true) :
    Calls Tryd.prog 14 #[.string s, .int .i64 room] w fun e w' => e = .returned (.bool true) ∧ Below w.heap.size w w' := by
  have HT : Hid (M8.Tabs w) := hT
  have HRM : Hid ((Lit.int .i64 room).wf = true) := hr
  clear hwf hT hr
  have HB0 : Hid (Below w.heap.size w w) := Below.refl _ _
  go_enter Tryd.func14, Tryd.ntmps14
  go_wp2_with fail
  refine (awake_any _ (HT.out.below HB0.out)).mono ?_
  rintro e w1 ⟨rfl, b1⟩
  have HB1 : Hid (Below w.heap.size w w1) := below_two HB0.out b1
  clear b1 HB0
  go_wp2_with fail
  refine (great_any _ none none 0 0 0 0 w1).mono ?_
  rintro e w1' ⟨rfl, rfl⟩
  obtain ⟨g, hg⟩ : ∃ g, (decide ((s.size : Int) > 400) || (decide (0 > 200) || decide (0 > 200))) = g := ⟨_, rfl⟩
  rw [hg]
  cases g with
  | true =>
    clear hg
    go_wp2_with fail
    refine (awake_any _ (HT.out.below HB1.out)).mono ?_
    rintro e w2 ⟨rfl, b2⟩
    go_wp2
    go_ret
    exact ⟨rfl, below_two HB1.out b2⟩
  | false =>
    obtain ⟨h400, -, -⟩ := great_no hg
    clear hg
    obtain ⟨X, hX⟩ : ∃ X, X = feed (stepU ()) room [] 0 (bytesL s) := ⟨_, rfl⟩
    have hXt : X.told.length ≤ 400 := by
      rw [hX]; have h1 := feed_short (stepU ()) (step_one ()) room (bytesL s) [] 0; have h2 := feed_le (stepU ()) room (bytesL s) [] 0; rw [bytesL_length] at h2; omega
    have HX : Hid (X = feed (stepU ()) room [] 0 (bytesL s) ∧ X = feed (M8.stepU ()) room [] 0 (bytesL (Txt.strOf (Per.turnL Per.frL (bytesL s))))) := ⟨hX, by rw [back_bytes, ← feed_turn ()]; exact hX⟩
    have hts : (Txt.strOf (Per.turnL Per.frL (bytesL s))).size ≤ 400 := by rw [Txt.strOf_size, Per.turnL_len, bytesL_length]; omega
    clear hX
    go_wp2_with fail
    refine (newD_any () _ rfl (HT.out.below HB1.out)).mono ?_
    rintro e w2 ⟨rfl, D2, z2, B2⟩
    obtain ⟨N, hN⟩ : ∃ N, N = w1'.heap.size := ⟨_, rfl⟩
    have HN : Hid (w.heap.size ≤ N ∧ 0 < N) := ⟨by rw [hN]; exact HB1.out.size, by rw [hN]; exact (HT.out.below HB1.out).pos⟩
    rw [← hN] at D2 z2 B2 ⊢
    have HD2 : Hid (DecV () w2 N 0 0 false [] [] (.slice none 0 0) (.slice none 0 0) ∧ w2.heap.size = N + 6 ∧ Below w.heap.size w w2) := ⟨D2, z2, HB1.out.trans (B2.mono HN.out.1)⟩
    clear hN D2 z2 B2 HB1
    go_wp2_with fail
    refine (M8.newD_any () w2 HD2.out.2.1.symm HD2.out.1.tabs).mono ?_
    rintro e w3 ⟨rfl, F3, z3, B3⟩
    have B3' : Below w2.heap.size w2 w3 := by rw [HD2.out.2.1]; exact B3
    have HD3 : Hid (DecV () w3 N 0 0 false [] [] (.slice none 0 0) (.slice none 0 0) ∧ M8.DecV () w3 (N + 6) 0 0 false [] [] (.slice none 0 0) (.slice none 0 0) ∧ w3.heap.size = N + 7 ∧ Below w.heap.size w w3) := ⟨HD2.out.1.below B3', F3, z3, below_two HD2.out.2.2 B3'⟩
    clear F3 z3 B3 B3' HD2
    go_wp2_with fail
    refine (feed_any N 0 [] _ _ s room X w3 HD3.out.1 HX.out.1 HRM.out (by omega) (by omega) (by omega)).mono ?_
    rintro e w4 ⟨vr4, rfl, v4, u4, s4, f4, D4, C4, M4, U4⟩
    have z3 := HD3.out.2.2.1
    have hz4 := C4.size
    have F4 := HD3.out.2.1.chg C4 (fun k j h1 h2 => by have := M8.footD_nil h1; have := footD_nil h2; omega) (fun j h2 => by have := footD_nil h2; have := HN.out.2; omega)
    have nv4 : ∀ k, footD N v4 u4 k → (N ≤ k ∧ k ≤ N + 5) ∨ N + 7 ≤ k := fun k hk => by
      rcases hk with hk | hk | hk
      · left; omega
      · right; have := mov_nil M4 k hk; omega
      · right; have := mov_nil U4 k hk; omega
    have HB4 : Hid (Below w.heap.size w w4) := HD3.out.2.2.2.trans (C4.below HD3.out.2.2.2.size (fun k j hk h => by have := footD_nil h; have := HN.out.1; omega))
    obtain ⟨ar, cr, hvr, -⟩ := s4.form
    obtain ⟨tl, htl⟩ : ∃ tl, X.told.length = tl := ⟨_, rfl⟩
    rw [htl] at hvr hXt
    subst hvr
    have HTL : Hid (X.told.length = tl) := htl
    have HD4 : Hid (DecV () w4 N (0 + X.eaten) (if X.bad = true then 3 else 0) false X.st [] v4 u4 ∧ M8.DecV () w4 (N + 6) 0 0 false [] [] (.slice none 0 0) (.slice none 0 0) ∧ N + 7 ≤ w4.heap.size ∧ Seg .u32 w4 (.slice ar tl cr) X.told ∧ (∀ g, (Value.slice ar tl cr).ownBlock = some g → N + 7 ≤ g) ∧ (∀ k, footD N v4 u4 k → (N ≤ k ∧ k ≤ N + 5) ∨ N + 7 ≤ k)) := ⟨D4, F4, by omega, s4, fun g hg => by have := (f4 g hg).1; omega, nv4⟩
    clear D4 F4 C4 M4 U4 s4 f4 nv4 HD3 z3 hz4 htl
    go_wp2_with fail
    refine (Per.rBack_any s w4 (by omega)).mono ?_
    rintro e w5 ⟨rfl, b5⟩
    have HD5 : Hid (DecV () w5 N (0 + X.eaten) (if X.bad = true then 3 else 0) false X.st [] v4 u4 ∧ M8.DecV () w5 (N + 6) 0 0 false [] [] (.slice none 0 0) (.slice none 0 0) ∧ N + 7 ≤ w5.heap.size ∧ Seg .u32 w5 (.slice ar tl cr) X.told ∧ Below w.heap.size w w5) := ⟨HD4.out.1.below b5, HD4.out.2.1.below b5, by have := HD4.out.2.2.1; have := b5.size; omega, HD4.out.2.2.2.1.chg (chg_of_below b5 (Nat.le_refl _) (fun _ _ => False)) (fun _ _ _ h => h), below_two HB4.out b5⟩
    have HS : Hid ((∀ g, (Value.slice ar tl cr).ownBlock = some g → N + 7 ≤ g) ∧ (∀ k, footD N v4 u4 k → (N ≤ k ∧ k ≤ N + 5) ∨ N + 7 ≤ k)) := HD4.out.2.2.2.2
    clear b5 HD4 HB4
    go_wp2_with fail
    refine (M8.feed_any (π := ()) (N + 6) 0 [] _ _ _ room X w5 HD5.out.2.1 HX.out.2 HRM.out (by omega) (by omega) (by omega)).mono ?_
    rintro e w6 ⟨vr6, rfl, v6, u6, s6, f6, F6, C6, M6, U6⟩
    have z5 := HD5.out.2.2.1
    have D6 := HD5.out.1.chg C6 (fun k j h1 h2 => by have := HS.out.2 k h1; have := M8.footD_nil h2; omega) (fun j h2 => by have := M8.footD_nil h2; omega)
    have S6 := HD5.out.2.2.2.1.chg C6 (fun g o hg h2 => by have := HS.out.1 g hg; have := M8.footD_nil h2; omega)
    have B6 : Below w.heap.size w w6 := HD5.out.2.2.2.2.trans (C6.below HD5.out.2.2.2.2.size (fun k j hk h => by have := M8.footD_nil h; have := HN.out.1; omega))
    have nv6 : ∀ k, M8.footD (N + 6) v6 u6 k → N + 6 ≤ k := fun k hk => by
      rcases hk with hk | hk | hk
      · omega
      · have := mov_nil M6 k hk; omega
      · have := mov_nil U6 k hk; omega
    obtain ⟨am, cm, hvm, -⟩ := s6.form
    rw [HTL.out] at hvm
    subst hvm
    have HD6 : Hid (DecV () w6 N (0 + X.eaten) (if X.bad = true then 3 else 0) false X.st [] v4 u4 ∧ M8.DecV () w6 (N + 6) (0 + X.eaten) (if X.bad = true then 3 else 0) false X.st [] v6 u6 ∧ Seg .u32 w6 (.slice ar tl cr) X.told ∧ Seg .u32 w6 (.slice am tl cm) X.told ∧ Below w.heap.size w w6) := ⟨D6, F6, S6, s6, B6⟩
    have HS6 : Hid ((∀ k, M8.footD (N + 6) v6 u6 k → N + 6 ≤ k) ∧ (∀ g, (Value.slice am tl cm).ownBlock = some g → N + 7 ≤ g)) := ⟨nv6, fun g hg => by have := (f6 g hg).1; omega⟩
    clear D6 S6 B6 s6 f6 F6 C6 M6 U6 nv6 z5 HD5 HX
    obtain ⟨pp, hpp⟩ : ∃ pp : Int, 0 + (X.eaten : Int) = pp := ⟨_, rfl⟩
    rw [hpp] at HD6
    clear hpp
    obtain ⟨q0, hq0⟩ : ∃ q0 : Int, (if X.bad = true then 3 else 0) = q0 := ⟨_, rfl⟩
    rw [hq0] at HD6
    clear hq0
    have hc0 := HD6.out.1.oc
    go_wp2_with fail
    refine (dEnd_any N _ _ _ X.st [] v4 u4 w6 HD6.out.1).mono ?_
    rintro e w7 ⟨rfl, D7, C7⟩
    have F7 := HD6.out.2.1.chg C7 (fun k j h1 h2 => by have := HS6.out.1 k h1; have := h2.1; omega) (fun j h2 => by have := h2.1; have := HN.out.2; omega)
    have S7 := HD6.out.2.2.1.chg C7 (fun g o hg h2 => by have := HS.out.1 g hg; have := h2.1; omega)
    have T7 := HD6.out.2.2.2.1.chg C7 (fun g o hg h2 => by have := HS6.out.2 g hg; have := h2.1; omega)
    have B7 : Below w.heap.size w w7 := HD6.out.2.2.2.2.trans (C7.below HD6.out.2.2.2.2.size (fun k j hk h => by have := h.1; have := HN.out.1; omega))
    obtain ⟨q, hq⟩ : ∃ q, (if rest X.st = true then q0 else stopI q0 false 4) = q := ⟨_, rfl⟩
    obtain ⟨en, hen⟩ : ∃ en, endB q false = en := ⟨_, rfl⟩
    rw [hq, hen] at D7
    have HD7 : Hid (DecV () w7 N pp q en X.st [] v4 u4 ∧ M8.DecV () w7 (N + 6) pp q0 false X.st [] v6 u6 ∧ Seg .u32 w7 (.slice ar tl cr) X.told ∧ Seg .u32 w7 (.slice am tl cm) X.told ∧ Below w.heap.size w w7) := ⟨D7, F7, S7, T7, B7⟩
    have HQ : Hid ((if M8.rest X.st = true then q0 else stopI q0 false 4) = q ∧ endB q false = en) := ⟨hq, hen⟩
    clear D7 C7 F7 S7 T7 B7 HD6 hc0 hq hen
    go_wp2_with fail
    refine (M8.dEnd_any (π := ()) (N + 6) _ _ _ X.st [] v6 u6 w7 HD7.out.2.1).mono ?_
    rintro e w8 ⟨rfl, F8, C8⟩
    rw [HQ.out.1, HQ.out.2] at F8
    have D8 := HD7.out.1.chg C8 (fun k j h1 h2 => by have := HS.out.2 k h1; have := h2.1; omega) (fun j h2 => by have := h2.1; omega)
    have S8 := HD7.out.2.2.1.chg C8 (fun g o hg h2 => by have := HS.out.1 g hg; have := h2.1; omega)
    have T8 := HD7.out.2.2.2.1.chg C8 (fun g o hg h2 => by have := HS6.out.2 g hg; have := h2.1; omega)
    have B8 : Below w.heap.size w w8 := HD7.out.2.2.2.2.trans (C8.below HD7.out.2.2.2.2.size (fun k j hk h => by have := h.1; have := HN.out.1; omega))
    have HD8 : Hid (DecV () w8 N pp q en X.st [] v4 u4 ∧ M8.DecV () w8 (N + 6) pp q en X.st [] v6 u6 ∧ Row .u32 w8 ar X.told ∧ Row .u32 w8 am X.told ∧ Below w.heap.size w w8) := ⟨D8, F8, (seg_row S8).1, (seg_row T8).1, B8⟩
    clear D8 F8 S8 T8 B8 C8 HD7 HQ HS HS6
    obtain ⟨fa, hfa⟩ : ∃ fa, failAt pp q = fa := ⟨_, rfl⟩
    obtain ⟨dn, hdn⟩ : ∃ dn, (!goB q en && (([] : List Int).length == 0)) = dn := ⟨_, rfl⟩
    have HFA : Hid (failAt pp q = fa ∧ (!goB q en && (([] : List Int).length == 0)) = dn) := ⟨hfa, hdn⟩
    clear hfa hdn
    obtain ⟨M, hM⟩ : ∃ M, N + 6 = M := ⟨_, rfl⟩
    rw [hM] at HD8 ⊢
    clear hM
    go_upto_region 8 with fail
    have hbd : Below w8.heap.size w8 w8.drew := (Below.refl _ _).drew
    have D9 := HD8.out.1.below hbd
    have F9 := HD8.out.2.1.below hbd
    have R9 := HD8.out.2.2.1.mono hbd
    have S9 := HD8.out.2.2.2.1.mono hbd
    have B9 := below_two HD8.out.2.2.2.2 hbd
    have hF := D9.oc
    clear hbd HD8
    go_region_held3 (fun w' => w'.cell? ⟨N + 5, 0, none⟩ = some (.pointer (some ⟨N, 0, none⟩))) (exact hF) (first
      | (go_at_call 21; refine (sameQ ar am tl cr cm X.told _ ?_ ?_ HTL.out ?_).mono ?_; exact R9; exact S9; (unfold maxLen; omega); rintro e w9 ⟨rfl, b9⟩; have D9 := D9.below b9; have F9 := F9.below b9; have B9 := below_two B9 b9; have hF := D9.oc; clear b9)
      | (go_at_call_of 22 (Value.pointer (some (Addr.mk N 0 none))); refine (failQ N pp q fa en _ ?_ HFA.out.1).mono ?_; exact D9.base; rintro e w9 ⟨rfl, b9⟩; have D9 := D9.below b9; have F9 := F9.below b9; have B9 := below_two B9 b9; have hF := D9.oc; clear b9)
      | (go_at_call_of 22 (Value.pointer (some (Addr.mk M 0 none))); refine (failQ M pp q fa en _ ?_ HFA.out.1).mono ?_; exact F9.base; rintro e w9 ⟨rfl, b9⟩; have D9 := D9.below b9; have F9 := F9.below b9; have B9 := below_two B9 b9; have hF := D9.oc; clear b9)
      | (go_at_call_of 24 (Value.pointer (some (Addr.mk N 0 none))); refine (at_any N 0 pp q en _ ?_).mono ?_; exact D9.base; rintro e w9 ⟨rfl, rfl⟩)
      | (go_at_call_of 24 (Value.pointer (some (Addr.mk M 0 none))); refine (at_any M 0 pp q en _ ?_).mono ?_; exact F9.base; rintro e w9 ⟨rfl, rfl⟩)
      | (go_at_call_of 46 (Value.pointer (some (Addr.mk N 0 none))); refine (doneQ N pp q en dn v4 _ ?_ ?_ HFA.out.2).mono ?_; exact D9.base; exact D9.row; rintro e w9 ⟨rfl, rfl⟩)
      | (go_at_call_of 46 (Value.pointer (some (Addr.mk M 0 none))); refine (doneQ M pp q en dn v6 _ ?_ ?_ HFA.out.2).mono ?_; exact F9.base; exact F9.row; rintro e w9 ⟨rfl, rfl⟩))
    all_goals
      go_wp2
      go_ret
      exact ⟨by first | rfl | exact ret_bool (by simp), B9⟩
theorem reads (os : Os) {H : Type} (enc : TypeId × Value → H) : ∃ places, DataW.whole enc Tryd.prog ((({ World.holding Tryd.prog os ⟨#[], #[], []⟩ with heap := ((World.holding Tryd.prog os ⟨#[], #[], []⟩).heap.modify 0 M8.lay0) } : World)).forCall (fun _ _ => 0) ⟨#[], #[.string ByteArray.empty, .int .i64 0], []⟩).memory Tryd.f14.params.toList Rows.ebcdicMod8Spec.vars false #[.string ByteArray.empty, .int .i64 0].toList 8 = some ([.lit (.string []), .lit (.int .i64 0)], [], places) :=
  ⟨[], by kernel_rfl⟩
set_option maxRecDepth 100000 in
theorem lifted (os : Os) (started : os.Started) (H : Type) (enc : TypeId × Value → H) (Fi : Stop.Interp) :
    ReturnsInHanded {} Tryd.checked os 14 .any ((OpenSpec.ofChange Rows.ebcdicMod8Spec).preRow enc Tryd.prog Tryd.f14 Rows.ebcdicMod8Row.domain false Rows.ebcdicMod8Row.laid) (((OpenSpec.ofChange Rows.ebcdicMod8Spec).at Fi).post enc Tryd.prog Tryd.f14 false true false false) := by
  obtain ⟨places, hx⟩ := reads os enc
  refine returnsInHanded_of_row (C := Tryd.checked) (s := OpenSpec.ofChange Rows.ebcdicMod8Spec) Bas.own started (by kernel_rfl) Tryd.func14
    (witness_row_at (enc := enc) (C := Tryd.checked) false (({ World.holding Tryd.prog os ⟨#[], #[], []⟩ with heap := ((World.holding Tryd.prog os ⟨#[], #[], []⟩).heap.modify 0 M8.lay0) } : World)) #[.string ByteArray.empty, .int .i64 0] rfl (by kernel_rfl) (by kernel_rfl) (by kernel_rfl)
      (OpenSpec.preRow_of_cond 8 hx (by kernel_rfl) (fun k hk => by cases hk) (by kernel_rfl) (M8.laid_met os _))) ?_
  intro W base args ds gs before hval0 hW _ _ _ hL _ _
  have hval : ∀ (j : Nat) t v, Tryd.f14.params[j]? = some t → args[j]? = some v → Value.okWide Tryd.prog W .any base t v := hval0
  have hW' := hW
  obtain ⟨p, q, hA0, hV, rfl, hfz, hnd⟩ := hW
  have hA : DataW.TrodAll enc Tryd.prog W 0 (fun _ => true) true Tryd.f14.params.toList args.toList ds p := hA0
  rw [Tryd.params14] at hA hval
  obtain ⟨v0, vs0, d0, ds0, p0, q0, hargs, rfl, rfl, h0, r0⟩ := trodAll_cons hA
  obtain ⟨v1, vs1, d1, ds1, p1, q1, rfl, rfl, rfl, h1, r1⟩ := trodAll_cons r0
  obtain ⟨rfl, rfl, rfl⟩ := trodAll_nil r1
  obtain rfl : args = #[v0, v1] := by cases args; simp_all
  obtain ⟨rfl, rfl⟩ := trodVars_none hV
  have k0 := h0
  have lt0 : ∀ x ∈ p0, x.block < W.heap.size := by obtain ⟨m, hm⟩ := k0; exact DataW.trod_lt m _ _ _ hm
  have k1 := h1
  have lt1 : ∀ x ∈ p1, x.block < W.heap.size := by obtain ⟨m, hm⟩ := k1; exact DataW.trod_lt m _ _ _ hm
  obtain ⟨a0, rfl, rfl, rfl, w0⟩ := open_string Tryd.underlying9 (hval 0 9 v0 rfl rfl) h0
  obtain ⟨a1, rfl, rfl, rfl, w1⟩ := open_int Tryd.underlying3 (hval 1 3 v1 rfl rfl) h1
  refine (walk W (M8.tabs_of hL) a0 w0 a1 w1).mono fun e W' ⟨he, bel⟩ => ?_
  subst he
  exact ⟨_, rfl, _, _, _, [], _, [], hW', trodAll_mk1 (shut_bool Tryd.underlying4 _), (trodAll_cons_mk (Below.trod Bas.laidOut (by kernel_rfl) (of_decide_eq_true (by kernel_rfl)) k0 bel lt0) (trodAll_cons_mk (Below.trod Bas.laidOut (by kernel_rfl) (of_decide_eq_true (by kernel_rfl)) k1 bel lt1) trodAll_mk0)), rfl, bel.frame _, fun h => by cases h⟩


theorem over : Rows.ebcdicMod8Row.holds Tryd.pinned (OpenSpec.ofChange Rows.ebcdicMod8Spec) :=
  OpenClaim.holds_of_cond 14 Tryd.f14 rfl rfl rfl rfl rfl rfl rfl ⟨rfl, rfl, rfl, rfl, rfl⟩ rfl rfl rfl rfl rfl (by kernel_rfl) Tryd.func14 (by kernel_rfl)
    (of_decide_eq_true (by kernel_rfl)) (by unfold Func.isWrapper; first | (rw [if_pos (by decide +kernel)]; kernel_rfl) | (rw [if_neg (by decide +kernel)]; exact ⟨rfl, rfl⟩))
    (fun os started H enc _ Fi => by rw [OpenClaim.pre_eq_preRow]; exact lifted os started H enc Fi)
theorem plain (f : FuncId) (fn : Func) (hf : Tryd.pinned.checked.prog.funcNamed Rows.ebcdicMod8Row.func = some f) (hfn : Tryd.pinned.checked.prog.funcs[f]? = some fn) :
    false = Tryd.pinned.checked.prog.looks [] ∧ ∀ (j : Nat) t, fn.params[j]? = some t → Tryd.pinned.checked.prog.wantsStandIn t = false := by
  obtain rfl : f = 14 := Option.some.inj ((show Tryd.prog.funcNamed Rows.ebcdicMod8Row.func = some 14 by kernel_rfl).symm.trans hf) |>.symm
  obtain rfl : fn = Tryd.f14 := (Option.some.inj (Tryd.func14.symm.trans hfn)).symm
  refine ⟨by kernel_rfl, fun j t ht => ?_⟩
  rw [Tryd.params14] at ht
  have hm : t ∈ [9, 3] := by simpa using Array.mem_of_getElem? ht
  have hall : ([9, 3].all fun u => !Tryd.prog.wantsStandIn u) = true := by kernel_rfl
  exact (show Tryd.prog.wantsStandIn t = false by simpa using List.all_eq_true.1 hall t hm)
end Go.Proofs.YtjbgcclbomimiaaDoor.ebcdicMod8
namespace Go.Proofs.YtjbgcclbomimiaaDoor
/-- The statement: the tied card. -/
theorem ebcdicMod8_proved : Rows.EbcdicMod8CardSaid :=
  Claim7.holds_tied_plain_at .later [] _ _ _ _ ebcdicMod8.over (fun _ h => by cases h) (by kernel_rfl) (fun _ h => by cases h) ebcdicMod8_row_tie rfl ⟨rfl, rfl⟩ (by kernel_rfl) rfl ebcdicMod8.plain (by kernel_rfl)
end Go.Proofs.YtjbgcclbomimiaaDoor
