/-
  Proved: a text that denotes something in Punycode is written again as it was, but for great letters among its digits. No condition.
-/
import Derived.Test.YtemgbmacdpnepaaPunLaw
import Derived.Test.YtemgbmacdpnepaaPunRf1
namespace Go.Proofs.Ytemgbmacdpnepaa
open Go.ChangeShapes Go.WideShapes Go.ChangeAt Go.RowKit
open Go.ChangeMaps (open_string shut_string)
namespace punyOne
open Bas Sca Stp Scn Cod Pun
set_option linter.unusedVariables false

theorem okLen_of {l : List Int} (h : ∀ c ∈ l, isB c = true) : okLen l = l.length := by
  induction l with
  | nil => rfl
  | cons x r ih => rw [okLen, if_pos (h x (by simp)), ih (fun c hc => h c (by simp [hc]))]; rfl
set_option maxHeartbeats 8000000 in
set_option maxRecDepth 100000 in
theorem walk (w : World) (s : ByteArray) (hwf : s.size ≤ maxLen) :
    Calls Try.prog 6 #[.string s] w fun e w' => e = .returned (.bool true) ∧ Below w.heap.size w w' := by
  clear hwf
  go_enter Try.func6, Try.ntmps6
  go_wp2_with fail
  refine (awake_any _).mono ?_
  rintro e w1 ⟨rfl, b1⟩
  have HB1 : Hid (Below w.heap.size w w1) := b1
  clear b1
  go_wp2_with fail
  refine (great_any _ none none 0 0 0 0 w1).mono ?_
  rintro e w1' ⟨rfl, rfl⟩
  obtain ⟨g, hg⟩ : ∃ g, (decide ((s.size : Int) > 120) || (decide (0 > 200) || decide (0 > 200))) = g := ⟨_, rfl⟩
  rw [hg]
  cases g with
  | true =>
    clear hg
    go_wp2_with fail
    refine (awake_any _).mono ?_
    rintro e w2 ⟨rfl, b2⟩
    go_wp2
    go_ret
    exact ⟨rfl, below_two HB1.out b2⟩
  | false =>
    have h400 : (s.size : Int) ≤ 120 := by simp at hg; omega
    clear hg
    go_wp2_with fail
    refine (newD_any _ rfl).mono ?_
    rintro e w2 ⟨rfl, D2, z2, B2⟩
    obtain ⟨N, hN⟩ : ∃ N, N = w1'.heap.size := ⟨_, rfl⟩
    have HN : Hid (w.heap.size ≤ N) := by show w.heap.size ≤ N; rw [hN]; exact HB1.out.size
    rw [← hN] at D2 z2 B2 ⊢
    have HB2 : Hid (Below w.heap.size w w2) := HB1.out.trans (B2.mono HN.out)
    clear hN
    go_wp2_with fail
    refine (read_any lenOK N _ _ s none none 0 0 0 0 [] [] w2 D2 (ints_none _ _) (ints_none _ _) (fun b' o' h0 => by omega) (fun b' o' h0 => by omega) (by omega) (by omega) (by omega)).mono ?_
    rintro e w4 ⟨vo, rfl, v4, u4, s4, f4, D4, C4⟩
    obtain ⟨ao, co, hvo, -⟩ := s4.form
    obtain ⟨m, hm⟩ : ∃ m, (rdL (bytesL s)).length = m := ⟨_, rfl⟩
    rw [hm] at hvo
    subst hvo
    have HD4 : Hid (BaseAt w4 N 0 (bahL (bytesL s)) (rdQ (bytesL s)) (rdE (bytesL s)) ∧ N + 1 ≤ w4.heap.size ∧ Below w.heap.size w w4 ∧ Seg .u32 w4 (.slice ao m co) (rdL (bytesL s)) ∧ (∀ g, (Value.slice ao m co).ownBlock = some g → w.heap.size ≤ g) ∧ (rdL (bytesL s)).length = m) :=
      ⟨D4.base, by have := C4.size; omega, HB2.out.trans (C4.below HB2.out.size (fun k j hk h => by have := footD_nil h; have := HN.out; omega)), s4, fun g hg => by have := f4 g hg; have := HB2.out.size; omega, hm⟩
    clear s4 f4 D4 C4 hm D2 z2 B2 HB1 HB2
    go_wp2_with fail
    refine (fail_any N 0 _ _ _ w4 HD4.out.1).mono ?_
    rintro e w5 ⟨rfl, b5⟩
    obtain ⟨F, hF⟩ : ∃ F, failAt (bahL (bytesL s) : Int) (rdQ (bytesL s)) = F := ⟨_, rfl⟩
    rw [hF]
    clear hF
    have HD5 : Hid (N + 1 ≤ w5.heap.size ∧ Below w.heap.size w w5 ∧ Seg .u32 w5 (.slice ao m co) (rdL (bytesL s)) ∧ (∀ g, (Value.slice ao m co).ownBlock = some g → w.heap.size ≤ g ∧ g < w5.heap.size) ∧ (rdL (bytesL s)).length = m) :=
      ⟨by have := b5.size; have := HD4.out.2.1; omega, below_two HD4.out.2.2.1 b5, HD4.out.2.2.2.1.chg (chg_of_below b5 (Nat.le_refl _) (fun _ _ => False)) (fun _ _ _ h => h), fun g hg => ⟨HD4.out.2.2.2.2.1 g hg, by have := HD4.out.2.2.2.1.lt hg; have := b5.size; omega⟩, HD4.out.2.2.2.2.2⟩
    clear b5 HD4
    obtain ⟨Q, hQ⟩ : ∃ Q, rdQ (bytesL s) = Q := ⟨_, rfl⟩
    have HQ : Hid (rdQ (bytesL s) = Q) := hQ
    rw [hQ]
    clear hQ
    have hfl := fld Q F
    by_cases hq : Q = 0
    · have hrt := read_text (HQ.out.trans hq)
      have HTX : Hid (textD (bytesL s) = some (rdL (bytesL s)) ∧ (∀ x ∈ bytesL s, 0 ≤ x ∧ x < 128)) := ⟨hrt.1, fun x hx => ⟨(bytesL_byte s x hx).1, bahL_all hrt.2.1 x hx⟩⟩
      have hsc := textD_scalars HTX.out.2 HTX.out.1
      have hmz : m ≤ 120 := by
        have h1 := textD_len HTX.out.1
        rw [HD5.out.2.2.2.2, bytesL_length] at h1
        omega
      have HSC : Hid ((∀ c ∈ rdL (bytesL s), isB c = true ∧ 0 ≤ c) ∧ okLen (rdL (bytesL s)) = (rdL (bytesL s)).length ∧ TextOf (rdL (bytesL s)) (smallT (bytesL s))) := ⟨hsc, okLen_of (fun c hc => (hsc c hc).1), TextOf.of_dec HTX.out.2 HTX.out.1⟩
      subst hq
      clear hrt hsc
      go_wp2_with fail
      refine (newEn_any _ rfl).mono ?_
      rintro e w6 ⟨rfl, E6, z6, B6⟩
      obtain ⟨M, hM⟩ : ∃ M, M = w5.heap.size := ⟨_, rfl⟩
      have HM : Hid (M = w5.heap.size) := hM
      rw [← hM] at E6 z6 B6 ⊢
      have HD6 : Hid (Below w.heap.size w w6 ∧ Pun.Came w6 (.slice ao m co) (rdL (bytesL s)) M (.slice none 0 0) (.slice none 0 0)) := by
        refine ⟨HD5.out.2.1.trans (B6.mono (by rw [hM]; exact HD5.out.2.1.size)), came_seg (HD5.out.2.2.1.chg (chg_of_below B6 (by omega) (fun _ _ => False)) (fun _ _ _ h => h)) (fun g hg hf => ?_)⟩
        have := HD5.out.2.2.2.1 g hg
        have := footE_nil hf
        omega
      clear hM
      go_wp2_with fail
      refine (write_any M _ _ ao m co (rdL (bytesL s)) none none 0 0 0 0 [] [] w6 E6 HD6.out.2 (fun c hc => by have h1 := HSC.out.1 c hc; have h2 := (isB_iff.1 h1.1).1; omega) (ints_none _ _) (ints_none _ _) (fun b' o' h0 => by omega) (fun b' o' h0 => by omega) (by omega) (by omega) (by rw [HD5.out.2.2.2.2]; exact hmz)).mono ?_
      rintro e w7 ⟨T, hT, rfl, v7, u7, E7, C7⟩
      have hTX : T = smallT (bytesL s) := by
        unfold WrT at hT
        rw [if_neg (by rw [HSC.out.2.1]; omega)] at hT
        exact hT.one HSC.out.2.2
      have HB7 : Hid (Below w.heap.size w w7) := HD6.out.1.trans (C7.below HD6.out.1.size (fun k j hk h => by have := footE_nil h; have := HM.out; have := HD5.out.2.1.size; omega))
      subst hTX
      clear hT E6 z6 B6 E7 C7 HD6 HTX HSC
      go_wp2_with fail
      refine (rSmallT_any s w7 (by omega)).mono ?_
      rintro e w8 ⟨rfl, b8⟩
      have HB8 : Hid (Below w.heap.size w w8) := below_two HB7.out b8
      clear b8
      obtain ⟨x, hx⟩ : ∃ x, Stp.strOf (smallT (bytesL s)) = x := ⟨_, rfl⟩
      rw [hx]
      clear hx
      go_wp2
      go_ret
      exact ⟨by simp, HB8.out⟩
    · have HE : Hid (rdL (bytesL s) = []) := rdL_err (by rw [HQ.out]; exact hq)
      have hm0 : m = 0 := by have := HD5.out.2.2.2.2; rw [HE.out] at this; exact this.symm
      subst hm0
      have hb : (Q == 0) = false := by simp [hq]
      clear hq
      go_wp2
      go_ret
      exact ⟨rfl, HD5.out.2.1⟩
set_option maxRecDepth 100000 in
theorem lifted (os : Os) (started : os.Started) (H : Type) (enc : TypeId × Value → H) :
    ReturnsInHanded {} Try.checked os 6 .any (Rows.punyOneSpec.pre6 enc Try.prog Try.f6 Rows.punyOneRow.domain false) (Rows.punyOneSpec.post enc Try.prog Try.f6 false true false false) := by
  refine returnsInHanded_of_change (C := Try.checked) Bas.own started (by kernel_rfl) Try.func6
    (ChangeSpec.witness6 (enc := enc) (C := Try.checked) false ⟨#[], #[.string ByteArray.empty], []⟩ 8 (by kernel_rfl) (by kernel_rfl) (by kernel_rfl) (by kernel_rfl)) ?_
  intro W base args ds gs before hval0 hW hcnd _
  have hval : ∀ (j : Nat) t v, Try.f6.params[j]? = some t → args[j]? = some v → Value.okWide Try.prog W .any base t v := hval0
  have hW' := hW
  obtain ⟨p, q, hA0, hV, rfl, hfz, hnd⟩ := hW
  have hA : DataW.TrodAll enc Try.prog W 0 (fun _ => true) true Try.f6.params.toList args.toList ds p := hA0
  rw [Try.params6] at hA hval
  obtain ⟨v0, vs0, d0, ds0, p0, q0, hargs, rfl, rfl, h0, r0⟩ := trodAll_cons hA
  obtain ⟨rfl, rfl, rfl⟩ := trodAll_nil r0
  obtain rfl : args = #[v0] := by cases args; simp_all
  obtain ⟨rfl, rfl⟩ := trodVars_none hV
  have k0 := h0
  have lt0 : ∀ x ∈ p0, x.block < W.heap.size := by obtain ⟨m, hm⟩ := k0; exact DataW.trod_lt m _ _ _ hm
  obtain ⟨a0, rfl, rfl, rfl, w0⟩ := open_string Try.underlying9 (hval 0 9 v0 rfl rfl) h0
  refine (walk W a0 w0).mono fun e W' ⟨he, bel⟩ => ?_
  subst he
  exact ⟨_, rfl, _, _, _, [], _, [], hW', trodAll_mk1 (shut_bool Try.underlying4 _), (trodAll_cons_mk (Below.trod Bas.laidOut (by kernel_rfl) (of_decide_eq_true (by kernel_rfl)) k0 bel lt0) trodAll_mk0), rfl, bel.frame _, fun h => by cases h⟩

theorem over : Rows.punyOneRow.holds Try.pinned (OpenSpec.ofChange Rows.punyOneSpec) :=
  OpenClaim.holds_of_wide 6 Try.f6 rfl rfl rfl rfl rfl rfl rfl ⟨rfl, rfl, rfl, rfl, rfl⟩ rfl rfl rfl rfl rfl (by kernel_rfl) Try.func6 (by kernel_rfl)
    (of_decide_eq_true (by kernel_rfl)) (by unfold Func.isWrapper; first | (rw [if_pos (by decide +kernel)]; kernel_rfl) | (rw [if_neg (by decide +kernel)]; exact ⟨rfl, rfl⟩))
    (fun os started H enc _ => lifted os started H enc)
end Go.Proofs.Ytemgbmacdpnepaa.punyOne
namespace Go.Proofs.Ytemgbmacdpnepaa
/-- The statement. -/
theorem punyOne_proved : Rows.PunyOneSaid := punyOne.over
end Go.Proofs.Ytemgbmacdpnepaa
