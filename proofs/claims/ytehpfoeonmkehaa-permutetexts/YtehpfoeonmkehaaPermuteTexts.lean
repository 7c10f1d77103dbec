/-
  Any text is turned, and turned back, byte by byte, as the document says: the statement PermuteTexts (the stage's theorem) is proved, for every input. Conditions: none.
-/
import Derived.Test.YtehpfoeonmkehaaPerAwk
import Derived.Test.YtehpfoeonmkehaaPerRf3
namespace Go.Proofs.Ytehpfoeonmkehaa.permuteTexts
open Go.ChangeShapes Go.WideShapes Go.ChangeAt Go.RowKit
open Go.ChangeMaps (open_string shut_string)
open Bas Txt Per
set_option linter.unusedVariables false

set_option maxHeartbeats 4000000 in
theorem walk (w : World) (s : ByteArray) (ws : s.size ≤ maxLen) :
    Calls Try.prog 4 #[.string s] w fun e w' => e = .returned (.bool true) ∧ Below w.heap.size w w' := by
  unfold maxLen at ws
  go_enter Try.func4, Try.ntmps4
  go_wp2_with fail
  refine (awake_any w).mono ?_
  rintro e w1 ⟨rfl, hb1⟩
  have HB1 : Hid (Below w.heap.size w w1) := hb1
  clear hb1
  by_cases hs : s.size ≤ 2000
  · have hs' : (s.size : Int) ≤ 2000 := by omega
    go_wp2_with fail
    refine (new_any w1).mono ?_
    rintro e w2 ⟨b, rfl, ht2, hb2⟩
    have HT2 : Hid (TabAt w2 b ∧ Below w.heap.size w w2) := ⟨ht2, below_two HB1.out hb2⟩
    clear ht2 hb2 HB1
    go_wp2_with fail
    refine (text_any b s w2 HT2.out.1 (by omega)).mono ?_
    rintro e w3 ⟨rfl, hb3⟩
    have HT3 : Hid (TabAt w3 b ∧ Below w.heap.size w w3) := ⟨HT2.out.1.below hb3, below_two HT2.out.2 hb3⟩
    clear hb3 HT2
    go_wp2_with fail
    refine (rText_any s w3 (by omega)).mono ?_
    rintro e w4 ⟨rfl, hb4⟩
    have HT4 : Hid (TabAt w4 b ∧ Below w.heap.size w w4) := ⟨HT3.out.1.below hb4, below_two HT3.out.2 hb4⟩
    clear hb4 HT3
    obtain ⟨x, hx⟩ : ∃ x, strOf (turnL tabL (bytesL s)) = x := ⟨_, rfl⟩
    rw [hx]
    clear hx
    go_wp2_with fail
    refine (back_any b s w4 HT4.out.1 (by omega)).mono ?_
    rintro e w5 ⟨rfl, hb5⟩
    have HT5 : Hid (Below w.heap.size w w5) := below_two HT4.out.2 hb5
    clear hb5 HT4
    go_wp2_with fail
    refine (rBack_any s w5 (by omega)).mono ?_
    rintro e w6 ⟨rfl, hb6⟩
    have HT6 : Hid (Below w.heap.size w w6) := below_two HT5.out hb6
    clear hb6 HT5
    obtain ⟨y, hy⟩ : ∃ y, strOf (turnL frL (bytesL s)) = y := ⟨_, rfl⟩
    rw [hy]
    clear hy
    go_wp2
    go_ret
    exact ⟨rfl, HT6.out⟩
  · have hs' : (2000 : Int) < (s.size : Int) := by omega
    go_wp2_with fail
    refine (awake_any w1).mono ?_
    rintro e w2 ⟨rfl, hb2⟩
    have HB2 : Hid (Below w.heap.size w w2) := below_two HB1.out hb2
    clear hb2
    go_wp2
    go_ret
    exact ⟨rfl, HB2.out⟩
set_option maxRecDepth 100000 in
theorem lifted (os : Os) (started : os.Started) (H : Type) (enc : TypeId × Value → H) :
    ReturnsInHanded {} Try.checked os 4 .any (Rows.permuteTextsSpec.pre6 enc Try.prog Try.f4 Rows.permuteTextsRow.domain false) (Rows.permuteTextsSpec.post enc Try.prog Try.f4 false true false false) := by
  refine returnsInHanded_of_change (C := Try.checked) Bas.own started (by kernel_rfl) Try.func4
    (ChangeSpec.witness6 (enc := enc) (C := Try.checked) false ⟨#[], #[.string ByteArray.empty], []⟩ 8 (by kernel_rfl) (by kernel_rfl) (by kernel_rfl) (by kernel_rfl)) ?_
  intro W base args ds gs before hval0 hW hcnd _
  have hval : ∀ (j : Nat) t v, Try.f4.params[j]? = some t → args[j]? = some v → Value.okWide Try.prog W .any base t v := hval0
  have hW' := hW
  obtain ⟨p, q, hA0, hV, rfl, hfz, hnd⟩ := hW
  have hA : DataW.TrodAll enc Try.prog W 0 (fun _ => true) true Try.f4.params.toList args.toList ds p := hA0
  rw [Try.params4] at hA hval
  obtain ⟨v0, vs0, d0, ds0, p0, q0, hargs, rfl, rfl, h0, r0⟩ := trodAll_cons hA
  obtain ⟨rfl, rfl, rfl⟩ := trodAll_nil r0
  obtain rfl : args = #[v0] := by cases args; simp_all
  obtain ⟨rfl, rfl⟩ := trodVars_none hV
  have k0 := h0
  have lt0 : ∀ x ∈ p0, x.block < W.heap.size := by obtain ⟨m, hm⟩ := k0; exact DataW.trod_lt m _ _ _ hm
  obtain ⟨a0, rfl, rfl, rfl, w0⟩ := open_string Try.underlying9 (hval 0 9 v0 rfl rfl) h0
  refine (walk W a0 w0).mono fun e W' ⟨he, bel⟩ => ?_
  subst he
  exact ⟨_, rfl, _, _, _, [], _, [], hW', trodAll_mk1 (shut_bool Try.underlying4 _), (trodAll_cons_mk (Below.trod Bas.laidOut (by kernel_rfl) (of_decide_eq_true (by kernel_rfl)) k0 bel lt0) trodAll_mk0), rfl, bel.frame _, fun h => by cases h⟩

theorem over : Rows.permuteTextsRow.holds Try.pinned (OpenSpec.ofChange Rows.permuteTextsSpec) :=
  OpenClaim.holds_of_wide 4 Try.f4 rfl rfl rfl rfl rfl rfl rfl ⟨rfl, rfl, rfl, rfl, rfl⟩ rfl rfl rfl rfl rfl (by kernel_rfl) Try.func4 (by kernel_rfl)
    (of_decide_eq_true (by kernel_rfl)) (by unfold Func.isWrapper; first | (rw [if_pos (by decide +kernel)]; kernel_rfl) | (rw [if_neg (by decide +kernel)]; exact ⟨rfl, rfl⟩))
    (fun os started H enc _ => lifted os started H enc)
end Go.Proofs.Ytehpfoeonmkehaa.permuteTexts
namespace Go.Proofs.Ytehpfoeonmkehaa
/-- The statement. -/
theorem permuteTexts_proved : Rows.PermuteTextsSaid := permuteTexts.over
end Go.Proofs.Ytehpfoeonmkehaa
