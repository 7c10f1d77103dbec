/-
  Two texts that are turned one behind the other are both, turned together: the statement PermuteParts is proved, for every input. Conditions: none.
-/
import Derived.Test.YtehpfoeonmkehaaPerAwk
namespace Go.Proofs.Ytehpfoeonmkehaa.permuteParts
open Go.ChangeShapes Go.WideShapes Go.ChangeAt Go.RowKit
open Go.ChangeMaps (open_string shut_string)
open Bas Txt Per
set_option linter.unusedVariables false

theorem turn_join (t : List Int) (a b : ByteArray) : strOf (turnL t (bytesL (a ++ b))) = strOf (turnL t (bytesL a)) ++ strOf (turnL t (bytesL b)) := by
  rw [bytesL_append, turnL_append, strOf_append]
theorem turn_size (t : List Int) (a : ByteArray) : (strOf (turnL t (bytesL a))).size = a.size := by rw [strOf_size, turnL_len, bytesL_length]
set_option maxHeartbeats 4000000 in
theorem small (w : World) (a b : ByteArray) (ha : a.size ≤ 2000) (hb : b.size ≤ 2000) :
    Calls Try.prog 7 #[.string a, .string b] w fun e w' => e = .returned (.bool true) ∧ Below w.heap.size w w' := by
  have ha' : (a.size : Int) ≤ 2000 := by omega
  have hb' : (b.size : Int) ≤ 2000 := by omega
  have hab : ¬ 9223372036854775807 < a.size + b.size := by omega
  go_enter Try.func7, Try.ntmps7
  go_wp2_with fail
  refine (awake_any w).mono ?_
  rintro e w1 ⟨rfl, hb1⟩
  have HB1 : Hid (Below w.heap.size w w1) := hb1
  clear hb1
  go_wp2_with fail
  refine (new_any w1).mono ?_
  rintro e w2 ⟨p, rfl, ht2, hb2⟩
  have HT2 : Hid (TabAt w2 p ∧ Below w.heap.size w w2) := ⟨ht2, below_two HB1.out hb2⟩
  clear ht2 hb2 HB1
  have H1 : Hid (strOf (turnL tabL (bytesL (a ++ b))) = strOf (turnL tabL (bytesL a)) ++ strOf (turnL tabL (bytesL b)) ∧ (strOf (turnL tabL (bytesL a))).size = a.size ∧ (strOf (turnL tabL (bytesL b))).size = b.size) := ⟨turn_join .., turn_size .., turn_size ..⟩
  have H2 : Hid (strOf (turnL frL (bytesL (a ++ b))) = strOf (turnL frL (bytesL a)) ++ strOf (turnL frL (bytesL b)) ∧ (strOf (turnL frL (bytesL a))).size = a.size ∧ (strOf (turnL frL (bytesL b))).size = b.size) := ⟨turn_join .., turn_size .., turn_size ..⟩
  go_wp2_with fail
  refine (text_any p (a ++ b) w2 HT2.out.1 (by rw [ByteArray.size_append]; omega)).mono ?_
  rintro e w3 ⟨rfl, hb3⟩
  have HT3 : Hid (TabAt w3 p ∧ Below w.heap.size w w3) := ⟨HT2.out.1.below hb3, below_two HT2.out.2 hb3⟩
  clear hb3 HT2
  rw [H1.out.1]
  obtain ⟨xa, hxa⟩ : ∃ x, strOf (turnL tabL (bytesL a)) = x := ⟨_, rfl⟩
  obtain ⟨xb, hxb⟩ : ∃ x, strOf (turnL tabL (bytesL b)) = x := ⟨_, rfl⟩
  obtain ⟨ya, hya⟩ : ∃ x, strOf (turnL frL (bytesL a)) = x := ⟨_, rfl⟩
  obtain ⟨yb, hyb⟩ : ∃ x, strOf (turnL frL (bytesL b)) = x := ⟨_, rfl⟩
  rw [hxa, hxb] at H1
  rw [hya, hyb] at H2
  rw [hxa, hxb]
  have HE : Hid (strOf (turnL tabL (bytesL a)) = xa ∧ strOf (turnL tabL (bytesL b)) = xb ∧ strOf (turnL frL (bytesL a)) = ya ∧ strOf (turnL frL (bytesL b)) = yb) := ⟨hxa, hxb, hya, hyb⟩
  clear hxa hxb hya hyb
  have hs1 : ¬ 9223372036854775807 < xa.size + xb.size := by have := H1.out.2; omega
  have hs2 : ¬ 9223372036854775807 < ya.size + yb.size := by have := H2.out.2; omega
  go_wp2_with fail
  refine (text_any p a w3 HT3.out.1 (by omega)).mono ?_
  rintro e w4 ⟨rfl, hb4⟩
  rw [HE.out.1]
  have HT4 : Hid (TabAt w4 p ∧ Below w.heap.size w w4) := ⟨HT3.out.1.below hb4, below_two HT3.out.2 hb4⟩
  clear hb4 HT3
  go_wp2_with fail
  refine (text_any p b w4 HT4.out.1 (by omega)).mono ?_
  rintro e w5 ⟨rfl, hb5⟩
  rw [HE.out.2.1]
  have HT5 : Hid (TabAt w5 p ∧ Below w.heap.size w w5) := ⟨HT4.out.1.below hb5, below_two HT4.out.2 hb5⟩
  clear hb5 HT4
  go_wp2_with fail
  refine (back_any p (a ++ b) w5 HT5.out.1 (by rw [ByteArray.size_append]; omega)).mono ?_
  rintro e w6 ⟨rfl, hb6⟩
  rw [H2.out.1]
  have HT6 : Hid (TabAt w6 p ∧ Below w.heap.size w w6) := ⟨HT5.out.1.below hb6, below_two HT5.out.2 hb6⟩
  clear hb6 HT5
  go_wp2_with fail
  refine (back_any p a w6 HT6.out.1 (by omega)).mono ?_
  rintro e w7 ⟨rfl, hb7⟩
  rw [HE.out.2.2.1]
  have HT7 : Hid (TabAt w7 p ∧ Below w.heap.size w w7) := ⟨HT6.out.1.below hb7, below_two HT6.out.2 hb7⟩
  clear hb7 HT6
  go_wp2_with fail
  refine (back_any p b w7 HT7.out.1 (by omega)).mono ?_
  rintro e w8 ⟨rfl, hb8⟩
  rw [HE.out.2.2.2]
  have HT8 : Hid (TabAt w8 p ∧ Below w.heap.size w w8) := ⟨HT7.out.1.below hb8, below_two HT7.out.2 hb8⟩
  clear hb8 HT7
  go_wp2_with fail
  refine (text_any p a w8 HT8.out.1 (by omega)).mono ?_
  rintro e w9 ⟨rfl, hb9⟩
  rw [HE.out.1]
  have HT9 : Hid (Below w.heap.size w w9) := below_two HT8.out.2 hb9
  clear hb9 HT8
  have hz := H1.out.2.1
  go_wp2
  go_ret
  exact ⟨rfl, HT9.out⟩
set_option maxHeartbeats 4000000 in
theorem long (w : World) (a b : ByteArray) (ha : a.size ≤ 9223372036854775807) (hb : b.size ≤ 9223372036854775807) (h : ¬ (a.size ≤ 2000 ∧ b.size ≤ 2000)) :
    Calls Try.prog 7 #[.string a, .string b] w fun e w' => e = .returned (.bool true) ∧ Below w.heap.size w w' := by
  by_cases h1 : a.size ≤ 2000
  · have h1' : (a.size : Int) ≤ 2000 := by omega
    have h2' : (2000 : Int) < (b.size : Int) := by omega
    clear h
    go_enter Try.func7, Try.ntmps7
    go_wp2_with fail
    refine (awake_any w).mono ?_
    rintro e w1 ⟨rfl, hb1⟩
    have HB1 : Hid (Below w.heap.size w w1) := hb1
    clear hb1
    go_wp2_with fail
    refine (awake_any w1).mono ?_
    rintro e w2 ⟨rfl, hb2⟩
    have HB2 : Hid (Below w.heap.size w w2) := below_two HB1.out hb2
    clear hb2
    go_wp2
    go_ret
    exact ⟨rfl, HB2.out⟩
  · have h1' : (2000 : Int) < (a.size : Int) := by omega
    clear h
    go_enter Try.func7, Try.ntmps7
    go_wp2_with fail
    refine (awake_any w).mono ?_
    rintro e w1 ⟨rfl, hb1⟩
    have HB1 : Hid (Below w.heap.size w w1) := hb1
    clear hb1
    go_wp2_with fail
    refine (awake_any w1).mono ?_
    rintro e w2 ⟨rfl, hb2⟩
    have HB2 : Hid (Below w.heap.size w w2) := below_two HB1.out hb2
    clear hb2
    go_wp2
    go_ret
    exact ⟨rfl, HB2.out⟩
theorem walk (w : World) (a : ByteArray) (wa : a.size ≤ maxLen) (b : ByteArray) (wb : b.size ≤ maxLen) :
    Calls Try.prog 7 #[.string a, .string b] w fun e w' => e = .returned (.bool true) ∧ Below w.heap.size w w' := by
  by_cases h : a.size ≤ 2000 ∧ b.size ≤ 2000
  · exact small w a b h.1 h.2
  · exact long w a b (by unfold maxLen at wa; omega) (by unfold maxLen at wb; omega) h
set_option maxRecDepth 100000 in
theorem lifted (os : Os) (started : os.Started) (H : Type) (enc : TypeId × Value → H) :
    ReturnsInHanded {} Try.checked os 7 .any (Rows.permutePartsSpec.pre6 enc Try.prog Try.f7 Rows.permutePartsRow.domain false) (Rows.permutePartsSpec.post enc Try.prog Try.f7 false true false false) := by
  refine returnsInHanded_of_change (C := Try.checked) Bas.own started (by kernel_rfl) Try.func7
    (ChangeSpec.witness6 (enc := enc) (C := Try.checked) false ⟨#[], #[.string ByteArray.empty, .string ByteArray.empty], []⟩ 8 (by kernel_rfl) (by kernel_rfl) (by kernel_rfl) (by kernel_rfl)) ?_
  intro W base args ds gs before hval0 hW hcnd _
  have hval : ∀ (j : Nat) t v, Try.f7.params[j]? = some t → args[j]? = some v → Value.okWide Try.prog W .any base t v := hval0
  have hW' := hW
  obtain ⟨p, q, hA0, hV, rfl, hfz, hnd⟩ := hW
  have hA : DataW.TrodAll enc Try.prog W 0 (fun _ => true) true Try.f7.params.toList args.toList ds p := hA0
  rw [Try.params7] at hA hval
  obtain ⟨v0, vs0, d0, ds0, p0, q0, hargs, rfl, rfl, h0, r0⟩ := trodAll_cons hA
  obtain ⟨v1, vs1, d1, ds1, p1, q1, rfl, rfl, rfl, h1, r1⟩ := trodAll_cons r0
  obtain ⟨rfl, rfl, rfl⟩ := trodAll_nil r1
  obtain rfl : args = #[v0, v1] := by cases args; simp_all
  obtain ⟨rfl, rfl⟩ := trodVars_none hV
  have k0 := h0
  have lt0 : ∀ x ∈ p0, x.block < W.heap.size := by obtain ⟨m, hm⟩ := k0; exact DataW.trod_lt m _ _ _ hm
  have k1 := h1
  have lt1 : ∀ x ∈ p1, x.block < W.heap.size := by obtain ⟨m, hm⟩ := k1; exact DataW.trod_lt m _ _ _ hm
  obtain ⟨a0, rfl, rfl, rfl, w0⟩ := open_string Try.underlying9 (hval 0 9 v0 rfl rfl) h0
  obtain ⟨a1, rfl, rfl, rfl, w1⟩ := open_string Try.underlying9 (hval 1 9 v1 rfl rfl) h1
  refine (walk W a0 w0 a1 w1).mono fun e W' ⟨he, bel⟩ => ?_
  subst he
  exact ⟨_, rfl, _, _, _, [], _, [], hW', trodAll_mk1 (shut_bool Try.underlying4 _), (trodAll_cons_mk (Below.trod Bas.laidOut (by kernel_rfl) (of_decide_eq_true (by kernel_rfl)) k0 bel lt0) (trodAll_cons_mk (Below.trod Bas.laidOut (by kernel_rfl) (of_decide_eq_true (by kernel_rfl)) k1 bel lt1) trodAll_mk0)), rfl, bel.frame _, fun h => by cases h⟩

theorem over : Rows.permutePartsRow.holds Try.pinned (OpenSpec.ofChange Rows.permutePartsSpec) :=
  OpenClaim.holds_of_wide 7 Try.f7 rfl rfl rfl rfl rfl rfl rfl ⟨rfl, rfl, rfl, rfl, rfl⟩ rfl rfl rfl rfl rfl (by kernel_rfl) Try.func7 (by kernel_rfl)
    (of_decide_eq_true (by kernel_rfl)) (by unfold Func.isWrapper; first | (rw [if_pos (by decide +kernel)]; kernel_rfl) | (rw [if_neg (by decide +kernel)]; exact ⟨rfl, rfl⟩))
    (fun os started H enc _ => lifted os started H enc)
end Go.Proofs.Ytehpfoeonmkehaa.permuteParts
namespace Go.Proofs.Ytehpfoeonmkehaa
/-- The statement. -/
theorem permuteParts_proved : Rows.PermutePartsSaid := permuteParts.over
end Go.Proofs.Ytehpfoeonmkehaa
