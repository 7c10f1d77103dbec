/-
  There and back any text is as it was, either way, and any two tables are alike: the statement PermuteAll is proved, for every input. Conditions: none.
-/
import Derived.Test.YtehpfoeonmkehaaPerAwk
namespace Go.Proofs.Ytehpfoeonmkehaa.permuteAll
open Go.ChangeShapes Go.WideShapes Go.ChangeAt Go.RowKit
open Go.ChangeMaps (open_string shut_string)
open Bas Txt Per
set_option linter.unusedVariables false

theorem turn_byte {t : List Int} (h : ∀ x, 0 ≤ x → x < 256 → 0 ≤ at_ t x ∧ at_ t x < 256) (s : ByteArray) : ∀ x ∈ turnL t (bytesL s), 0 ≤ x ∧ x < 256 := by
  intro x hx
  obtain ⟨y, hy, rfl⟩ := List.mem_map.1 hx
  have := bytesL_byte s y hy
  exact h y this.1 this.2
theorem back_text (s : ByteArray) : strOf (turnL frL (bytesL (strOf (turnL tabL (bytesL s))))) = s := by
  rw [bytesL_strOf _ (turn_byte (fun x h0 h1 => tab_byte h0 h1) s), turn_back (fun x hx => fr_tab (bytesL_byte s x hx).1 (bytesL_byte s x hx).2), strOf_bytesL]
theorem text_back (s : ByteArray) : strOf (turnL tabL (bytesL (strOf (turnL frL (bytesL s))))) = s := by
  rw [bytesL_strOf _ (turn_byte (fun x h0 h1 => fr_byte h0 h1) s), turn_back (fun x hx => tab_fr (bytesL_byte s x hx).1 (bytesL_byte s x hx).2), strOf_bytesL]
set_option maxHeartbeats 4000000 in
theorem walk (w : World) (s : ByteArray) (ws : s.size ≤ maxLen) :
    Calls Try.prog 5 #[.string s] w fun e w' => e = .returned (.bool true) ∧ Below w.heap.size w w' := by
  unfold maxLen at ws
  go_enter Try.func5, Try.ntmps5
  go_wp2_with fail
  refine (awake_any w).mono ?_
  rintro e w1 ⟨rfl, hb1⟩
  have HB1 : Hid (Below w.heap.size w w1) := hb1
  clear hb1
  by_cases hs : s.size ≤ 2000
  · have hs' : (s.size : Int) ≤ 2000 := by omega
    go_wp2_with fail
    refine (new_any w1).mono ?_
    rintro e w2 ⟨b, rfl, ht2, hb2⟩
    have HT2 : Hid (TabAt w2 b ∧ Below w.heap.size w w2) := ⟨ht2, below_two HB1.out hb2⟩
    clear ht2 hb2 HB1
    go_wp2_with fail
    refine (new_any w2).mono ?_
    rintro e w3 ⟨c, rfl, ht3, hb3⟩
    have HT3 : Hid (TabAt w3 b ∧ TabAt w3 c ∧ Below w.heap.size w w3) := ⟨HT2.out.1.below hb3, ht3, below_two HT2.out.2 hb3⟩
    clear ht3 hb3 HT2
    go_wp2_with fail
    refine (text_any c s w3 HT3.out.2.1 (by omega)).mono ?_
    rintro e w4 ⟨rfl, hb4⟩
    have HT4 : Hid (TabAt w4 b ∧ TabAt w4 c ∧ Below w.heap.size w w4) := ⟨HT3.out.1.below hb4, HT3.out.2.1.below hb4, below_two HT3.out.2.2 hb4⟩
    clear hb4 HT3
    have HS : Hid ((strOf (turnL tabL (bytesL s))).size = s.size ∧ strOf (turnL frL (bytesL (strOf (turnL tabL (bytesL s))))) = s) := ⟨by rw [strOf_size, turnL_len, bytesL_length], back_text s⟩
    obtain ⟨x, hx⟩ : ∃ x, strOf (turnL tabL (bytesL s)) = x := ⟨_, rfl⟩
    rw [hx] at HS ⊢
    clear hx
    go_wp2_with fail
    refine (back_any b x w4 HT4.out.1 (by have := HS.out.1; omega)).mono ?_
    rintro e w5 ⟨rfl, hb5⟩
    rw [HS.out.2]
    have HT5 : Hid (TabAt w5 b ∧ TabAt w5 c ∧ Below w.heap.size w w5) := ⟨HT4.out.1.below hb5, HT4.out.2.1.below hb5, below_two HT4.out.2.2 hb5⟩
    clear hb5 HT4 HS
    go_wp2_with fail
    refine (back_any c s w5 HT5.out.2.1 (by omega)).mono ?_
    rintro e w6 ⟨rfl, hb6⟩
    have HT6 : Hid (TabAt w6 b ∧ Below w.heap.size w w6) := ⟨HT5.out.1.below hb6, below_two HT5.out.2.2 hb6⟩
    clear hb6 HT5
    have HS : Hid ((strOf (turnL frL (bytesL s))).size = s.size ∧ strOf (turnL tabL (bytesL (strOf (turnL frL (bytesL s))))) = s) := ⟨by rw [strOf_size, turnL_len, bytesL_length], text_back s⟩
    obtain ⟨y, hy⟩ : ∃ y, strOf (turnL frL (bytesL s)) = y := ⟨_, rfl⟩
    rw [hy] at HS ⊢
    clear hy
    go_wp2_with fail
    refine (text_any b y w6 HT6.out.1 (by have := HS.out.1; omega)).mono ?_
    rintro e w7 ⟨rfl, hb7⟩
    rw [HS.out.2]
    have HT7 : Hid (Below w.heap.size w w7) := below_two HT6.out.2 hb7
    clear hb7 HT6 HS
    go_wp2
    go_ret
    exact ⟨rfl, HT7.out⟩
  · have hs' : (2000 : Int) < (s.size : Int) := by omega
    go_wp2_with fail
    refine (awake_any w1).mono ?_
    rintro e w2 ⟨rfl, hb2⟩
    have HB2 : Hid (Below w.heap.size w w2) := below_two HB1.out hb2
    clear hb2
    go_wp2
    go_ret
    exact ⟨rfl, HB2.out⟩
set_option maxRecDepth 100000 in
theorem lifted (os : Os) (started : os.Started) (H : Type) (enc : TypeId × Value → H) :
    ReturnsInHanded {} Try.checked os 5 .any (Rows.permuteAllSpec.pre6 enc Try.prog Try.f5 Rows.permuteAllRow.domain false) (Rows.permuteAllSpec.post enc Try.prog Try.f5 false true false false) := by
  refine returnsInHanded_of_change (C := Try.checked) Bas.own started (by kernel_rfl) Try.func5
    (ChangeSpec.witness6 (enc := enc) (C := Try.checked) false ⟨#[], #[.string ByteArray.empty], []⟩ 8 (by kernel_rfl) (by kernel_rfl) (by kernel_rfl) (by kernel_rfl)) ?_
  intro W base args ds gs before hval0 hW hcnd _
  have hval : ∀ (j : Nat) t v, Try.f5.params[j]? = some t → args[j]? = some v → Value.okWide Try.prog W .any base t v := hval0
  have hW' := hW
  obtain ⟨p, q, hA0, hV, rfl, hfz, hnd⟩ := hW
  have hA : DataW.TrodAll enc Try.prog W 0 (fun _ => true) true Try.f5.params.toList args.toList ds p := hA0
  rw [Try.params5] at hA hval
  obtain ⟨v0, vs0, d0, ds0, p0, q0, hargs, rfl, rfl, h0, r0⟩ := trodAll_cons hA
  obtain ⟨rfl, rfl, rfl⟩ := trodAll_nil r0
  obtain rfl : args = #[v0] := by cases args; simp_all
  obtain ⟨rfl, rfl⟩ := trodVars_none hV
  have k0 := h0
  have lt0 : ∀ x ∈ p0, x.block < W.heap.size := by obtain ⟨m, hm⟩ := k0; exact DataW.trod_lt m _ _ _ hm
  obtain ⟨a0, rfl, rfl, rfl, w0⟩ := open_string Try.underlying9 (hval 0 9 v0 rfl rfl) h0
  refine (walk W a0 w0).mono fun e W' ⟨he, bel⟩ => ?_
  subst he
  exact ⟨_, rfl, _, _, _, [], _, [], hW', trodAll_mk1 (shut_bool Try.underlying4 _), (trodAll_cons_mk (Below.trod Bas.laidOut (by kernel_rfl) (of_decide_eq_true (by kernel_rfl)) k0 bel lt0) trodAll_mk0), rfl, bel.frame _, fun h => by cases h⟩

theorem over : Rows.permuteAllRow.holds Try.pinned (OpenSpec.ofChange Rows.permuteAllSpec) :=
  OpenClaim.holds_of_wide 5 Try.f5 rfl rfl rfl rfl rfl rfl rfl ⟨rfl, rfl, rfl, rfl, rfl⟩ rfl rfl rfl rfl rfl (by kernel_rfl) Try.func5 (by kernel_rfl)
    (of_decide_eq_true (by kernel_rfl)) (by unfold Func.isWrapper; first | (rw [if_pos (by decide +kernel)]; kernel_rfl) | (rw [if_neg (by decide +kernel)]; exact ⟨rfl, rfl⟩))
    (fun os started H enc _ => lifted os started H enc)
end Go.Proofs.Ytehpfoeonmkehaa.permuteAll
namespace Go.Proofs.Ytehpfoeonmkehaa
/-- The statement. -/
theorem permuteAll_proved : Rows.PermuteAllSaid := permuteAll.over
end Go.Proofs.Ytehpfoeonmkehaa
