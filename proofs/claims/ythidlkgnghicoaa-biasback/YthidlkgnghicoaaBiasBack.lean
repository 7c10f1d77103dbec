/-
  A number that is put is got as it was, whatever stands ahead and behind: the statement BiasBack is proved, for every input. Conditions: none.
-/
import Derived.Test.YthidlkgnghicoaaBiaAwk
import Derived.Test.YthidlkgnghicoaaBia4
import Derived.Test.YthidlkgnghicoaaBiaWf
namespace Go.Proofs.Ythidlkgnghicoaa.biasBack
open Go.ChangeShapes Go.WideShapes Go.ChangeAt Go.RowKit
open Go.ChangeMaps (open_string shut_string)
open Bas Txt Bia
set_option linter.unusedVariables false

theorem back (b : Int) (n : Nat) (m s : ByteArray) (hn : n ≤ 4611686018427387904) (hs : s = strOf (putL b 0 n)) :
    getF b 0 m.size 0 1 ((bytesL (m ++ s ++ m)).drop m.size) = (n, m.size + s.size, 0) := by
  rw [bytesL_append, bytesL_append, List.append_assoc, List.drop_append_of_le_length (by rw [bytesL_length]; exact Nat.le_refl _), List.drop_of_length_le (by rw [bytesL_length]; exact Nat.le_refl _), List.nil_append, hs, bytesL_strOf _ (putL_byte b 0 n)]
  rw [get_put b n 0 m.size 0 1 (bytesL m) (Nat.le_refl _) (by unfold top; omega), strOf_size]
  simp
set_option maxHeartbeats 4000000 in
theorem walk (w : World) (n : Int) (wn : (Lit.int .u64 n).wf = true) (b : Int) (wb : (Lit.int .i64 b).wf = true) (m : ByteArray) (wm : m.size ≤ maxLen) :
    Calls Try.prog 8 #[.int .u64 n, .int .i64 b, .string m] w fun e w' => e = .returned (.bool true) ∧ Below w.heap.size w w' := by
  obtain ⟨n, rfl, hn⟩ := u64_of wn
  clear wn wb
  unfold maxLen at wm
  go_enter Try.func8, Try.ntmps8
  go_wp2_with fail
  refine (awake_any w).mono ?_
  rintro e w1 ⟨rfl, hb⟩
  have HB1 : Hid (Below w.heap.size w w1) := hb
  clear hb
  by_cases h1 : n ≤ 4611686018427387904
  · have i1 : (n : Int) ≤ 4611686018427387904 := by omega
    by_cases h2 : m.size ≤ 100
    · have i2 : (m.size : Int) ≤ 100 := by omega
      go_wp2_with fail
      refine (put_any n b w1 hn).mono ?_
      rintro e w2 ⟨rfl, hb⟩
      have HB2 : Hid (Below w.heap.size w w2) := below_two HB1.out hb
      clear hb HB1
      have hl := put_len20 b n hn
      have HB : Hid (∀ s, s = strOf (putL b 0 n) → getF b 0 m.size 0 1 ((bytesL (m ++ s ++ m)).drop m.size) = (n, m.size + s.size, 0)) := fun s => back b n m s h1
      have hsz : (strOf (putL b 0 n)).size ≤ 21 := by rw [strOf_size]; exact hl
      clear hl
      obtain ⟨s, hs⟩ : ∃ s, s = strOf (putL b 0 n) := ⟨_, rfl⟩
      have HG := HB.out s hs
      rw [← hs] at hsz ⊢
      clear hs HB
      have hs1 : ¬ 9223372036854775807 < m.size + s.size := by omega
      have hs2 : ¬ 9223372036854775807 < (m ++ s).size + m.size := by rw [ByteArray.size_append]; omega
      have hs3 : ¬ 9223372036854775807 < m.size + s.size + m.size := by omega
      have HGt : Hid (∀ w, Calls Try.prog 21 #[.string (m ++ s ++ m), .int .i64 m.size, .int .i64 b] w fun e w' => e = .returned (.tuple #[.int .u64 n, .int .i64 ((m.size + s.size : Nat) : Int), .int .i64 0]) ∧ w' = w) := by
        intro w
        have hg := get_any (m ++ s ++ m) m.size b w (by rw [ByteArray.size_append, ByteArray.size_append]; omega) (by rw [ByteArray.size_append, ByteArray.size_append]; omega)
        rw [HG] at hg
        exact hg
      clear HG
      go_wp2_with fail
      refine (HGt.out w2).mono ?_
      rintro e w3 ⟨rfl, hw⟩
      subst hw
      go_wp2
      go_ret
      exact ⟨rfl, HB2.out⟩
    · have i2 : (100 : Int) < (m.size : Int) := by omega
      go_wp2_with fail
      refine (awake_any w1).mono ?_
      rintro e w2 ⟨rfl, hb2⟩
      have HB2 : Hid (Below w.heap.size w w2) := below_two HB1.out hb2
      clear hb2
      go_wp2
      go_ret
      exact ⟨rfl, HB2.out⟩
  · have i1 : (4611686018427387904 : Int) < (n : Int) := by omega
    go_wp2_with fail
    refine (awake_any w1).mono ?_
    rintro e w2 ⟨rfl, hb2⟩
    have HB2 : Hid (Below w.heap.size w w2) := below_two HB1.out hb2
    clear hb2
    go_wp2
    go_ret
    exact ⟨rfl, HB2.out⟩
set_option maxRecDepth 100000 in
theorem lifted (os : Os) (started : os.Started) (H : Type) (enc : TypeId × Value → H) :
    ReturnsInHanded {} Try.checked os 8 .any (Rows.biasBackSpec.pre6 enc Try.prog Try.f8 Rows.biasBackRow.domain false) (Rows.biasBackSpec.post enc Try.prog Try.f8 false true false false) := by
  refine returnsInHanded_of_change (C := Try.checked) Bas.own started (by kernel_rfl) Try.func8
    (ChangeSpec.witness6 (enc := enc) (C := Try.checked) false ⟨#[], #[.int .u64 0, .int .i64 0, .string ByteArray.empty], []⟩ 8 (by kernel_rfl) (by kernel_rfl) (by kernel_rfl) (by kernel_rfl)) ?_
  intro W base args ds gs before hval0 hW hcnd _
  have hval : ∀ (j : Nat) t v, Try.f8.params[j]? = some t → args[j]? = some v → Value.okWide Try.prog W .any base t v := hval0
  have hW' := hW
  obtain ⟨p, q, hA0, hV, rfl, hfz, hnd⟩ := hW
  have hA : DataW.TrodAll enc Try.prog W 0 (fun _ => true) true Try.f8.params.toList args.toList ds p := hA0
  rw [Try.params8] at hA hval
  obtain ⟨v0, vs0, d0, ds0, p0, q0, hargs, rfl, rfl, h0, r0⟩ := trodAll_cons hA
  obtain ⟨v1, vs1, d1, ds1, p1, q1, rfl, rfl, rfl, h1, r1⟩ := trodAll_cons r0
  obtain ⟨v2, vs2, d2, ds2, p2, q2, rfl, rfl, rfl, h2, r2⟩ := trodAll_cons r1
  obtain ⟨rfl, rfl, rfl⟩ := trodAll_nil r2
  obtain rfl : args = #[v0, v1, v2] := by cases args; simp_all
  obtain ⟨rfl, rfl⟩ := trodVars_none hV
  have k0 := h0
  have lt0 : ∀ x ∈ p0, x.block < W.heap.size := by obtain ⟨m, hm⟩ := k0; exact DataW.trod_lt m _ _ _ hm
  have k1 := h1
  have lt1 : ∀ x ∈ p1, x.block < W.heap.size := by obtain ⟨m, hm⟩ := k1; exact DataW.trod_lt m _ _ _ hm
  have k2 := h2
  have lt2 : ∀ x ∈ p2, x.block < W.heap.size := by obtain ⟨m, hm⟩ := k2; exact DataW.trod_lt m _ _ _ hm
  obtain ⟨a0, rfl, rfl, rfl, w0⟩ := open_int Try.underlying22 (hval 0 22 v0 rfl rfl) h0
  obtain ⟨a1, rfl, rfl, rfl, w1⟩ := open_int Try.underlying3 (hval 1 3 v1 rfl rfl) h1
  obtain ⟨a2, rfl, rfl, rfl, w2⟩ := open_string Try.underlying9 (hval 2 9 v2 rfl rfl) h2
  refine (walk W a0 w0 a1 w1 a2 w2).mono fun e W' ⟨he, bel⟩ => ?_
  subst he
  exact ⟨_, rfl, _, _, _, [], _, [], hW', trodAll_mk1 (shut_bool Try.underlying4 _), (trodAll_cons_mk (Below.trod Bas.laidOut (by kernel_rfl) (of_decide_eq_true (by kernel_rfl)) k0 bel lt0) (trodAll_cons_mk (Below.trod Bas.laidOut (by kernel_rfl) (of_decide_eq_true (by kernel_rfl)) k1 bel lt1) (trodAll_cons_mk (Below.trod Bas.laidOut (by kernel_rfl) (of_decide_eq_true (by kernel_rfl)) k2 bel lt2) trodAll_mk0))), rfl, bel.frame _, fun h => by cases h⟩

theorem over : Rows.biasBackRow.holds Try.pinned (OpenSpec.ofChange Rows.biasBackSpec) :=
  OpenClaim.holds_of_wide 8 Try.f8 rfl rfl rfl rfl rfl rfl rfl ⟨rfl, rfl, rfl, rfl, rfl⟩ rfl rfl rfl rfl rfl (by kernel_rfl) Try.func8 (by kernel_rfl)
    (of_decide_eq_true (by kernel_rfl)) (by unfold Func.isWrapper; first | (rw [if_pos (by decide +kernel)]; kernel_rfl) | (rw [if_neg (by decide +kernel)]; exact ⟨rfl, rfl⟩))
    (fun os started H enc _ => lifted os started H enc)
end Go.Proofs.Ythidlkgnghicoaa.biasBack
namespace Go.Proofs.Ythidlkgnghicoaa
/-- The statement. -/
theorem biasBack_proved : Rows.BiasBackSaid := biasBack.over
end Go.Proofs.Ythidlkgnghicoaa
