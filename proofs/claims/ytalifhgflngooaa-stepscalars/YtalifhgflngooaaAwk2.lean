/-
  The statements' own first question (answers that the document fixes) is answered by true, as a walk over the translated text; nothing that was there is changed. No condition.
-/
import Derived.Test.YtalifhgflngooaaRef2
import Derived.Test.YtalifhgflngooaaOps
namespace Go.Proofs.Ytalifhgflngooaa
open Go.ChangeShapes Go.WideShapes Go.ChangeAt Go.RowKit
namespace Stp
open Bas
set_option linter.unusedVariables false

theorem base_new (w : World) (t : TypeId) (cs : List Value) {b : Nat} (hb : b = w.heap.size) : BaseAt (w.alloc (.cells (.int .i64 0 :: .int .i64 0 :: .bool false :: cs).toArray t)) b 0 0 0 false := by
  subst hb
  exact ⟨by simp, by simp, by simp, by simp, by simp, by simp⟩
theorem row3_new (k : IntKind) (w : World) (t : TypeId) {b : Nat} (hb : b = w.heap.size) : RowAt k (w.alloc (.cells #[.int .i64 0, .int .i64 0, .bool false, .slice none 0 0] t)) b 3 (.slice none 0 0) [] := by
  subst hb
  exact ⟨by simp, by simp, seg_nil _ _, by simp [Value.ownBlock]⟩
theorem row0_new (k : IntKind) (w : World) (t : TypeId) {b : Nat} (hb : b = w.heap.size) : RowAt k (w.alloc (.cells #[.slice none 0 0] t)) b 0 (.slice none 0 0) [] := by
  subst hb
  exact ⟨by simp, by simp, seg_nil _ _, by simp [Value.ownBlock]⟩

theorem BaseAt.far {S : Nat → Nat → Prop} {w w' : World} {b o : Nat} {p q : Int} {en : Bool} (h : BaseAt w b o p q en) (hc : Chg S w w') (hS : ∀ j, ¬ S b j) : BaseAt w' b o p q en :=
  h.chg hc (fun k j hf hs => hS j (by rw [← hf.1]; exact hs))
theorem BaseAt.drew {w : World} {b o : Nat} {p q : Int} {en : Bool} (h : BaseAt w b o p q en) : BaseAt w.drew b o p q en := ⟨h.c0, h.c1, h.c2, h.f0, h.f1, h.f2⟩
theorem RBaseAt.drew {w : World} {b : Nat} {p q r : Int} {en : Bool} (h : RBaseAt w b p q r en) : RBaseAt w.drew b p q r en := ⟨h.c0, h.c1, h.c2, h.c3, h.f⟩
theorem RBaseAt.below {w w' : World} {b : Nat} {p q r : Int} {en : Bool} (h : RBaseAt w b p q r en) (hb : Below w.heap.size w w') : RBaseAt w' b p q r en :=
  h.chg (chg_of_below hb (Nat.le_refl _) (fun _ _ => False)) (fun _ h => h)
theorem below_step {S : Nat → Nat → Prop} {w w1 w2 : World} {B : Nat} (h : Below B w w1) (hc : Chg S w1 w2) (hB : B ≤ w1.heap.size) (hS : ∀ k j, k < B → ¬ S k j) : Below B w w2 := h.trans (hc.below hB hS)

theorem footR_nil {b o k j : Nat} (h : footR b o (.slice none 0 0) k j) : k = b ∧ j = o := by
  rcases h with h | h
  · exact h
  · simp [Value.ownBlock] at h
theorem mov_nil {w : World} {v : Value} (h : Mov w (.slice none 0 0) v) : ∀ g, v.ownBlock = some g → w.heap.size ≤ g := fun g hg => by
  rcases h g hg with e | e
  · simp [Value.ownBlock] at e
  · exact e

set_option maxHeartbeats 2000000 in
theorem awake_any (w : World) :
    Calls Try.prog 8 #[] w fun e w' => e = .returned (.bool true) ∧ Below w.heap.size w w' := by
  obtain ⟨N, hN⟩ : ∃ N, N = w.heap.size := ⟨_, rfl⟩
  have HN : Hid (N = w.heap.size) := hN
  rw [← hN]
  clear hN
  go_enter Try.func8, Try.ntmps8
  go_wp2_with fail
  rw [← HN.out]
  have h0 := base_new w 27 [] HN.out
  have B0 : Below N w (w.alloc (.cells #[.int .i64 0, .int .i64 0, .bool false] 27)) := (Below.refl _ _).alloc (Nat.le_of_eq HN.out) _
  refine (eat_any _ 0 0 0 false 3 _ h0 (by omega) (by omega) (by omega)).mono ?_
  rintro e w1 ⟨rfl, h1, k1⟩
  rw [show eatI 0 0 false 3 = 3 by decide] at h1
  have B1 := below_step B0 k1 (Nat.le_of_lt h0.lt) (fun k j hk h => by have := h.1; omega)
  clear h0 B0 k1
  go_wp2_with fail
  refine (stop_any _ 0 _ _ _ 3 _ h1).mono ?_
  rintro e w2 ⟨rfl, h2, k2⟩
  rw [show stopI 0 false 3 = 3 by decide] at h2
  have B2 := below_step B1 k2 (Nat.le_of_lt h1.lt) (fun k j hk h => by have := h.1; omega)
  clear h1 B1 k2
  go_wp2_with fail
  refine (eat_any _ 0 _ _ _ 2 _ h2 (by omega) (by omega) (by omega)).mono ?_
  rintro e w3 ⟨rfl, h3, k3⟩
  rw [show eatI 3 3 false 2 = 3 by decide] at h3
  have B3 := below_step B2 k3 (Nat.le_of_lt h2.lt) (fun k j hk h => by have := h.1; omega)
  clear h2 B2 k3
  go_wp2_with fail
  refine (end_any _ 0 _ _ _ _ h3).mono ?_
  rintro e w4 ⟨rfl, h4, k4⟩
  rw [show endB 3 false = false by decide] at h4
  have B4 := below_step B3 k4 (Nat.le_of_lt h3.lt) (fun k j hk h => by have := h.1; omega)
  clear h3 B3 k4
  obtain ⟨M, hM⟩ : ∃ M, M = w4.heap.size := ⟨_, rfl⟩
  have HM : Hid (M = w4.heap.size) := hM
  have hNM : N < M := by have := h4.lt; omega
  clear hM
  go_wp2_with fail
  rw [← HM.out]
  have hO := base_new w4 56 [.slice none 0 0] HM.out
  have rO := row3_new .u8 w4 56 HM.out
  have hal : Below w4.heap.size w4 (w4.alloc (.cells #[.int .i64 0, .int .i64 0, .bool false, .slice none 0 0] 56)) := (Below.refl _ _).alloc (Nat.le_refl _) _
  have h5 := h4.below hal
  have B5 := B4.trans (hal.mono (by have := HM.out; omega))
  clear h4 B4 hal
  refine (keep_any _ 3 _ _ _ _ rO (by decide)).mono ?_
  rintro e w5 ⟨v5, rfl, r5, k5, m5⟩
  have e5 : ([] : List Int) ++ bytesL { data := #[97, 98, 99] } = [97, 98, 99] := by decide
  rw [e5] at r5
  have h6 := h5.far k5 (fun j hh => by have := footR_nil hh; omega)
  have hO5 := hO.chg k5 (fun k j hf hh => by have := footR_nil hh; have := hf.2.2; omega)
  have o5 : ∀ g, v5.ownBlock = some g → M < g := fun g hg => by have := mov_nil m5 g hg; have := HM.out; simp at *; omega
  have B6 := below_step B5 k5 (by have := h5.lt; omega) (fun k j hk hh => by have := footR_nil hh; omega)
  clear h5 B5 k5 m5 hO rO e5
  go_wp2_with fail
  refine (give_any _ 3 _ _ 2 _ r5 (by decide)).mono ?_
  rintro e w6 ⟨v6, rfl, r6, k6, m6⟩
  rw [show frontN 2 ([97, 98, 99] : List Int).length = 2 by decide] at r6 ⊢
  have es : strOf (List.take 2 [97, 98, 99]) = { data := #[97, 98] } := by decide
  rw [es]
  rw [show List.drop 2 ([97, 98, 99] : List Int) = [99] by rfl] at r6
  have h7 := h6.far k6 (fun j hh => by omega)
  have hO6 := hO5.chg k6 (fun k j hf hh => by have := hf.2.2; omega)
  have o6 : ∀ g, v6.ownBlock = some g → M < g := fun g hg => o5 g (m6 g hg)
  have B7 := below_step B6 k6 (by have := h6.lt; omega) (fun k j hk hh => by omega)
  clear h6 B6 k6 m6 hO5 r5 es o5
  go_wp2_with fail
  refine (end_any _ 0 _ _ _ _ hO6).mono ?_
  rintro e w7 ⟨rfl, hO7, k7⟩
  rw [show endB 0 false = true by decide] at hO7
  have h8 := h7.far k7 (fun j hh => by have := hh.1; omega)
  have r7 := r6.chg k7 (fun k j hf hh => by
    rcases hf with hf | hf
    · have := hh.2.2; omega
    · have := o6 k hf; have := hh.1; omega)
  have B8 := below_step B7 k7 (by have := h7.lt; omega) (fun k j hk hh => by have := hh.1; omega)
  clear h7 B7 k7 hO6 r6
  obtain ⟨R, hR⟩ : ∃ R, R = w7.heap.size := ⟨_, rfl⟩
  have HR : Hid (R = w7.heap.size) := hR
  have hMR : M < R := by have := hO7.lt; omega
  have hgR : ∀ g, v6.ownBlock = some g → g < R := fun g hg => by have := r7.seg.lt hg; omega
  clear hR
  go_wp2_with fail
  rw [← HR.out]
  have rI := row3_new .u32 w7 54 HR.out
  have hal : Below w7.heap.size w7 ((w7.alloc (.cells #[.int .i64 0, .int .i64 0, .bool false, .slice none 0 0] 54)).alloc (.cells #[.int .u32 7, .int .u32 8] 50)) := ((Below.refl _ _).alloc (Nat.le_refl _) _).alloc (by simp) _
  have rI' := rI.below ((Below.refl _ _).alloc (Nat.le_refl _) (.cells #[.int .u32 7, .int .u32 8] 50))
  have h9 := h8.below hal
  have hO8 := hO7.below hal
  have r8 := r7.below hal
  have B9 := B8.trans (hal.mono (by have := HR.out; omega))
  have hrow : Row .u32 ((w7.alloc (.cells #[.int .i64 0, .int .i64 0, .bool false, .slice none 0 0] 54)).alloc (.cells #[.int .u32 7, .int .u32 8] 50)) (some ⟨R + 1, 0, none⟩) [7, 8] := row_new _ _ [7, 8] _ _ (by have := HR.out; simp; omega)
  have hsz : R < ((w7.alloc (.cells #[.int .i64 0, .int .i64 0, .bool false, .slice none 0 0] 54)).alloc (.cells #[.int .u32 7, .int .u32 8] 50)).heap.size := by have := HR.out; simp; omega
  clear h8 hO7 r7 B8 hal rI
  refine (hold_any _ 3 _ _ [7, 8] _ 2 2 _ rI' hrow rfl (fun h => by cases h) (by decide)).mono ?_
  rintro e w8 ⟨v8, rfl, r9, k8, m8⟩
  rw [List.nil_append] at r9
  have hA := h9.far k8 (fun j hh => by have := footR_nil hh; omega)
  have hB := hO8.far k8 (fun j hh => by have := footR_nil hh; omega)
  have rB := r8.chg k8 (fun k j hf hh => by
    have := footR_nil hh
    rcases hf with hf | hf
    · omega
    · have := hgR k hf; omega)
  have o8 : ∀ g, v8.ownBlock = some g → R < g := fun g hg => by have := mov_nil m8 g hg; omega
  have BA := below_step B9 k8 (by have := h9.lt; omega) (fun k j hk hh => by have := footR_nil hh; omega)
  clear h9 hO8 r8 B9 hrow rI' k8 m8 hsz
  go_wp2_with fail
  refine (tell_any _ 3 _ _ 1 _ r9 (by decide) (by decide)).mono ?_
  rintro e w9 ⟨vr, v9, rfl, rC, sr, ofr, k9, m9⟩
  rw [show frontN 1 ([7, 8] : List Int).length = 1 by decide] at rC sr
  rw [show List.drop 1 ([7, 8] : List Int) = [8] by rfl] at rC
  rw [show List.take 1 ([7, 8] : List Int) = [7] by rfl] at sr
  have hC := hA.far k9 (fun j hh => by omega)
  have hD := hB.far k9 (fun j hh => by omega)
  have rD := rB.chg k9 (fun k j hf hh => by
    rcases hf with hf | hf
    · omega
    · have := hgR k hf; omega)
  have BB := below_step BA k9 (by have := hA.lt; omega) (fun k j hk hh => by omega)
  clear hA hB rB BA r9 k9 m9 o8 ofr
  obtain ⟨av, cv, rfl, ⟨bv, ov, hav, hcv⟩, -⟩ := sr.form
  obtain rfl := hav (by simp)
  have hcell : w9.cell? ⟨bv, ov, none⟩ = some (.int .u32 7) := hcv 0 (by decide)
  clear hav hcv sr
  go_wp2_with fail
  refine (at_any _ _ _ _ _ _ hC).mono ?_
  rintro e w9 ⟨rfl, rfl⟩
  go_wp2_with fail
  refine (fail_any _ _ _ _ _ _ hC).mono ?_
  rintro e wA ⟨rfl, b1⟩
  rw [show failAt 3 3 = 3 by decide]
  have hC1 := hC.below b1
  have hD1 := hD.below b1
  have rD1 := rD.below b1
  have rC1 := rC.below b1
  have hcell1 := cell_later b1 hcell
  have BC := BB.trans (b1.mono (by have := hC.lt; omega))
  clear hC hD rD rC hcell BB b1
  go_wp2_with fail
  refine (going_any _ _ _ _ _ _ hC1).mono ?_
  rintro e wA ⟨rfl, rfl⟩
  rw [show goB 3 false = false by decide]
  go_wp2_with fail
  refine (kept_any _ _ _ _ _ rD1).mono ?_
  rintro e wA ⟨rfl, rfl⟩
  go_wp2_with fail
  refine (outDone_any _ _ _ _ _ _ _ _ hD1 rD1).mono ?_
  rintro e wA ⟨rfl, rfl⟩
  rw [show (!goB 0 true && ([99] : List Int).length == 0) = false by decide]
  go_wp2_with fail
  refine (going_any _ _ _ _ _ _ hD1).mono ?_
  rintro e wA ⟨rfl, rfl⟩
  rw [show goB 0 true = false by decide]
  go_wp2_with fail
  refine (held_any _ _ _ _ _ rC1).mono ?_
  rintro e wA ⟨rfl, rfl⟩
  go_wp2
  go_ret
  exact ⟨rfl, BC⟩
end Stp
end Go.Proofs.Ytalifhgflngooaa
