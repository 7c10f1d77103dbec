/-
  Bytes of layer 6's text compare as scalars do. Plain facts; no Go text is named here; no condition.
-/
import Derived.Test.YtjbgcclbomimiaaDoorM8Mth
namespace Go.Proofs.YtjbgcclbomimiaaDoor.M8
open Bas Scn Sca Cod

set_option maxHeartbeats 4000000 in
theorem one_lt (π : Par) {c d : Int} (h0 : 0 ≤ c) (hd : d ≤ 1114111) (h : c < d) (x y : List Int) : cmpL (oneN π c ++ x) (oneN π d ++ y) = -1 := by
  unfold oneN
  repeat' split
  all_goals try (exfalso; omega)
  all_goals simp only [List.cons_append, List.nil_append, cmpL]
  all_goals repeat' split
  all_goals first | rfl | (exfalso; omega)
/-- Bytes compare as scalars do. -/
theorem cmp_bytes (π : Par) (l m : List Int) (hl : ∀ c ∈ l, isB c = true ∧ 0 ≤ c) (hm : ∀ c ∈ m, isB c = true ∧ 0 ≤ c) : cmpL (bytesOf (oneN π) l) (bytesOf (oneN π) m) = cmpL l m := by
  induction l generalizing m with
  | nil =>
    cases m with
    | nil => rfl
    | cons d s =>
      have h1 := oneN_pos π d
      cases ho : oneN π d with
      | nil => rw [ho] at h1; simp at h1
      | cons a r => simp [bytesOf, ho, cmpL]
  | cons c r ih =>
    cases m with
    | nil =>
      have h1 := oneN_pos π c
      cases ho : oneN π c with
      | nil => rw [ho] at h1; simp at h1
      | cons a r => simp [bytesOf, ho, cmpL]
    | cons d s =>
      have hc := hl c (by simp); have hd := hm d (by simp)
      have c1 := isB_iff.1 hc.1; have d1 := isB_iff.1 hd.1
      simp only [bytesOf]
      rcases Int.lt_trichotomy c d with h | rfl | h
      · rw [one_lt π hc.2 d1.1 h]; simp [cmpL, h]
      · rw [cmpL_front, ih s (fun x hx => hl x (by simp [hx])) (fun x hx => hm x (by simp [hx]))]
        simp [cmpL]
      · rw [cmpL_turn, one_lt π hd.2 c1.1 h]
        have : ¬ c < d := by omega
        simp [cmpL, this, h]
end Go.Proofs.YtjbgcclbomimiaaDoor.M8
