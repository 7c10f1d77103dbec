/-
  What the laws of layer 3 on both machines share: bytes as texts, numbers that fit. No statement of the program; no condition.
-/
import Derived.Test.YtknebngapfakjaaDoorU8Law
import Derived.Test.YtknebngapfakjaaDoorU8Wr2
namespace Go.Proofs.YtknebngapfakjaaDoor
open Go.ChangeShapes Go.WideShapes Go.ChangeAt Go.RowKit
namespace U8
open Bas Sca Stp Scn
set_option linter.unusedVariables false

theorem came_seg {w : World} {v : Value} {L : List Int} {b : Nat} {vE : Value} (h : Seg .u32 w v L) (hf : ∀ g, v.ownBlock = some g → ¬ footE b vE g) : Came w v L b vE := by
  rcases h with ⟨rfl, rfl⟩ | ⟨g, off, cap, rfl, hg, h1, h2, h3, h4, h5⟩
  · exact .inl ⟨none, rfl, rfl⟩
  · exact .inr ⟨g, off, cap, rfl, h1, h2, ⟨g, off, fun _ => rfl, h3⟩, fun _ => hf g rfl⟩
theorem fits_u32' {x : Int} (h : (Lit.int .u32 x).wf = true) : 0 ≤ x ∧ x < 4294967296 := by
  have e1 : IntKind.u32.min = 0 := rfl
  have e2 : IntKind.u32.max = 4294967295 := rfl
  simp only [Lit.wf, e1, e2, Bool.and_eq_true, decide_eq_true_eq] at h
  omega
theorem fits_u32 {x : Int} (h : (Lit.int .u32 x).wf = true) : 0 ≤ x := (fits_u32' h).1
theorem allOf_bytes (l : List Int) (h : ∀ c ∈ l, isB c = true) : allOf oneN l = bytesN l := by
  induction l with
  | nil => rfl
  | cons c r ih =>
    unfold allOf bytesN
    rw [if_pos (h c (by simp)), ih (fun x hx => h x (by simp [hx]))]
theorem oneN_byte {c : Int} (h : isB c = true) (h0 : 0 ≤ c) : ∀ x ∈ oneN c, 0 ≤ x ∧ x < 256 := by
  have := isB_iff.1 h
  intro x hx
  unfold oneN at hx
  split at hx
  · simp at hx; omega
  · split at hx
    · simp at hx; omega
    · split at hx
      · simp at hx; omega
      · simp at hx; omega
theorem bytesN_byte (l : List Int) (h : ∀ c ∈ l, isB c = true ∧ 0 ≤ c) : ∀ x ∈ bytesN l, 0 ≤ x ∧ x < 256 := by
  induction l with
  | nil => simp [bytesN]
  | cons c r ih =>
    intro x hx
    unfold bytesN at hx
    rw [List.mem_append] at hx
    rcases hx with hx | hx
    · exact oneN_byte (h c (by simp)).1 (h c (by simp)).2 x hx
    · exact ih (fun y hy => h y (by simp [hy])) x hx
theorem bytesL_strOf (l : List Int) (h : ∀ x ∈ l, 0 ≤ x ∧ x < 256) : bytesL (Stp.strOf l) = l := by
  unfold bytesL
  rw [strOf_data, List.map_map]
  conv => rhs; rw [← List.map_id l]
  apply List.map_congr_left
  intro x hx
  have := h x hx
  obtain ⟨m, rfl⟩ := Int.eq_ofNat_of_zero_le this.1
  have hm : m < 256 := by omega
  simp
  omega
end U8
end Go.Proofs.YtknebngapfakjaaDoor
