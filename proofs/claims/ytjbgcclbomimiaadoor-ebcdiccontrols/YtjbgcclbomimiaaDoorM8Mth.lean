/-
  What holds of every codec whose machine goes byte by byte: what was told and what has begun are what was eaten; scalars' bytes are told as they were. Plain facts; no Go text is named here; no condition.
-/
import Derived.Test.YtjbgcclbomimiaaDoorM8Math
import Derived.Test.YtjbgcclbomimiaaDoorCod
namespace Go.Proofs.YtjbgcclbomimiaaDoor.M8
open Bas Scn Sca Cod

theorem byte_snoc {s : List Int} {b : Int} (hs : ∀ x ∈ s, 0 ≤ x ∧ x < 256) (hb : 0 ≤ b ∧ b < 256) : ∀ x ∈ s ++ [b], 0 ≤ x ∧ x < 256 := by
  intro x hx
  simp at hx
  rcases hx with hx | rfl
  · exact hs x hx
  · exact hb
/-- What was told and what has begun are what was eaten; all that is told are scalars; what has begun is a beginning. -/
theorem scan_facts (π : Par) (l : List Int) (hl : ∀ x ∈ l, 0 ≤ x ∧ x < 256) (s : List Int) (hg : Good π s) (hs : ∀ x ∈ s, 0 ≤ x ∧ x < 256) :
    bytesOf (oneN π) (scan (stepU π) s l).told ++ (scan (stepU π) s l).st = s ++ l.take (scan (stepU π) s l).eaten ∧ (∀ c ∈ (scan (stepU π) s l).told, isB c = true ∧ 0 ≤ c) ∧ Good π (scan (stepU π) s l).st := by
  induction l generalizing s with
  | nil => simpa [scan, bytesOf] using hg
  | cons b r ih =>
    have hb := hl b (by simp)
    have hr : ∀ x ∈ r, 0 ≤ x ∧ x < 256 := fun x hx => hl x (by simp [hx])
    cases h : stepU π s b with
    | none => rw [scan_none _ h]; simpa [bytesOf] using hg
    | some x =>
      rw [scan_some _ h]
      simp only [Res.pre]
      rw [show 1 + (scan (stepU π) x.1 r).eaten = (scan (stepU π) x.1 r).eaten + 1 by omega, List.take_succ_cons, bytesOf_append, List.append_assoc]
      rcases step_cases hg hs hb h with ⟨rfl, hg2⟩ | ⟨c, rfl, ho, hc, h0⟩
      · obtain ⟨i1, i2, i3⟩ := ih hr (s ++ [b]) hg2 (byte_snoc hs hb)
        refine ⟨?_, fun c hc => i2 c (by simpa using hc), i3⟩
        rw [i1]; simp [bytesOf]
      · obtain ⟨i1, i2, i3⟩ := ih hr [] (good_nil π) (by simp)
        refine ⟨?_, fun d hd => ?_, i3⟩
        · rw [i1, bytesOf_one, ho]; simp
        · simp at hd
          rcases hd with rfl | hd
          · exact ⟨hc, h0⟩
          · exact i2 d hd
theorem scan_back (π : Par) (l : List Int) (h : ∀ c ∈ l, isB c = true ∧ 0 ≤ c) : scan (stepU π) [] (bytesOf (oneN π) l) = ⟨l, (bytesOf (oneN π) l).length, [], false⟩ := by
  induction l with
  | nil => rfl
  | cons c r ih =>
    have hc := h c (by simp)
    rw [bytesOf, scan_one π c hc.2 hc.1, ih (fun x hx => h x (by simp [hx]))]
    simp [Res.pre]
/-- A beginning, and one byte more. -/
theorem step_beg' {π : Par} {s : St} {b : Int} {x : St × List Int} (hg : Good π s) (hs : ∀ y ∈ s, 0 ≤ y ∧ y < 256) (hb : 0 ≤ b ∧ b < 256) (h : stepU π s b = some x) : Good π x.1 ∧ ∀ y ∈ x.1, 0 ≤ y ∧ y < 256 := by
  rcases step_cases hg hs hb h with ⟨rfl, hg2⟩ | ⟨c, rfl, _⟩
  · exact ⟨hg2, byte_snoc hs hb⟩
  · exact ⟨good_nil π, by simp⟩
end Go.Proofs.YtjbgcclbomimiaaDoor.M8
