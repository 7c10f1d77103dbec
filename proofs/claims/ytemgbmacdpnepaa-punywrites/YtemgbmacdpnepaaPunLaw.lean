/-
  What the laws of layer 10 share. No statement of the program; no condition.
-/
import Derived.Test.YtemgbmacdpnepaaPunRd
import Derived.Test.YtemgbmacdpnepaaPunWr
import Derived.Test.YtemgbmacdpnepaaPunAwk
import Derived.Test.YtemgbmacdpnepaaPair
namespace Go.Proofs.Ytemgbmacdpnepaa
open Go.ChangeShapes Go.WideShapes Go.ChangeAt Go.RowKit
namespace Pun
open Bas Sca Stp Scn Cod
set_option linter.unusedVariables false

theorem great_no' {n : Int} {n1 n2 : Nat} (h : (decide (n > 120) || (decide (n1 > 200) || decide (n2 > 200))) = false) : n ≤ 120 ∧ n1 ≤ 200 ∧ n2 ≤ 200 := by
  simp at h; omega
theorem came_seg {w : World} {v : Value} {L : List Int} {b : Nat} {vE uE : Value} (h : Seg .u32 w v L) (hf : ∀ g, v.ownBlock = some g → ¬ footE b vE uE g) : Came w v L b vE uE := by
  rcases h with ⟨rfl, rfl⟩ | ⟨g, off, cap, rfl, hg, h1, h2, h3, h4, h5⟩
  · exact .inl ⟨none, rfl, rfl⟩
  · exact .inr ⟨g, off, cap, rfl, h1, h2, ⟨g, off, fun _ => rfl, h3⟩, fun _ => hf g rfl⟩
theorem scalars_of {l : List Int} (hf : ∀ x ∈ l, (Lit.int .u32 x).wf = true) (h : okLen l = l.length) : ∀ c ∈ l, isB c = true ∧ 0 ≤ c := fun c hc => by
  have hall := okLen_all l h
  obtain ⟨i, hi, rfl⟩ := List.mem_iff_getElem.1 hc
  have h1 := hall i hi
  have h2 := hf _ hc
  have e : nth l i = l[i] := by simp [nth, hi]
  rw [e] at h1
  exact ⟨h1, fits_u32 h2⟩
/-- A text that a list has is read as that list. -/
theorem text_read {L T : List Int} (h : TextOf L T) : bahL T = T.length ∧ rdQ T = 0 ∧ rdE T = true ∧ rdL T = L := by
  have hb : bahL T = T.length := bahL_of (fun x hx => (h.plain x hx).2)
  have hn : ¬ bahL T < T.length := by omega
  refine ⟨hb, ?_, ?_, ?_⟩
  · unfold rdQ endQ; rw [if_neg hn, h.dec]
  · unfold rdE endE; rw [if_neg hn, h.dec]
  · unfold rdL endL; rw [if_neg hn, h.dec]
/-- What was read without an error. -/
theorem read_text {T : List Int} (h : rdQ T = 0) : textD T = some (rdL T) ∧ bahL T = T.length ∧ rdE T = true := by
  unfold rdQ at h
  by_cases hn : bahL T < T.length
  · rw [if_pos hn] at h; cases h
  · rw [if_neg hn] at h
    have hle := bahL_le T
    unfold endQ at h
    unfold rdL rdE endL endE
    rw [if_neg hn, if_neg hn]
    cases ht : textD T with
    | none => rw [ht] at h; cases h
    | some L => exact ⟨rfl, by omega, rfl⟩
theorem rdL_err {T : List Int} (h : rdQ T ≠ 0) : rdL T = [] := by
  unfold rdQ at h
  unfold rdL
  by_cases hn : bahL T < T.length
  · rw [if_pos hn]
  · rw [if_neg hn] at h ⊢
    unfold endQ at h
    unfold endL
    cases ht : textD T with
    | none => rfl
    | some L => rw [ht] at h; exact absurd rfl h
theorem decL_scalars (t : List Int) : ∀ (s : PS) (L : List Int), (∀ c ∈ s.l, isB c = true ∧ 0 ≤ c) → decL s t = some L → ∀ c ∈ L, isB c = true ∧ 0 ≤ c := by
  obtain ⟨n, hn⟩ : ∃ n, t.length = n := ⟨_, rfl⟩
  induction n using Nat.strongRecOn generalizing t with
  | _ n ih =>
    intro s L hs h
    by_cases h0 : t = []
    · subst h0
      rw [decL_nil] at h
      rw [← Option.some.inj h]; exact hs
    · by_cases he : (Bia.getF s.b 0 0 0 1 t).2.2 ≠ 0
      · rw [decL_err h0 he] at h; cases h
      · obtain ⟨⟨d, e, er⟩, hg⟩ : ∃ g, Bia.getF s.b 0 0 0 1 t = g := ⟨_, rfl⟩
        rw [hg] at he
        obtain rfl : er = 0 := by simpa using he
        have hp := getF_place _ _ _ _ _ _ _ _ hg
        cases hst : stepD s d with
        | none => rw [decL_none hg hst] at h; cases h
        | some s' =>
          rw [decL_some hg hst] at h
          refine ih _ (by rw [← hn, List.length_drop]; omega) (t.drop e) rfl s' L (fun c hc => ?_) h
          obtain ⟨v, p, -, -, -, hb, rfl⟩ := stepD_some hst
          rcases insL_mem hc with rfl | hc
          · exact ⟨hb, by omega⟩
          · exact hs c hc
theorem isB_small {x : Int} (h0 : 0 ≤ x) (h : x < 128) : isB x = true := isB_iff.2 (by omega)
theorem textD_scalars {T L : List Int} (hT : ∀ x ∈ T, 0 ≤ x ∧ x < 128) (h : textD T = some L) : ∀ c ∈ L, isB c = true ∧ 0 ≤ c := by
  by_cases h0 : 0 < hyp T
  · rw [textD_some h0] at h
    exact decL_scalars _ _ _ (fun c hc => by have := hT c (List.mem_of_mem_take hc); exact ⟨isB_small this.1 this.2, this.1⟩) h
  · rw [textD_none h0] at h
    exact decL_scalars _ _ _ (fun c hc => by simp [PS.zero] at hc) h
end Pun
end Go.Proofs.Ytemgbmacdpnepaa
