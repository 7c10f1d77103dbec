/-
  Plain facts on layer 17: signatures, whose one a text begins with, what stands behind it. No Go text is named here; no condition.
-/
import Derived.Test.YtmihceoeoggjjaaBasMath
namespace Go.Proofs.Ytmihceoeoggjjaa.Sig
open Bas
set_option linter.unusedVariables false
set_option linter.unusedSimpArgs false

def sigL (c : Int) : List Int :=
  if c = 1 then [239, 187, 191] else if c = 2 then [254, 255] else if c = 3 then [255, 254] else if c = 4 then [0, 0, 254, 255] else if c = 5 then [255, 254, 0, 0]
  else if c = 6 then [221, 115, 102, 115] else if c = 8 then [251, 238, 40] else if c = 9 then [14, 254, 255] else []
/-- Does a text begin with a codec's signature, and has the codec one? -/
def preB (l : List Int) (c : Int) : Bool := decide (sigL c ≠ [] ∧ l.take (sigL c).length = sigL c)
/-- Whose signature it begins with, the longest one; 0: nobody's. -/
def sniffL (l : List Int) : Int :=
  if preB l 5 = true then 5 else if preB l 1 = true then 1 else if preB l 2 = true then 2 else if preB l 3 = true then 3 else if preB l 4 = true then 4
  else if preB l 6 = true then 6 else if preB l 8 = true then 8 else if preB l 9 = true then 9 else 0
/-- Codecs that have a signature. -/
def hasS (c : Int) : Prop := c = 1 ∨ c = 2 ∨ c = 3 ∨ c = 4 ∨ c = 5 ∨ c = 6 ∨ c = 8 ∨ c = 9
theorem sig_ne {c : Int} : sigL c ≠ [] ↔ hasS c := by
  constructor
  · intro h
    by_cases hc : hasS c
    · exact hc
    · exfalso; apply h
      unfold hasS at hc
      unfold sigL
      rw [if_neg (by omega), if_neg (by omega), if_neg (by omega), if_neg (by omega), if_neg (by omega), if_neg (by omega), if_neg (by omega), if_neg (by omega)]
  · rintro (rfl | rfl | rfl | rfl | rfl | rfl | rfl | rfl) <;> decide
theorem pre_iff {l : List Int} {c : Int} : preB l c = true ↔ hasS c ∧ ∃ r, l = sigL c ++ r := by
  unfold preB
  rw [decide_eq_true_eq, sig_ne]
  constructor
  · rintro ⟨h1, h2⟩
    exact ⟨h1, l.drop (sigL c).length, by conv => lhs; rw [← List.take_append_drop (sigL c).length l, h2]⟩
  · rintro ⟨h1, r, rfl⟩
    exact ⟨h1, by simp⟩
theorem pre_no {l : List Int} {c : Int} (h : ¬ hasS c) : preB l c = false := by
  cases hp : preB l c with
  | false => rfl
  | true => exact absurd (pre_iff.1 hp).1 h
/-- Two signatures that begin one text are one, or those of 3 and 5. -/
theorem pre_uniq {l : List Int} {c d : Int} (h1 : preB l c = true) (h2 : preB l d = true) : c = d ∨ (c = 3 ∧ d = 5) ∨ (c = 5 ∧ d = 3) := by
  obtain ⟨a1, r, e1⟩ := pre_iff.1 h1
  obtain ⟨a2, q, e2⟩ := pre_iff.1 h2
  subst e1
  rcases a1 with rfl | rfl | rfl | rfl | rfl | rfl | rfl | rfl <;> rcases a2 with rfl | rfl | rfl | rfl | rfl | rfl | rfl | rfl <;>
    first
    | exact .inl rfl
    | exact .inr (.inl ⟨rfl, rfl⟩)
    | exact .inr (.inr ⟨rfl, rfl⟩)
    | (exfalso; simp [sigL] at e2)
theorem pre_53 {l : List Int} (h : preB l 5 = true) : preB l 3 = true := by
  obtain ⟨-, r, e⟩ := pre_iff.1 h
  exact pre_iff.2 ⟨.inr (.inr (.inl rfl)), 0 :: 0 :: r, e⟩
/-- What is sniffed, told in one row. -/
theorem sniff_is {l : List Int} {c : Int} (h : preB l c = true) (h5 : c = 5 ∨ preB l 5 = false) : sniffL l = c := by
  have key : ∀ d, preB l d = true → d = c ∨ (d = 3 ∧ c = 5) ∨ (d = 5 ∧ c = 3) := fun d hd => pre_uniq hd h
  unfold sniffL
  rcases h5 with rfl | h5
  · rw [if_pos h]
  · rw [if_neg (by rw [h5]; simp)]
    have no : ∀ d, d ≠ c → d ≠ 5 → ¬ preB l d = true := by
      intro d hd hd5 hp
      rcases key d hp with e | ⟨e1, e2⟩ | ⟨e1, e2⟩
      · exact hd e
      · subst e2; rw [h] at h5; cases h5
      · exact hd5 e1
    rcases (pre_iff.1 h).1 with rfl | rfl | rfl | rfl | rfl | rfl | rfl | rfl
    · rw [if_pos h]
    · rw [if_neg (no 1 (by decide) (by decide)), if_pos h]
    · rw [if_neg (no 1 (by decide) (by decide)), if_neg (no 2 (by decide) (by decide)), if_pos h]
    · rw [if_neg (no 1 (by decide) (by decide)), if_neg (no 2 (by decide) (by decide)), if_neg (no 3 (by decide) (by decide)), if_pos h]
    · rw [h] at h5; cases h5
    · rw [if_neg (no 1 (by decide) (by decide)), if_neg (no 2 (by decide) (by decide)), if_neg (no 3 (by decide) (by decide)), if_neg (no 4 (by decide) (by decide)), if_pos h]
    · rw [if_neg (no 1 (by decide) (by decide)), if_neg (no 2 (by decide) (by decide)), if_neg (no 3 (by decide) (by decide)), if_neg (no 4 (by decide) (by decide)), if_neg (no 6 (by decide) (by decide)), if_pos h]
    · rw [if_neg (no 1 (by decide) (by decide)), if_neg (no 2 (by decide) (by decide)), if_neg (no 3 (by decide) (by decide)), if_neg (no 4 (by decide) (by decide)), if_neg (no 6 (by decide) (by decide)), if_neg (no 8 (by decide) (by decide)), if_pos h]
theorem sniff_no {l : List Int} (h : ∀ c, hasS c → preB l c = false) : sniffL l = 0 := by
  unfold sniffL
  have no : ∀ d, hasS d → ¬ preB l d = true := by
    intro d hd; rw [h d hd]; simp
  unfold hasS at no
  rw [if_neg (no 5 (by simp)), if_neg (no 1 (by simp)), if_neg (no 2 (by simp)), if_neg (no 3 (by simp)), if_neg (no 4 (by simp)), if_neg (no 6 (by simp)), if_neg (no 8 (by simp)), if_neg (no 9 (by simp))]
theorem sniff_cases (l : List Int) : (sniffL l = 0 ∧ ∀ c, preB l c = false) ∨ (hasS (sniffL l) ∧ preB l (sniffL l) = true ∧ (sniffL l = 5 ∨ preB l 5 = false)) := by
  by_cases h : ∃ c, preB l c = true
  · obtain ⟨c, hc⟩ := h
    right
    by_cases h5 : preB l 5 = true
    · rw [sniff_is h5 (.inl rfl)]; exact ⟨(pre_iff.1 h5).1, h5, .inl rfl⟩
    · have h5' : preB l 5 = false := by simpa using h5
      rw [sniff_is hc (.inr h5')]; exact ⟨(pre_iff.1 hc).1, hc, .inr h5'⟩
  · left
    have : ∀ c, preB l c = false := by
      intro c
      cases hp : preB l c with
      | false => rfl
      | true => exact absurd ⟨c, hp⟩ h
    exact ⟨sniff_no fun c _ => this c, this⟩
theorem sig_len (c : Int) : (sigL c).length ≤ 4 := by
  by_cases h : sigL c = []
  · rw [h]; decide
  · rcases sig_ne.1 h with rfl | rfl | rfl | rfl | rfl | rfl | rfl | rfl <;> decide
theorem sig_zero : sigL 0 = [] := rfl
/-- The longest of all. -/
theorem sniff_longest {l : List Int} {c : Int} (h : preB l c = true) : (sigL c).length ≤ (sigL (sniffL l)).length := by
  rcases sniff_cases l with ⟨-, e⟩ | ⟨e1, e2, e3⟩
  · rw [e c] at h; cases h
  · rcases pre_uniq h e2 with e | ⟨rfl, e⟩ | ⟨rfl, e⟩
    · rw [← e]; exact Nat.le_refl _
    · rw [e]; decide
    · rcases e3 with e3 | e3
      · rw [e3] at e; cases e
      · rw [h] at e3; cases e3
theorem pre_more {l m : List Int} {c : Int} (h : preB l c = true) : preB (l ++ m) c = true := by
  obtain ⟨a, r, rfl⟩ := pre_iff.1 h
  exact pre_iff.2 ⟨a, r ++ m, by rw [List.append_assoc]⟩
/-- What stands behind plays no part, but where it makes a longer one. -/
theorem sniff_more (l m : List Int) : (sniffL l = 0 ∨ sniffL (l ++ m) ≠ 0) ∧ (sigL (sniffL l)).length ≤ (sigL (sniffL (l ++ m))).length ∧ ((sigL (sniffL l)).length < (sigL (sniffL (l ++ m))).length ∨ sniffL l = sniffL (l ++ m)) := by
  rcases sniff_cases l with ⟨e, -⟩ | ⟨e1, e2, e3⟩
  · refine ⟨.inl e, by rw [e]; exact Nat.zero_le _, ?_⟩
    rw [e, sig_zero]
    rcases sniff_cases (l ++ m) with ⟨f, -⟩ | ⟨f1, -, -⟩
    · exact .inr f.symm
    · left
      have := sig_ne.2 f1
      exact List.length_pos_iff.2 this
  · have h2 := pre_more (m := m) e2
    refine ⟨.inr ?_, sniff_longest h2, ?_⟩
    · rcases sniff_cases (l ++ m) with ⟨-, f⟩ | ⟨f1, -, -⟩
      · rw [f] at h2; cases h2
      · intro f; rw [f] at f1; unfold hasS at f1; omega
    · rcases sniff_cases (l ++ m) with ⟨-, f⟩ | ⟨f1, f2, f3⟩
      · rw [f] at h2; cases h2
      · rcases pre_uniq h2 f2 with e | ⟨a, b⟩ | ⟨a, b⟩
        · exact .inr e
        · left; rw [a, b]; decide
        · rcases f3 with f3 | f3
          · rw [f3] at b; cases b
          · rw [a] at h2; rw [h2] at f3; cases f3
/-- A codec's signature ahead. -/
theorem sniff_mark {c : Int} (h : hasS c) (r : List Int) : sniffL (sigL c ++ r) = if c = 3 ∧ r.take 2 = [0, 0] then 5 else c := by
  have hp : preB (sigL c ++ r) c = true := pre_iff.2 ⟨h, r, rfl⟩
  by_cases h3 : c = 3 ∧ r.take 2 = [0, 0]
  · rw [if_pos h3]
    obtain ⟨rfl, h2⟩ := h3
    refine sniff_is (pre_iff.2 ⟨.inr (.inr (.inr (.inr (.inl rfl)))), r.drop 2, ?_⟩) (.inl rfl)
    have : r = [0, 0] ++ r.drop 2 := by rw [← h2, List.take_append_drop]
    conv => lhs; rw [this]
    rfl
  · rw [if_neg h3]
    by_cases h5 : preB (sigL c ++ r) 5 = true
    · rcases pre_uniq hp h5 with e | ⟨rfl, -⟩ | ⟨-, e⟩
      · exact sniff_is hp (.inl e)
      · exfalso; apply h3
        obtain ⟨-, q, e⟩ := pre_iff.1 h5
        refine ⟨rfl, ?_⟩
        have e' : [255, 254] ++ r = [255, 254, 0, 0] ++ q := e
        simp at e'
        subst e'
        rfl
      · cases e
    · exact sniff_is hp (.inr (by simpa using h5))
/-- The document's own way: one codec after the other, a longer one wins. -/
def bestL (l : List Int) : Nat → Int
  | 0 => 0
  | k + 1 => if preB l (k + 1) = true ∧ (bestL l k = 0 ∨ (sigL (bestL l k)).length < (sigL (k + 1)).length) then (k + 1 : Int) else bestL l k
theorem best_is (l : List Int) : ∀ k : Nat, (bestL l k = 0 ∧ ∀ c : Int, 1 ≤ c → c ≤ k → preB l c = false) ∨ (1 ≤ bestL l k ∧ bestL l k ≤ k ∧ preB l (bestL l k) = true ∧ (5 ≤ k → bestL l k = 5 ∨ preB l 5 = false)) := by
  intro k
  induction k with
  | zero => exact .inl ⟨rfl, fun c h1 h2 => by omega⟩
  | succ k ih =>
    simp only [bestL]
    by_cases hp : preB l (k + 1) = true
    · rcases ih with ⟨e, n⟩ | ⟨e1, e2, e3, e4⟩
      · rw [if_pos ⟨hp, .inl e⟩]
        refine .inr ⟨by omega, by omega, hp, fun h => ?_⟩
        by_cases hk : (k : Int) + 1 = 5
        · exact .inl hk
        · exact .inr (n 5 (by omega) (by omega))
      · by_cases hl : (sigL (bestL l k)).length < (sigL (k + 1)).length
        · rw [if_pos ⟨hp, .inr hl⟩]
          refine .inr ⟨by omega, by omega, hp, fun h => ?_⟩
          by_cases hk : (k : Int) + 1 = 5
          · exact .inl hk
          · rcases e4 (by omega) with e | e
            · rcases pre_uniq hp e3 with f | ⟨f1, f2⟩ | ⟨f1, f2⟩
              · omega
              · omega
              · omega
            · exact .inr e
        · rw [if_neg (fun h => h.2.elim (fun e => by omega) hl)]
          refine .inr ⟨e1, by omega, e3, fun h => ?_⟩
          by_cases hk : (k : Int) + 1 = 5
          · rcases pre_uniq hp e3 with f | ⟨f1, f2⟩ | ⟨f1, f2⟩
            · omega
            · omega
            · exfalso; apply hl; rw [f2, f1]; decide
          · exact e4 (by omega)
    · rw [if_neg (fun h => hp h.1)]
      have hp' : preB l (k + 1) = false := by simpa using hp
      rcases ih with ⟨e, n⟩ | ⟨e1, e2, e3, e4⟩
      · refine .inl ⟨e, fun c h1 h2 => ?_⟩
        by_cases hc : c = k + 1
        · rw [hc]; exact hp'
        · exact n c h1 (by omega)
      · refine .inr ⟨e1, by omega, e3, fun h => ?_⟩
        by_cases hk : (k : Int) + 1 = 5
        · rw [hk] at hp'; exact .inr hp'
        · exact e4 (by omega)
theorem best_sniff (l : List Int) {k : Nat} (h : 9 ≤ k) : bestL l k = sniffL l := by
  rcases best_is l k with ⟨e, n⟩ | ⟨e1, e2, e3, e4⟩
  · rw [e, sniff_no]
    intro c hc
    unfold hasS at hc
    exact n c (by omega) (by omega)
  · exact (sniff_is e3 (e4 (by omega))).symm
end Go.Proofs.Ytmihceoeoggjjaa.Sig
