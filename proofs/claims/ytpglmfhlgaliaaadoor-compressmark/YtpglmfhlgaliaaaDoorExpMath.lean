/-
  Plain facts on layer 14: the machine that reads SCSU, byte by byte: its two modes, its windows, units and their pairs; what a part comes to; with which bytes a beginning goes on. No Go text is named here; no condition.
-/
import Derived.Test.YtpglmfhlgaliaaaDoorWinMath
import Derived.Test.YtpglmfhlgaliaaaDoorScan
import Derived.Test.YtpglmfhlgaliaaaDoorScaMath
namespace Go.Proofs.YtpglmfhlgaliaaaDoor.Exp
open Bas Scn Sca Win
set_option linter.unusedVariables false
set_option linter.unusedSimpArgs false

/-- The mode, the active window, the windows, a first unit that waits for its second one (0: none), the bytes of a part that isn't complete. -/
structure St where
  uni : Bool
  act : Nat
  wins : List Int
  hi : Int
  beg : List Int
def st0 : St := ⟨false, 0, firstL8, 0, []⟩
/-- What a part is, by its first byte: 0 wrong, 1 a unit behind it, 2 a unit's first byte, 3 one scalar of a window, 4 a window by two bytes, 5 a window by an index, 6 another window, 7 the other mode, 8 of the active window, 9 itself. -/
def kindP (uni : Bool) (b : Int) : Nat :=
  if uni = true then (if b < 224 ∨ 242 < b then 2 else if b = 240 then 1 else if b = 242 then 0 else if b = 241 then 4 else if 232 ≤ b then 5 else 6)
  else (if b = 14 then 1 else if b = 12 then 0 else if 1 ≤ b ∧ b ≤ 8 then 3 else if b = 11 then 4 else if 24 ≤ b ∧ b ≤ 31 then 5 else if 16 ≤ b ∧ b ≤ 23 then 6 else if b = 15 then 7 else if 128 ≤ b then 8 else 9)
/-- The window that a byte of kind 5 or 6 names. -/
def numP (uni : Bool) (b : Int) : Nat := if uni = true then (if 232 ≤ b then (b - 232).toNat else (b - 224).toNat) else if 24 ≤ b then (b - 24).toNat else (b - 16).toNat
def lowB (x : Int) : Bool := decide (220 ≤ x ∧ x ≤ 223)
/-- A unit's first byte. -/
def firstU (s : St) (b : Int) : Option (St × List Int) := if lowB b = decide (0 < s.hi) then some (⟨s.uni, s.act, s.wins, s.hi, s.beg ++ [b]⟩, []) else none
/-- A unit is complete. -/
def unitE (s : St) (x y : Int) : St × List Int :=
  if lowB x = true then (⟨s.uni, s.act, s.wins, 0, []⟩, [65536 + (s.hi - 55296) * 1024 + (x * 256 + y) - 56320])
  else if 55296 ≤ x * 256 + y ∧ x * 256 + y ≤ 56319 then (⟨s.uni, s.act, s.wins, x * 256 + y, []⟩, [])
  else (⟨s.uni, s.act, s.wins, s.hi, []⟩, [x * 256 + y])
/-- A window is laid. -/
def layE (s : St) (n : Nat) (o : Int) : St := ⟨false, n, s.wins.set n o, s.hi, []⟩
/-- A byte more, of no part that has begun. -/
def step0 (s : St) (b : Int) : Option (St × List Int) :=
  if kindP s.uni b = 1 then some (⟨s.uni, s.act, s.wins, s.hi, [b]⟩, [])
  else if kindP s.uni b = 2 then firstU s b
  else if 0 < s.hi then none
  else if kindP s.uni b = 0 then none
  else if kindP s.uni b ≤ 5 then some (⟨s.uni, s.act, s.wins, s.hi, [b]⟩, [])
  else if kindP s.uni b = 6 then some (⟨false, numP s.uni b, s.wins, s.hi, []⟩, [])
  else if kindP s.uni b = 7 then some (⟨true, s.act, s.wins, s.hi, []⟩, [])
  else if kindP s.uni b = 8 then some (s, [nth s.wins s.act + b - 128])
  else some (s, [b])
/-- .. behind one byte. -/
def step1 (s : St) (k b : Int) : Option (St × List Int) :=
  if kindP s.uni k = 1 then firstU s b
  else if kindP s.uni k = 2 then some (unitE s k b)
  else if kindP s.uni k = 3 then some (⟨s.uni, s.act, s.wins, s.hi, []⟩, [if b < 128 then nth statL (k - 1).toNat + b else nth s.wins (k - 1).toNat + b - 128])
  else if kindP s.uni k = 4 then some (⟨s.uni, s.act, s.wins, s.hi, [k, b]⟩, [])
  else if offI b < 0 then none else some (layE s (numP s.uni k) (offI b), [])
/-- .. behind two. -/
def step2 (s : St) (k x b : Int) : Option (St × List Int) :=
  if kindP s.uni k = 1 then some (unitE s x b) else some (layE s (extN x).toNat (extO x b), [])
def stepX (s : St) (b : Int) : Option (St × List Int) := match s.beg with
  | [] => step0 s b
  | [k] => step1 s k b
  | [k, x] => step2 s k x b
  | _ => none
/-- Is it whole? -/
def rest (s : St) : Bool := s.beg.isEmpty && s.hi == 0
/-- An offset that a window may have: all its numbers are scalars. -/
def offOK (o : Int) : Prop := (128 ≤ o ∧ o ≤ 13184) ∨ (57344 ≤ o ∧ o ≤ 1113984)
/-- What a part that has begun may be. -/
def begOK (s : St) : Prop := match s.beg with
  | [] => True
  | [k] => (0 ≤ k ∧ k < 256) ∧ ((kindP s.uni k = 1) ∨ (kindP s.uni k = 2 ∧ lowB k = decide (0 < s.hi)) ∨ ((kindP s.uni k = 3 ∨ kindP s.uni k = 4 ∨ kindP s.uni k = 5) ∧ s.hi = 0))
  | [k, x] => (0 ≤ k ∧ k < 256) ∧ (0 ≤ x ∧ x < 256) ∧ ((kindP s.uni k = 1 ∧ lowB x = decide (0 < s.hi)) ∨ (kindP s.uni k = 4 ∧ s.hi = 0))
  | _ => False
structure Good (s : St) : Prop where
  len : s.wins.length = 8
  act : s.act < 8
  hi : s.hi = 0 ∨ (55296 ≤ s.hi ∧ s.hi ≤ 56319)
  wins : ∀ o ∈ s.wins, offOK o
  beg : begOK s
theorem good_0 : Good st0 := by
  refine ⟨rfl, by decide, .inl rfl, fun o ho => ?_, trivial⟩
  simp [st0, firstL8] at ho
  unfold offOK; omega
theorem off_ok {x : Int} (h : ¬ offI x < 0) : offOK (offI x) := by
  have hcs : (x < 1 ∨ (167 < x ∧ x < 249) ∨ 255 < x) ∨ (1 ≤ x ∧ x ≤ 103) ∨ (104 ≤ x ∧ x ≤ 167) ∨ (249 ≤ x ∧ x ≤ 255) := by omega
  rcases hcs with e | e | e | e
  · rw [off_none e] at h; omega
  · rw [off_one e.1 e.2]; unfold offOK; omega
  · rw [off_two e.1 e.2]; unfold offOK; omega
  · rw [off_fix e.1 e.2]
    unfold fixI offOK; repeat' split
    all_goals omega
theorem ext_ok {h l : Int} (h0 : 0 ≤ h) (h1 : h < 256) (l0 : 0 ≤ l) (l1 : l < 256) : offOK (extO h l) := by
  have := ext_rng h0 h1 l0 l1
  unfold offOK; omega
theorem kind_le (u : Bool) (b : Int) : kindP u b ≤ 9 := by
  unfold kindP; repeat' split
  all_goals omega
theorem num_lt {u : Bool} {b : Int} (h0 : 0 ≤ b) (h1 : b < 256) (h : kindP u b = 5 ∨ kindP u b = 6) : numP u b < 8 := by
  unfold kindP at h; unfold numP
  repeat' split at h
  all_goals first | omega | skip
  all_goals (repeat' split)
  all_goals omega
theorem kind3 {u : Bool} {b : Int} (h : kindP u b = 3) : u = false ∧ 1 ≤ b ∧ b ≤ 8 := by
  unfold kindP at h
  repeat' split at h
  all_goals first | omega | (exfalso; omega) | skip
  all_goals (rename_i hu _ _ _; exact ⟨by simpa using hu, by omega, by omega⟩)
theorem stat_ok (n : Nat) (h : n < 8) : 0 ≤ nth statL n ∧ nth statL n ≤ 12288 := by
  have hcs : n = 0 ∨ n = 1 ∨ n = 2 ∨ n = 3 ∨ n = 4 ∨ n = 5 ∨ n = 6 ∨ n = 7 := by omega
  rcases hcs with rfl | rfl | rfl | rfl | rfl | rfl | rfl | rfl <;> decide
theorem low_iff2 {x : Int} : lowB x = true ↔ 220 ≤ x ∧ x ≤ 223 := by unfold lowB; simp
theorem set_ok {l : List Int} {n : Nat} {o : Int} (h : ∀ x ∈ l, offOK x) (ho : offOK o) : ∀ x ∈ l.set n o, offOK x := by
  intro x hx
  rcases List.mem_or_eq_of_mem_set hx with e | e
  · exact h x e
  · rw [e]; exact ho
theorem win_ok {s : St} (h : Good s) {n : Nat} (hn : n < 8) : offOK (nth s.wins n) := h.wins _ (nth_mem (by rw [h.len]; exact hn))
theorem good_lay {s : St} (h : Good s) {n : Nat} (hn : n < 8) {o : Int} (ho : offOK o) : Good (layE s n o) :=
  ⟨by simp [layE, h.len], hn, h.hi, set_ok h.wins ho, trivial⟩
theorem good_unit {s : St} {x y : Int} (h : Good s) (hx : 0 ≤ x ∧ x < 256) (hy : 0 ≤ y ∧ y < 256) (hl : lowB x = decide (0 < s.hi)) : Good (unitE s x y).1 ∧ ∀ c ∈ (unitE s x y).2, isB c = true ∧ 0 ≤ c := by
  have hh := h.hi
  unfold unitE
  by_cases h1 : lowB x = true
  · rw [if_pos h1]
    have h0 : 0 < s.hi := by rw [h1] at hl; simpa using hl.symm
    have hx2 := low_iff2.1 h1
    refine ⟨⟨h.len, h.act, .inl rfl, h.wins, trivial⟩, fun c hc => ?_⟩
    simp at hc
    rw [isB_iff]
    omega
  · rw [if_neg h1]
    have h1' : ¬ (220 ≤ x ∧ x ≤ 223) := fun e => h1 (low_iff2.2 e)
    have h0 : s.hi = 0 := by
      rw [Bool.eq_false_iff.2 h1] at hl
      have : ¬ 0 < s.hi := by simpa using hl.symm
      omega
    split
    · rename_i h2
      exact ⟨⟨h.len, h.act, .inr h2, h.wins, trivial⟩, by simp⟩
    · rename_i h2
      refine ⟨⟨h.len, h.act, h.hi, h.wins, trivial⟩, fun c hc => ?_⟩
      simp at hc
      rw [isB_iff]
      omega
/-- A byte more keeps all that; what is told are scalars, one at most. -/
theorem step_good {s : St} {b : Int} {z : St × List Int} (h : Good s) (hb : 0 ≤ b ∧ b < 256) (hz : stepX s b = some z) : Good z.1 ∧ z.2.length ≤ 1 ∧ ∀ c ∈ z.2, isB c = true ∧ 0 ≤ c := by
  have hbg := h.beg
  unfold stepX at hz
  unfold begOK at hbg
  split at hz
  · rename_i he
    unfold step0 at hz
    by_cases k1 : kindP s.uni b = 1
    · rw [if_pos k1] at hz
      simp only [Option.some.injEq] at hz
      subst hz
      exact ⟨⟨h.len, h.act, h.hi, h.wins, ⟨hb, .inl k1⟩⟩, by simp, by simp⟩
    · rw [if_neg k1] at hz
      by_cases k2 : kindP s.uni b = 2
      · rw [if_pos k2] at hz
        unfold firstU at hz
        split at hz
        · rename_i hl
          simp only [Option.some.injEq] at hz
          subst hz
          rw [he]
          exact ⟨⟨h.len, h.act, h.hi, h.wins, ⟨hb, .inr (.inl ⟨k2, hl⟩)⟩⟩, by simp, by simp⟩
        · cases hz
      · rw [if_neg k2] at hz
        by_cases hp : 0 < s.hi
        · rw [if_pos hp] at hz; cases hz
        · rw [if_neg hp] at hz
          have h0 : s.hi = 0 := by have := h.hi; omega
          by_cases k0 : kindP s.uni b = 0
          · rw [if_pos k0] at hz; cases hz
          · rw [if_neg k0] at hz
            by_cases k5 : kindP s.uni b ≤ 5
            · rw [if_pos k5] at hz
              simp only [Option.some.injEq] at hz
              subst hz
              exact ⟨⟨h.len, h.act, h.hi, h.wins, ⟨hb, .inr (.inr ⟨by show kindP s.uni b = 3 ∨ kindP s.uni b = 4 ∨ kindP s.uni b = 5; omega, h0⟩)⟩⟩, by simp, by simp⟩
            · rw [if_neg k5] at hz
              by_cases k6 : kindP s.uni b = 6
              · rw [if_pos k6] at hz
                simp only [Option.some.injEq] at hz
                subst hz
                exact ⟨⟨h.len, num_lt hb.1 hb.2 (.inr k6), h.hi, h.wins, trivial⟩, by simp, by simp⟩
              · rw [if_neg k6] at hz
                by_cases k7 : kindP s.uni b = 7
                · rw [if_pos k7] at hz
                  simp only [Option.some.injEq] at hz
                  subst hz
                  exact ⟨⟨h.len, h.act, h.hi, h.wins, trivial⟩, by simp, by simp⟩
                · rw [if_neg k7] at hz
                  have hw := win_ok h h.act
                  by_cases k8 : kindP s.uni b = 8
                  · rw [if_pos k8] at hz
                    simp only [Option.some.injEq] at hz
                    subst hz
                    refine ⟨h, by simp, fun c hc => ?_⟩
                    simp at hc
                    have hb8 : 128 ≤ b := by
                      unfold kindP at k8
                      repeat' split at k8
                      all_goals omega
                    unfold offOK at hw
                    rw [isB_iff]; omega
                  · rw [if_neg k8] at hz
                    simp only [Option.some.injEq] at hz
                    subst hz
                    refine ⟨h, by simp, fun c hc => ?_⟩
                    simp at hc
                    rw [isB_iff]; omega
  · rename_i k he
    rw [he] at hbg
    simp only [] at hbg
    obtain ⟨hk, hcs⟩ := hbg
    unfold step1 at hz
    by_cases k1 : kindP s.uni k = 1
    · rw [if_pos k1] at hz
      unfold firstU at hz
      split at hz
      · rename_i hl
        simp only [Option.some.injEq] at hz
        subst hz
        rw [he]
        exact ⟨⟨h.len, h.act, h.hi, h.wins, ⟨hk, hb, .inl ⟨k1, hl⟩⟩⟩, by simp, by simp⟩
      · cases hz
    · rw [if_neg k1] at hz
      by_cases k2 : kindP s.uni k = 2
      · rw [if_pos k2] at hz
        simp only [Option.some.injEq] at hz
        have hl : lowB k = decide (0 < s.hi) := by
          rcases hcs with e | e | e
          · exact absurd e k1
          · exact e.2
          · omega
        have hg := good_unit (y := b) h hk hb hl
        rw [← hz]
        exact ⟨hg.1, by unfold unitE; repeat' split
                        all_goals simp, hg.2⟩
      · rw [if_neg k2] at hz
        have h0 : s.hi = 0 := by
          rcases hcs with e | e | e
          · exact absurd e k1
          · exact absurd e.1 k2
          · exact e.2
        by_cases k3 : kindP s.uni k = 3
        · rw [if_pos k3] at hz
          simp only [Option.some.injEq] at hz
          subst hz
          obtain ⟨-, q1, q2⟩ := kind3 k3
          refine ⟨⟨h.len, h.act, h.hi, h.wins, trivial⟩, by simp, fun c hc => ?_⟩
          simp only [List.mem_singleton] at hc
          have hs := stat_ok (k - 1).toNat (by omega)
          have hw := win_ok h (n := (k - 1).toNat) (by omega)
          unfold offOK at hw
          rw [isB_iff]
          split at hc <;> omega
        · rw [if_neg k3] at hz
          by_cases k4 : kindP s.uni k = 4
          · rw [if_pos k4] at hz
            simp only [Option.some.injEq] at hz
            subst hz
            exact ⟨⟨h.len, h.act, h.hi, h.wins, ⟨hk, hb, .inr ⟨k4, h0⟩⟩⟩, by simp, by simp⟩
          · rw [if_neg k4] at hz
            have k5 : kindP s.uni k = 5 := by omega
            split at hz
            · cases hz
            · rename_i ho
              simp only [Option.some.injEq] at hz
              subst hz
              exact ⟨good_lay h (num_lt hk.1 hk.2 (.inl k5)) (off_ok ho), by simp, by simp⟩
  · rename_i k x he
    rw [he] at hbg
    simp only [] at hbg
    obtain ⟨hk, hx, hcs⟩ := hbg
    unfold step2 at hz
    split at hz
    · rename_i k1
      simp only [Option.some.injEq] at hz
      have hl : lowB x = decide (0 < s.hi) := by
        rcases hcs with e | e
        · exact e.2
        · omega
      have hg := good_unit (y := b) h hx hb hl
      rw [← hz]
      exact ⟨hg.1, by unfold unitE; repeat' split
                      all_goals simp, hg.2⟩
    · simp only [Option.some.injEq] at hz
      subst hz
      have hr := ext_rng hx.1 hx.2 hb.1 hb.2
      exact ⟨good_lay h (by omega) (ext_ok hx.1 hx.2 hb.1 hb.2), by simp, by simp⟩
  · cases hz
end Go.Proofs.YtpglmfhlgaliaaaDoor.Exp
