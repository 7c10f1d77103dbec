/-
  Layer 14 in the words of the codecs' templates: the machine that reads, what it has begun; a part's kind in the program's own numbers, and how many bytes it has. Plain facts; no Go text is named here; no condition.
-/
import Derived.Test.YtpglmfhlgaliaaaDoorExpMat2
import Derived.Test.YtpglmfhlgaliaaaDoorCod
namespace Go.Proofs.YtpglmfhlgaliaaaDoor.EX
open Bas Scn Sca Cod Win Exp
set_option linter.unusedVariables false
set_option linter.unusedSimpArgs false

abbrev Par := Unit
abbrev St := Exp.St
abbrev stepU (_ : Par) : Scn.Stp St := Exp.stepX
abbrev st0 (_ : Par) : St := Exp.st0
abbrev rest (s : St) : Bool := Exp.rest s
theorem step_one (π : Par) (s : St) (b : Int) (x : St × List Int) (h : stepU π s b = some x) : x.2.length ≤ 1 := Exp.step_one s b x h
/-- The program's number of a kind, and how many bytes it has. -/
def codeK : Nat → Int
  | 0 => 0 | 1 => 5 | 2 => 4 | 3 => 3 | 4 => 9 | 5 => 8 | 6 => 7 | 7 => 6 | 8 => 2 | _ => 1
def sizeL : List Int := [0, 1, 1, 2, 2, 3, 1, 1, 2, 3]
def sizK : Nat → Nat
  | 0 => 0 | 1 => 3 | 2 => 2 | 3 => 2 | 4 => 3 | 5 => 2 | _ => 1
theorem kinds (j : Nat) (h : j ≤ 9) : j = 0 ∨ j = 1 ∨ j = 2 ∨ j = 3 ∨ j = 4 ∨ j = 5 ∨ j = 6 ∨ j = 7 ∨ j = 8 ∨ j = 9 := by omega
theorem code_size {j : Nat} (h : j ≤ 9) : ∃ k : Nat, codeK j = (k : Int) ∧ k < 10 ∧ nth sizeL k = (sizK j : Int) := by
  rcases kinds j h with rfl | rfl | rfl | rfl | rfl | rfl | rfl | rfl | rfl | rfl
  · exact ⟨0, rfl, by decide, rfl⟩
  · exact ⟨5, rfl, by decide, rfl⟩
  · exact ⟨4, rfl, by decide, rfl⟩
  · exact ⟨3, rfl, by decide, rfl⟩
  · exact ⟨9, rfl, by decide, rfl⟩
  · exact ⟨8, rfl, by decide, rfl⟩
  · exact ⟨7, rfl, by decide, rfl⟩
  · exact ⟨6, rfl, by decide, rfl⟩
  · exact ⟨2, rfl, by decide, rfl⟩
  · exact ⟨1, rfl, by decide, rfl⟩
theorem code_inj {i j : Nat} (hi : i ≤ 9) (hj : j ≤ 9) (h : codeK i = codeK j) : i = j := by
  rcases kinds i hi with rfl | rfl | rfl | rfl | rfl | rfl | rfl | rfl | rfl | rfl <;>
  rcases kinds j hj with rfl | rfl | rfl | rfl | rfl | rfl | rfl | rfl | rfl | rfl <;> first | rfl | (exfalso; revert h; decide)
/-! ### What a kind is, by the first byte -/
theorem kf_up {x : Int} (h : 128 ≤ x) : kindP false x = 8 := k_up h
theorem kf_own {x : Int} (h : 32 ≤ x) (h2 : x < 128) : kindP false x = 9 := by
  unfold kindP; rw [if_neg (by simp)]; simp (disch := omega) only [if_neg]
theorem kf_lay {x : Int} (h : 24 ≤ x) (h2 : x < 32) : kindP false x = 5 := by
  unfold kindP; rw [if_neg (by simp)]; simp (disch := omega) only [if_neg, if_pos]
theorem kf_chg {x : Int} (h : 16 ≤ x) (h2 : x < 24) : kindP false x = 6 := by
  unfold kindP; rw [if_neg (by simp)]; simp (disch := omega) only [if_neg, if_pos]
theorem kt_unit {x : Int} (h : x < 224 ∨ 242 < x) : kindP true x = 2 := by unfold kindP; rw [if_pos rfl, if_pos h]
theorem kt_chg {x : Int} (h : 224 ≤ x) (h2 : x < 232) : kindP true x = 6 := by
  unfold kindP; rw [if_pos rfl]; simp (disch := omega) only [if_neg, if_pos]
theorem kt_lay {x : Int} (h : 232 ≤ x) (h2 : x < 240) : kindP true x = 5 := by
  unfold kindP; rw [if_pos rfl]; simp (disch := omega) only [if_neg, if_pos]
/-- The window's number is in the byte's lowest bits. -/
theorem num_bits {u : Bool} {x : Int} (h0 : 0 ≤ x) (h1 : x < 256) (h : kindP u x = 5 ∨ kindP u x = 6) : (numP u x : Int) = x % 8 := by
  have hk : (u = false ∧ 24 ≤ x ∧ x ≤ 31) ∨ (u = false ∧ 16 ≤ x ∧ x ≤ 23) ∨ (u = true ∧ 232 ≤ x ∧ x ≤ 239) ∨ (u = true ∧ 224 ≤ x ∧ x ≤ 231) := by
    unfold kindP at h
    cases u
    · rw [if_neg (by simp)] at h
      repeat' split at h
      all_goals first | omega | (simp at *; omega)
    · rw [if_pos rfl] at h
      repeat' split at h
      all_goals first | omega | (simp at *; omega)
  rcases hk with ⟨rfl, a, b⟩ | ⟨rfl, a, b⟩ | ⟨rfl, a, b⟩ | ⟨rfl, a, b⟩
  all_goals
    unfold numP
    simp (disch := omega) only [if_neg, if_pos, Bool.false_eq_true, if_true, if_false]
    omega
/-! ### May a byte stand there? -/
/-- .. by the program's own question. -/
def fitS (s : St) (x : Int) : Bool := match s.beg with
  | [] => if kindP s.uni x = 2 then lowB x == decide (0 < s.hi) else decide (kindP s.uni x ≠ 0) && (!decide (0 < s.hi) || decide (kindP s.uni x = 1))
  | [k] => if kindP s.uni k = 1 then lowB x == decide (0 < s.hi) else if kindP s.uni k = 5 then offB' x else true
  | _ => true
where offB' (x : Int) : Bool := decide (0 ≤ offI x)
theorem fit_step {s : St} (h : Exp.Good s) (x : Int) : (stepX s x).isSome = fitS s x := by
  have hbg := h.beg
  have hhi : s.hi = 0 ∨ 0 < s.hi := by have := h.hi; omega
  obtain ⟨u, a, w, hi, beg⟩ := s
  simp only [] at hhi
  unfold begOK at hbg
  simp only [] at hbg
  have hl9 := kind_le u x
  match beg, hbg with
  | [], _ =>
    simp only [fitS]
    by_cases k2 : kindP u x = 2
    · rw [if_pos k2]
      by_cases hl : lowB x = decide (0 < hi)
      · rw [e0_2 k2 hl, hl]; simp
      · rw [e0_2n k2 hl]; simp; exact hl
    · rw [if_neg k2]
      by_cases k1 : kindP u x = 1
      · rw [e0_1 k1]; simp [k1]
      · by_cases k0 : kindP u x = 0
        · rw [e0_0 k0]; simp [k0]
        · by_cases hp : 0 < hi
          · rw [e0_hi k1 k2 hp]; simp [hp, k1]
          · have hd : decide (0 < hi) = false := decide_eq_false hp
            rw [hd]
            simp only [Bool.not_false, Bool.true_or, Bool.and_true]
            rw [decide_eq_true k0]
            have hcs : (3 ≤ kindP u x ∧ kindP u x ≤ 5) ∨ kindP u x = 6 ∨ kindP u x = 7 ∨ kindP u x = 8 ∨ kindP u x = 9 := by omega
            rcases hcs with ⟨c1, c2⟩ | c | c | c | c
            · rw [e0_b c1 c2 hp]; rfl
            · rw [e0_6 c hp]; rfl
            · rw [e0_7 c hp]; rfl
            · rw [e0_8 c hp]; rfl
            · rw [e0_9 c hp]; rfl
  | [k], hbg =>
    obtain ⟨hk, hcs⟩ := hbg
    simp only [fitS]
    rcases hcs with k1 | ⟨k2, hl⟩ | ⟨k3, h0⟩
    · rw [if_pos k1]
      by_cases hl : lowB x = decide (0 < hi)
      · rw [e1_1 k1 hl, hl]; simp
      · rw [e1_1n k1 hl]; simp; exact hl
    · rw [e1_2 k2, if_neg (by omega), if_neg (by omega)]; rfl
    · rcases k3 with k3 | k3 | k3
      · rw [if_neg (by omega), if_neg (by omega), e1_3 k3]; rfl
      · rw [e1_4 k3, if_neg (by omega), if_neg (by omega)]; rfl
      · rw [if_neg (by omega), if_pos k3]
        unfold fitS.offB'
        by_cases ho : offI x < 0
        · rw [e1_5n k3 ho, decide_eq_false (by omega)]; rfl
        · rw [e1_5 k3 ho, decide_eq_true (by omega)]; rfl
  | [k, y], hbg =>
    obtain ⟨hk, hx, hcs⟩ := hbg
    simp only [fitS]
    rcases hcs with ⟨k1, hl⟩ | ⟨k4, h0⟩
    · rw [e2_1 k1]; rfl
    · rw [e2_4 k4]; rfl
  | _ :: _ :: _ :: _, hbg => exact hbg.elim
/-- The first byte of a part that has begun, with a byte more. -/
def headX (s : St) (x : Int) : Int := nth (s.beg ++ [x]) 0
/-- A part that isn't complete. -/
theorem step_open {s : St} (h : Exp.Good s) {x : Int} {z : St × List Int} (hz : stepX s x = some z) (hn : s.beg.length + 1 ≠ sizK (kindP s.uni (headX s x))) : z = (⟨s.uni, s.act, s.wins, s.hi, s.beg ++ [x]⟩, []) := by
  have hbg := h.beg
  obtain ⟨u, a, w, hi, beg⟩ := s
  unfold begOK at hbg
  simp only [] at hbg hn
  have hl9 := kind_le u x
  match beg, hbg, hn with
  | [], _, hn =>
    replace hn : 1 ≠ sizK (kindP u x) := hn
    rcases kinds _ hl9 with c | c | c | c | c | c | c | c | c | c
    · rw [e0_0 c] at hz; cases hz
    · rw [e0_1 c] at hz; exact (Option.some.inj hz).symm
    · by_cases hl : lowB x = decide (0 < hi)
      · rw [e0_2 c hl] at hz; exact (Option.some.inj hz).symm
      · rw [e0_2n c hl] at hz; cases hz
    · by_cases hp : 0 < hi
      · rw [e0_hi (by omega) (by omega) hp] at hz; cases hz
      · rw [e0_b (by omega) (by omega) hp] at hz; exact (Option.some.inj hz).symm
    · by_cases hp : 0 < hi
      · rw [e0_hi (by omega) (by omega) hp] at hz; cases hz
      · rw [e0_b (by omega) (by omega) hp] at hz; exact (Option.some.inj hz).symm
    · by_cases hp : 0 < hi
      · rw [e0_hi (by omega) (by omega) hp] at hz; cases hz
      · rw [e0_b (by omega) (by omega) hp] at hz; exact (Option.some.inj hz).symm
    all_goals (rw [c] at hn; exact absurd rfl hn)
  | [k], hbg, hn =>
    obtain ⟨hk, hcs⟩ := hbg
    replace hn : 2 ≠ sizK (kindP u k) := hn
    rcases hcs with k1 | ⟨k2, hl⟩ | ⟨k3, h0⟩
    · by_cases hl : lowB x = decide (0 < hi)
      · rw [e1_1 k1 hl] at hz; exact (Option.some.inj hz).symm
      · rw [e1_1n k1 hl] at hz; cases hz
    · rw [k2] at hn; exact absurd rfl hn
    · rcases k3 with k3 | k3 | k3
      · rw [k3] at hn; exact absurd rfl hn
      · rw [e1_4 k3] at hz; exact (Option.some.inj hz).symm
      · rw [k3] at hn; exact absurd rfl hn
  | [k, y], hbg, hn =>
    obtain ⟨hk, hx, hcs⟩ := hbg
    replace hn : 3 ≠ sizK (kindP u k) := hn
    rcases hcs with ⟨k1, hl⟩ | ⟨k4, h0⟩
    · rw [k1] at hn; exact absurd rfl hn
    · rw [k4] at hn; exact absurd rfl hn
  | _ :: _ :: _ :: _, hbg, _ => exact hbg.elim
theorem good_of {s : St} (h : Exp.Good s) {u : Bool} {a : Nat} {W : List Int} {hi : Int} (hW : W.length = 8) (ha : a < 8) (hw : ∀ o ∈ W, Exp.offOK o) (hh : hi = 0 ∨ (55296 ≤ hi ∧ hi ≤ 56319)) : Exp.Good ⟨u, a, W, hi, []⟩ := ⟨hW, ha, hh, hw, trivial⟩
open Go.ChangeShapes Go.WideShapes Go.ChangeAt Go.RowKit
theorem low_alloc (w : World) (o : Obj) : Below w.heap.size w (w.drew.alloc o) := (Below.refl _ _).drew.alloc (by simp) _
theorem bare_st {s : St} (hb : s.beg = []) : (⟨s.uni, s.act, s.wins, s.hi, []⟩ : St) = s := by rw [← hb]
end Go.Proofs.YtpglmfhlgaliaaaDoor.EX
