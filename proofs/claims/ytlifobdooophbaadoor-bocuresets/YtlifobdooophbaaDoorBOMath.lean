/-
  Layer 12 in the words of the codecs' templates: the machine that reads, what it has begun; the bytes that are written, and what they are held against. Plain facts; no Go text is named here; no condition.
-/
import Derived.Test.YtlifobdooophbaaDoorBocMat2
import Derived.Test.YtlifobdooophbaaDoorCod
namespace Go.Proofs.YtlifobdooophbaaDoor.BO
open Bas Scn Sca Cod Dif
set_option linter.unusedVariables false

abbrev Par := Unit
/-- What it is held against, and what has begun. -/
abbrev St := Boc.St
abbrev stepU (_ : Par) : Scn.Stp St := Boc.stepB
abbrev st0 (_ : Par) : St := Boc.st0
def rest (s : St) : Bool := s.beg.isEmpty
abbrev Good (_ : Par) (s : St) : Prop := Boc.Good s
theorem good_0 (π : Par) : Good π (st0 π) := Boc.good_0
theorem step_one (π : Par) (s : St) (b : Int) (x : St × List Int) (h : stepU π s b = some x) : x.2.length ≤ 1 := Boc.step_one s b x h
/-- What an encoder holds the next scalar against. -/
abbrev ES := Int
abbrev oneS (_ : Par) : ES → Int → List Int := Boc.oneB
abbrev nxtS (_ : Par) : ES → Int → ES := Boc.nxtB
abbrev e0 (_ : Par) : ES := 64
theorem oneS_max (π : Par) (g : ES) (c : Int) : (oneS π g c).length ≤ 4 := (Boc.one_ne g c).2
theorem oneS_byte (π : Par) (g : ES) (c : Int) (hg : Boc.GA g) (h0 : 0 ≤ c) (hc : isB c = true) : ∀ x ∈ oneS π g c, 0 ≤ x ∧ x < 256 := by
  have hci := isB_iff.1 hc
  intro x hx
  unfold oneS Boc.oneB at hx
  split at hx
  · simp at hx; omega
  · have := pack_byte (Boc.ga_inR hg (by omega) hci.1) x hx
    omega
theorem allS_byte (π : Par) (l : List Int) : ∀ g, Boc.GA g → (∀ c ∈ l, isB c = true ∧ 0 ≤ c) → ∀ x ∈ allS (oneS π) (nxtS π) g l, 0 ≤ x ∧ x < 256 := by
  induction l with
  | nil => intro g _ _ x hx; simp [allS] at hx
  | cons c r ih =>
    intro g hg hl x hx
    have hc := hl c (by simp)
    rw [Boc.allS_cons hc.1] at hx
    rcases List.mem_append.1 hx with hx | hx
    · exact oneS_byte π g c hg hc.2 hc.1 x hx
    · exact ih _ (Boc.ga_nxt hg hc.2 hc.1) (fun d hd => hl d (by simp [hd])) x hx
/-- The bytes are those of the scalars ahead of the first that is none. -/
theorem allS_take (π : Par) (l : List Int) : ∀ g, allS (oneS π) (nxtS π) g l = allS (oneS π) (nxtS π) g (l.take (okLen l)) := by
  induction l with
  | nil => intro g; rfl
  | cons c r ih =>
    intro g
    by_cases hc : isB c = true
    · have e : okLen (c :: r) = okLen r + 1 := if_pos hc
      rw [e, List.take_succ_cons, Boc.allS_cons hc, Boc.allS_cons hc, ih]
    · have e : okLen (c :: r) = 0 := if_neg hc
      rw [e]
      simp [allS, hc]
theorem byte_snoc {s : List Int} {b : Int} (hs : ∀ x ∈ s, 0 ≤ x ∧ x < 256) (hb : 0 ≤ b ∧ b < 256) : ∀ x ∈ s ++ [b], 0 ≤ x ∧ x < 256 := by
  intro x hx
  simp at hx
  rcases hx with hx | rfl
  · exact hs x hx
  · exact hb
theorem leads_eq (a b : Int) {A B : Int} (hA : A = if a < 33 then 33 else a) (hB : B = if b > 1114111 then 1114111 else b) : (decide (A ≤ B) && (isB A || isB B)) = decide (0 ≤ Boc.leastS a b) := by
  have e1 := @isB_iff A
  have e2 := @isB_iff B
  rw [Bool.eq_iff_iff, Bool.and_eq_true, Bool.or_eq_true, decide_eq_true_iff, decide_eq_true_iff, e1, e2]
  unfold Boc.leastS
  subst hA hB
  repeat' split
  all_goals omega
end Go.Proofs.YtlifobdooophbaaDoor.BO
