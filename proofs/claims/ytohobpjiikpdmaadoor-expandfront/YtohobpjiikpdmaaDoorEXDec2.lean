/-
  Contracts of the decoder's step and of its End, as walks over the translated text. The condition: its memory is there and may be written; the tables are as the program's text lays them.
-/
import Derived.Test.YtohobpjiikpdmaaDoorEXFin2
import Derived.Test.YtohobpjiikpdmaaDoorMemS
namespace Go.Proofs.YtohobpjiikpdmaaDoor
open Go.ChangeShapes Go.WideShapes Go.ChangeAt Go.RowKit
namespace EX
open Bas Sca Stp Scn Cod Win
set_option linter.unusedVariables false
set_option linter.unusedSimpArgs false

theorem k8_up {U : Bool} {x : Int} (h : Exp.kindP U x = 8) : 128 ≤ x := by
  unfold Exp.kindP at h
  repeat' split at h
  all_goals omega
/-- A complete part is done. -/
theorem fin_all (D d : Nat) (p q : Int) (en : Bool) (s : St) (l : List Int) (v u : Value) (g o c : Nat) (x : Int) (z : St × List Int) (w : World) (h : DecW w D d p q en ⟨s.uni, s.act, s.wins, s.hi, []⟩ l v u) (hg : Exp.Good s) (hx : 0 ≤ x ∧ x < 256) (hz : Exp.stepX s x = some z)
    (hn : s.beg.length + 1 = sizK (Exp.kindP s.uni (headX s x))) (hP : Part w D d v g o (s.beg ++ [x])) (hlen : l.length ≤ 1000000) :
    Calls Tryd.prog 42 #[.pointer (some ⟨D, 0, none⟩), .int .i64 (codeK (Exp.kindP s.uni (headX s x))), .slice (some ⟨g, o, none⟩) (s.beg.length + 1) c] w fun e w' => ∃ v', e = .returned (.tuple #[]) ∧ DecW w' D d p q en z.1 (l ++ z.2) v' u ∧ Chg (fun k _ => footF D d v k) w w' ∧ Mov w v v' := by
  have hbg := hg.beg
  obtain ⟨U, A, W, HI, beg⟩ := s
  unfold Exp.begOK at hbg
  simp only [] at hbg hn hP h ⊢
  match beg, hbg, hn, hP with
  | [], _, hn, hP =>
    replace hn : 1 = sizK (Exp.kindP U x) := hn
    show Calls Tryd.prog 42 #[.pointer (some ⟨D, 0, none⟩), .int .i64 (codeK (Exp.kindP U x)), .slice (some ⟨g, o, none⟩) 1 c] w _
    have hp : ¬ 0 < HI ∨ (Exp.kindP U x = 1 ∨ Exp.kindP U x = 2) := by
      by_cases h1 : Exp.kindP U x = 1
      · exact .inr (.inl h1)
      · by_cases h2 : Exp.kindP U x = 2
        · exact .inr (.inr h2)
        · left
          intro hp
          rw [Exp.e0_hi h1 h2 hp] at hz
          cases hz
    rcases kinds _ (Exp.kind_le U x) with e | e | e | e | e | e | e | e | e | e
    all_goals first
      | (rw [e] at hn; exact absurd hn (by decide))
      | skip
    all_goals replace hp : ¬ 0 < HI := by omega
    · rw [Exp.e0_6 e hp] at hz
      obtain rfl := (Option.some.inj hz).symm
      rw [e, List.append_nil]
      exact fin_change D d p q en ⟨U, A, W, HI, []⟩ l v u g o c _ x w h rfl hP (num_bits hx.1 hx.2 (.inr e))
    · rw [Exp.e0_7 e hp] at hz
      obtain rfl := (Option.some.inj hz).symm
      rw [e, List.append_nil]
      exact fin_wide D d p q en ⟨U, A, W, HI, []⟩ l v u _ _ c w h rfl
    · rw [Exp.e0_8 e hp] at hz
      obtain rfl := (Option.some.inj hz).symm
      rw [e]
      exact fin_shown D d p q en ⟨U, A, W, HI, []⟩ l v u g o c x w h hP (k8_up e) hlen
    · rw [Exp.e0_9 e hp] at hz
      obtain rfl := (Option.some.inj hz).symm
      rw [e]
      exact fin_own D d p q en ⟨U, A, W, HI, []⟩ l v u g o c x w h hP hlen
  | [k], hbg, hn, hP =>
    obtain ⟨hk, hcs⟩ := hbg
    replace hn : 2 = sizK (Exp.kindP U k) := hn
    show Calls Tryd.prog 42 #[.pointer (some ⟨D, 0, none⟩), .int .i64 (codeK (Exp.kindP U k)), .slice (some ⟨g, o, none⟩) 2 c] w _
    rcases hcs with k1 | ⟨k2, hl⟩ | ⟨k3, h0⟩
    · rw [k1] at hn; exact absurd hn (by decide)
    · rw [Exp.e1_2 k2] at hz
      obtain rfl := (Option.some.inj hz).symm
      rw [k2]
      exact fin_bare D d p q en ⟨U, A, W, HI, []⟩ l v u g o c k x w h rfl hP hl hlen
    · rcases k3 with k3 | k3 | k3
      · rw [Exp.e1_3 k3] at hz
        obtain rfl := (Option.some.inj hz).symm
        obtain ⟨-, q1, q2⟩ := Exp.kind3 k3
        rw [k3]
        exact fin_quoted D d p q en ⟨U, A, W, HI, []⟩ l v u g o c k x w h hP q1 q2 hlen
      · rw [k3] at hn; exact absurd hn (by decide)
      · by_cases ho : offI x < 0
        · rw [Exp.e1_5n k3 ho] at hz; cases hz
        · rw [Exp.e1_5 k3 ho] at hz
          obtain rfl := (Option.some.inj hz).symm
          rw [k3, List.append_nil]
          exact fin_lay D d p q en ⟨U, A, W, HI, []⟩ l v u g o c _ k x w h rfl hP (num_bits hk.1 hk.2 (.inl k3)) ho
  | [k, y], hbg, hn, hP =>
    obtain ⟨hk, hy, hcs⟩ := hbg
    show Calls Tryd.prog 42 #[.pointer (some ⟨D, 0, none⟩), .int .i64 (codeK (Exp.kindP U k)), .slice (some ⟨g, o, none⟩) 3 c] w _
    rcases hcs with ⟨k1, hl⟩ | ⟨k4, h0⟩
    · rw [Exp.e2_1 k1] at hz
      obtain rfl := (Option.some.inj hz).symm
      rw [k1]
      exact fin_marked D d p q en ⟨U, A, W, HI, []⟩ l v u g o c k y x w h rfl hP hl hlen
    · rw [Exp.e2_4 k4] at hz
      obtain rfl := (Option.some.inj hz).symm
      rw [k4, List.append_nil]
      exact fin_extend D d p q en ⟨U, A, W, HI, []⟩ l v u g o c k y x w h rfl hP
  | _ :: _ :: _ :: _, hbg, _, _ => exact hbg.elim
/-- May the byte stand there? -/
theorem fit_all (D : Nat) (s : St) (g o c : Nat) (x : Int) (w : World) (h7 : w.cell? ⟨D, 7, none⟩ = some (.bool (decide (0 < s.hi)))) (hT : Tabs w) (hg : Exp.Good s) (hx : 0 ≤ x ∧ x < 256) (hR : Row .u8 w (some ⟨g, o, none⟩) (s.beg ++ [x])) :
    Calls Tryd.prog 41 #[.pointer (some ⟨D, 0, none⟩), .int .i64 (codeK (Exp.kindP s.uni (headX s x))), .slice (some ⟨g, o, none⟩) (s.beg.length + 1) c] w fun e w' => e = .returned (.bool (Exp.stepX s x).isSome) ∧ ∃ n, w' = w.drewN n := by
  rw [fit_step hg x]
  have hbg := hg.beg
  obtain ⟨U, A, W, HI, beg⟩ := s
  unfold Exp.begOK at hbg
  simp only [] at hbg hR h7 ⊢
  match beg, hbg, hR with
  | [], _, hR =>
    have := fits0_any D (decide (0 < HI)) (codeK (Exp.kindP U x)) x _ c w h7 hR hx.1 hx.2
    refine this.mono ?_
    rintro e w' ⟨rfl, hw⟩
    refine ⟨?_, hw⟩
    congr 2
    simp only [fitS]
    have hl9 := Exp.kind_le U x
    rcases kinds _ hl9 with e | e | e | e | e | e | e | e | e | e <;> rw [e] <;> simp [codeK]
  | [k], hbg, hR =>
    have := fits1_any D (decide (0 < HI)) (codeK (Exp.kindP U k)) k x _ c w h7 hT hR hx.1 hx.2
    refine this.mono ?_
    rintro e w' ⟨rfl, hw⟩
    refine ⟨?_, hw⟩
    congr 2
    simp only [fitS]
    have hl9 := Exp.kind_le U k
    rcases kinds _ hl9 with e | e | e | e | e | e | e | e | e | e <;> rw [e] <;> simp [codeK, offB, fitS.offB']
  | [k, y], hbg, hR =>
    obtain ⟨hk, hy, hcs⟩ := hbg
    have := fits2_any D (codeK (Exp.kindP U k)) k y x _ c w hR (by
      rcases hcs with ⟨k1, hl⟩ | ⟨k4, h0⟩
      · rw [k1]; decide
      · rw [k4]; decide)
    exact this
  | _ :: _ :: _ :: _, hbg, _ => exact hbg.elim
end EX
end Go.Proofs.YtohobpjiikpdmaaDoor
