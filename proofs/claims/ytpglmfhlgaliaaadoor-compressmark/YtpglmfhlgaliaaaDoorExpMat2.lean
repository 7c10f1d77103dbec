/-
  Plain facts on layer 14: each step, said for itself; with which bytes a beginning goes on; plain text; units; windows that are laid; beginnings of texts. No Go text is named here; no condition.
-/
import Derived.Test.YtpglmfhlgaliaaaDoorExpMath
namespace Go.Proofs.YtpglmfhlgaliaaaDoor.Exp
open Bas Scn Sca Win
set_option linter.unusedVariables false
set_option linter.unusedSimpArgs false

theorem step_one (s : St) (b : Int) (z : St × List Int) (h : stepX s b = some z) : z.2.length ≤ 1 := by
  unfold stepX step0 step1 step2 firstU unitE at h
  repeat' split at h
  all_goals first | (cases h; done) | (simp only [Option.some.injEq] at h; subst h; simp)
section
variable {u : Bool} {a : Nat} {w : List Int} {h b k x : Int}
theorem e0_1 (hk : kindP u b = 1) : stepX ⟨u, a, w, h, []⟩ b = some (⟨u, a, w, h, [b]⟩, []) := by
  simp only [stepX, step0]; rw [if_pos hk]
theorem e0_2 (hk : kindP u b = 2) (hl : lowB b = decide (0 < h)) : stepX ⟨u, a, w, h, []⟩ b = some (⟨u, a, w, h, [b]⟩, []) := by
  simp only [stepX, step0]; rw [if_neg (by omega), if_pos hk]; unfold firstU; rw [if_pos hl]; rfl
theorem e0_2n (hk : kindP u b = 2) (hl : ¬ lowB b = decide (0 < h)) : stepX ⟨u, a, w, h, []⟩ b = none := by
  simp only [stepX, step0]; rw [if_neg (by omega), if_pos hk]; unfold firstU; rw [if_neg hl]
theorem e0_hi (h1 : kindP u b ≠ 1) (h2 : kindP u b ≠ 2) (hp : 0 < h) : stepX ⟨u, a, w, h, []⟩ b = none := by
  simp only [stepX, step0]; rw [if_neg h1, if_neg h2, if_pos hp]
theorem e0_0 (hk : kindP u b = 0) : stepX ⟨u, a, w, h, []⟩ b = none := by
  simp only [stepX, step0]; rw [if_neg (by omega), if_neg (by omega)]
  by_cases hp : 0 < h
  · rw [if_pos hp]
  · rw [if_neg hp, if_pos hk]
theorem e0_b (h3 : 3 ≤ kindP u b) (h5 : kindP u b ≤ 5) (hp : ¬ 0 < h) : stepX ⟨u, a, w, h, []⟩ b = some (⟨u, a, w, h, [b]⟩, []) := by
  simp only [stepX, step0]; rw [if_neg (by omega), if_neg (by omega), if_neg hp, if_neg (by omega), if_pos h5]
theorem e0_6 (hk : kindP u b = 6) (hp : ¬ 0 < h) : stepX ⟨u, a, w, h, []⟩ b = some (⟨false, numP u b, w, h, []⟩, []) := by
  simp only [stepX, step0]; rw [if_neg (by omega), if_neg (by omega), if_neg hp, if_neg (by omega), if_neg (by omega), if_pos hk]
theorem e0_7 (hk : kindP u b = 7) (hp : ¬ 0 < h) : stepX ⟨u, a, w, h, []⟩ b = some (⟨true, a, w, h, []⟩, []) := by
  simp only [stepX, step0]; rw [if_neg (by omega), if_neg (by omega), if_neg hp, if_neg (by omega), if_neg (by omega), if_neg (by omega), if_pos hk]
theorem e0_8 (hk : kindP u b = 8) (hp : ¬ 0 < h) : stepX ⟨u, a, w, h, []⟩ b = some (⟨u, a, w, h, []⟩, [nth w a + b - 128]) := by
  simp only [stepX, step0]; rw [if_neg (by omega), if_neg (by omega), if_neg hp, if_neg (by omega), if_neg (by omega), if_neg (by omega), if_neg (by omega), if_pos hk]
theorem e0_9 (hk : kindP u b = 9) (hp : ¬ 0 < h) : stepX ⟨u, a, w, h, []⟩ b = some (⟨u, a, w, h, []⟩, [b]) := by
  simp only [stepX, step0]; rw [if_neg (by omega), if_neg (by omega), if_neg hp, if_neg (by omega), if_neg (by omega), if_neg (by omega), if_neg (by omega), if_neg (by omega)]
theorem e1_1 (hk : kindP u k = 1) (hl : lowB b = decide (0 < h)) : stepX ⟨u, a, w, h, [k]⟩ b = some (⟨u, a, w, h, [k, b]⟩, []) := by
  simp only [stepX, step1]; rw [if_pos hk]; unfold firstU; rw [if_pos hl]; rfl
theorem e1_1n (hk : kindP u k = 1) (hl : ¬ lowB b = decide (0 < h)) : stepX ⟨u, a, w, h, [k]⟩ b = none := by
  simp only [stepX, step1]; rw [if_pos hk]; unfold firstU; rw [if_neg hl]
theorem e1_2 (hk : kindP u k = 2) : stepX ⟨u, a, w, h, [k]⟩ b = some (unitE ⟨u, a, w, h, [k]⟩ k b) := by
  simp only [stepX, step1]; rw [if_neg (by omega), if_pos hk]
theorem e1_3 (hk : kindP u k = 3) : stepX ⟨u, a, w, h, [k]⟩ b = some (⟨u, a, w, h, []⟩, [if b < 128 then nth statL (k - 1).toNat + b else nth w (k - 1).toNat + b - 128]) := by
  simp only [stepX, step1]; rw [if_neg (by omega), if_neg (by omega), if_pos hk]
theorem e1_4 (hk : kindP u k = 4) : stepX ⟨u, a, w, h, [k]⟩ b = some (⟨u, a, w, h, [k, b]⟩, []) := by
  simp only [stepX, step1]; rw [if_neg (by omega), if_neg (by omega), if_neg (by omega), if_pos hk]
theorem e1_5 (hk : kindP u k = 5) (ho : ¬ offI b < 0) : stepX ⟨u, a, w, h, [k]⟩ b = some (layE ⟨u, a, w, h, [k]⟩ (numP u k) (offI b), []) := by
  simp only [stepX, step1]; rw [if_neg (by omega), if_neg (by omega), if_neg (by omega), if_neg (by omega), if_neg ho]
theorem e1_5n (hk : kindP u k = 5) (ho : offI b < 0) : stepX ⟨u, a, w, h, [k]⟩ b = none := by
  simp only [stepX, step1]; rw [if_neg (by omega), if_neg (by omega), if_neg (by omega), if_neg (by omega), if_pos ho]
theorem e2_1 (hk : kindP u k = 1) : stepX ⟨u, a, w, h, [k, x]⟩ b = some (unitE ⟨u, a, w, h, [k, x]⟩ x b) := by
  simp only [stepX, step2]; rw [if_pos hk]
theorem e2_4 (hk : kindP u k = 4) : stepX ⟨u, a, w, h, [k, x]⟩ b = some (layE ⟨u, a, w, h, [k, x]⟩ (extN x).toNat (extO x b), []) := by
  simp only [stepX, step2]; rw [if_neg (by omega)]
end
theorem unit_low {s : St} {x y : Int} (h : lowB x = true) : unitE s x y = (⟨s.uni, s.act, s.wins, 0, []⟩, [65536 + (s.hi - 55296) * 1024 + (x * 256 + y) - 56320]) := by unfold unitE; rw [if_pos h]
theorem unit_high {s : St} {x y : Int} (h0 : 0 ≤ y ∧ y < 256) (h : 216 ≤ x ∧ x ≤ 219) : unitE s x y = (⟨s.uni, s.act, s.wins, x * 256 + y, []⟩, []) := by
  unfold unitE; rw [if_neg (by rw [low_iff2]; omega), if_pos (by omega)]
theorem unit_one {s : St} {x y : Int} (h0 : 0 ≤ y ∧ y < 256) (h : x < 216 ∨ 223 < x) : unitE s x y = (⟨s.uni, s.act, s.wins, s.hi, []⟩, [x * 256 + y]) := by
  unfold unitE; rw [if_neg (by rw [low_iff2]; omega), if_neg (by omega)]
/-! ### What goes on -/
/-- With these bytes behind it a beginning is a whole. -/
def Fin (s : St) (l : List Int) : Prop := (scan stepX s l).bad = false ∧ rest (scan stepX s l).st = true
theorem fin_nil {s : St} (h : rest s = true) : Fin s [] := ⟨rfl, h⟩
theorem fin_cons {s : St} {b : Int} {r : List Int} {z : St × List Int} (h : stepX s b = some z) (hr : Fin z.1 r) : Fin s (b :: r) := by
  unfold Fin; rw [scan_some _ h]; exact hr
theorem rest_is {u : Bool} {a : Nat} {w : List Int} : rest ⟨u, a, w, 0, []⟩ = true := rfl
/-- The bytes that are tried, one behind the other. -/
def mS : Nat → List Int
  | 0 => [] | 1 => [1] | 2 => [1, 1] | 3 => [14, 220, 0] | 4 => [220, 0] | 5 => [0, 14, 220, 0] | 6 => [0, 220, 0] | _ => []
theorem mS_len (i : Nat) : (mS i).length ≤ 4 := by unfold mS; split <;> decide
theorem k_two {x : Int} (h : x < 224) : kindP true x = 2 := by unfold kindP; rw [if_pos rfl, if_pos (.inl h)]
theorem k_14 : kindP false 14 = 1 := rfl
theorem low_220 {h : Int} (hh : 0 < h) : lowB 220 = decide (0 < h) := by rw [decide_eq_true hh]; rfl
theorem low_1 {h : Int} (hh : h = 0) : lowB 1 = decide (0 < h) := by subst hh; rfl
/-- A first unit waits. -/
theorem fin_hi {u : Bool} {a : Nat} {w : List Int} {h : Int} (hh : 0 < h) : Fin ⟨u, a, w, h, []⟩ (mS (if u = true then 4 else 3)) := by
  cases u
  · rw [if_neg (by simp)]
    refine fin_cons (e0_1 k_14) (fin_cons (e1_1 k_14 (low_220 hh)) (fin_cons (e2_1 k_14) ?_))
    rw [unit_low rfl]; exact fin_nil rfl
  · rw [if_pos rfl]
    refine fin_cons (e0_2 (k_two (by decide)) (low_220 hh)) (fin_cons (e1_2 (k_two (by decide))) ?_)
    rw [unit_low rfl]; exact fin_nil rfl
/-- .. and so it does behind a unit that isn't complete. -/
theorem fin_unit {s : St} {x : Int} (hx : 0 ≤ x ∧ x < 256) (hh : s.hi = 0 ∨ 0 < s.hi) (hl : lowB x = decide (0 < s.hi)) (hst : ∀ y, stepX s y = some (unitE s x y)) : ∃ j, j < 7 ∧ Fin s (mS j) := by
  by_cases h1 : lowB x = true
  · exact ⟨1, by decide, fin_cons (hst 1) (by rw [unit_low h1]; exact fin_nil rfl)⟩
  · have h0 : s.hi = 0 := by
      rw [Bool.eq_false_iff.2 h1] at hl
      have : ¬ 0 < s.hi := by simpa using hl.symm
      omega
    by_cases h2 : 216 ≤ x ∧ x ≤ 219
    · have hf := fin_hi (u := s.uni) (a := s.act) (w := s.wins) (h := x * 256 + 0) (by omega)
      have hz : Fin s (0 :: mS (if s.uni = true then 4 else 3)) := fin_cons (hst 0) (by rw [unit_high (by omega) h2]; exact hf)
      cases hu : s.uni
      · rw [hu, if_neg (by simp)] at hz; exact ⟨5, by decide, hz⟩
      · rw [hu, if_pos rfl] at hz; exact ⟨6, by decide, hz⟩
    · have h3 : ¬ (220 ≤ x ∧ x ≤ 223) := fun e => h1 (low_iff2.2 e)
      refine ⟨1, by decide, fin_cons (hst 1) ?_⟩
      rw [unit_one (by omega) (by omega), h0]; exact fin_nil rfl
theorem fin_some {s : St} (h : Good s) : ∃ j, j < 7 ∧ Fin s (mS j) := by
  have hbg := h.beg
  have hhi : s.hi = 0 ∨ 0 < s.hi := by have := h.hi; omega
  obtain ⟨u, a, w, hi, beg⟩ := s
  unfold begOK at hbg
  simp only [] at hbg hhi
  match beg, hbg with
  | [], _ =>
    rcases hhi with rfl | hp
    · exact ⟨0, by decide, fin_nil rfl⟩
    · refine ⟨if u = true then 4 else 3, by split <;> decide, fin_hi hp⟩
  | [k], hbg =>
    obtain ⟨hk, hcs⟩ := hbg
    rcases hcs with k1 | ⟨k2, hl⟩ | ⟨k3, h0⟩
    · rcases hhi with rfl | hp
      · refine ⟨2, by decide, fin_cons (e1_1 k1 (low_1 rfl)) (fin_cons (e2_1 k1) ?_)⟩
        rw [unit_one (by decide) (by decide)]; exact fin_nil rfl
      · refine ⟨4, by decide, fin_cons (e1_1 k1 (low_220 hp)) (fin_cons (e2_1 k1) ?_)⟩
        rw [unit_low rfl]; exact fin_nil rfl
    · exact fin_unit hk hhi hl (fun y => e1_2 k2)
    · subst h0
      rcases k3 with k3 | k3 | k3
      · exact ⟨1, by decide, fin_cons (e1_3 k3) (fin_nil rfl)⟩
      · exact ⟨2, by decide, fin_cons (e1_4 k3) (fin_cons (e2_4 k3) (fin_nil rfl))⟩
      · exact ⟨1, by decide, fin_cons (e1_5 k3 (by decide)) (fin_nil rfl)⟩
  | [k, x], hbg =>
    obtain ⟨hk, hx, hcs⟩ := hbg
    rcases hcs with ⟨k1, hl⟩ | ⟨k4, h0⟩
    · exact fin_unit hx hhi hl (fun y => e2_1 k1)
    · subst h0
      exact ⟨1, by decide, fin_cons (e2_4 k4) (fin_nil rfl)⟩
  | _ :: _ :: _ :: _, hbg => exact hbg.elim
/-! ### Plain text -/
def plainB (b : Int) : Bool := decide (32 ≤ b ∨ b = 0 ∨ b = 9 ∨ b = 10 ∨ b = 13)
theorem plain_step {b : Int} (hb : 0 ≤ b ∧ b < 256) (h : plainB b = true) : stepX st0 b = some (st0, [b]) := by
  unfold plainB at h
  simp only [decide_eq_true_eq] at h
  by_cases h8 : 128 ≤ b
  · have hk : kindP false b = 8 := by
      unfold kindP; rw [if_neg (by simp)]; simp (disch := omega) only [if_neg, if_pos]
    have e : nth firstL8 0 + b - 128 = b := by
      have : nth firstL8 0 = 128 := rfl
      omega
    have := e0_8 (a := 0) (w := firstL8) (h := 0) hk (by omega)
    rw [e] at this
    exact this
  · have hk : kindP false b = 9 := by
      unfold kindP; rw [if_neg (by simp)]
      rw [if_neg (by omega), if_neg (by omega), if_neg (by omega), if_neg (by omega), if_neg (by omega), if_neg (by omega), if_neg (by omega), if_neg (by omega)]
    exact e0_9 (a := 0) (w := firstL8) (h := 0) hk (by omega)
theorem scan_plain (l : List Int) (h : ∀ b ∈ l, (0 ≤ b ∧ b < 256) ∧ plainB b = true) : scan stepX st0 l = ⟨l, l.length, st0, false⟩ := by
  induction l with
  | nil => rfl
  | cons b r ih =>
    have hb := h b (by simp)
    rw [scan_some _ (plain_step hb.1 hb.2), ih (fun x hx => h x (by simp [hx]))]
    simp [Res.pre]; omega
/-! ### Units -/
/-- The byte that must stand ahead of such a unit. -/
def quotB (x : Int) : List Int := if 224 ≤ x ∧ x ≤ 242 then [240] else []
theorem k_240 : kindP true 240 = 1 := rfl
theorem unit_plain {a : Nat} {w : List Int} {h x y : Int} (hx : 0 ≤ x ∧ x < 256) (hl : lowB x = decide (0 < h)) (r : List Int) :
    scan stepX ⟨true, a, w, h, []⟩ (quotB x ++ x :: y :: r) = (scan stepX (unitE ⟨true, a, w, h, []⟩ x y).1 r).pre (unitE ⟨true, a, w, h, []⟩ x y).2 ((quotB x).length + 2) := by
  unfold quotB
  by_cases hq : 224 ≤ x ∧ x ≤ 242
  · rw [if_pos hq]
    rw [List.cons_append, List.nil_append, scan_some _ (e0_1 k_240), scan_some _ (e1_1 k_240 hl), scan_some _ (e2_1 k_240)]
    simp only [Res.pre_pre]
    rfl
  · have k2 : kindP true x = 2 := by unfold kindP; rw [if_pos rfl, if_pos (by omega)]
    rw [if_neg hq, List.nil_append, scan_some _ (e0_2 k2 hl), scan_some _ (e1_2 k2)]
    simp only [Res.pre_pre]
    rfl
theorem unit_quot {a : Nat} {w : List Int} {h x y : Int} (hl : lowB x = decide (0 < h)) (r : List Int) :
    scan stepX ⟨true, a, w, h, []⟩ (240 :: x :: y :: r) = (scan stepX (unitE ⟨true, a, w, h, []⟩ x y).1 r).pre (unitE ⟨true, a, w, h, []⟩ x y).2 3 := by
  rw [scan_some _ (e0_1 k_240), scan_some _ (e1_1 k_240 hl), scan_some _ (e2_1 k_240)]
  simp only [Res.pre_pre]
  rfl
/-- Big UTF-16: its bytes two by two, with what must stand ahead; and with F0 ahead of each. -/
def plainP : List Int → List Int
  | x :: y :: r => quotB x ++ x :: y :: plainP r
  | _ => []
def quotP : List Int → List Int
  | x :: y :: r => 240 :: x :: y :: quotP r
  | _ => []
/-- A scalar's bytes in big UTF-16. -/
def big16 (c : Int) : List Int := if c < 65536 then [c / 256, c % 256] else [(55296 + (c - 65536) / 1024) / 256, (55296 + (c - 65536) / 1024) % 256, (56320 + (c - 65536) % 1024) / 256, (56320 + (c - 65536) % 1024) % 256]
def bigL : List Int → List Int
  | [] => []
  | c :: r => big16 c ++ bigL r
def stU : St := ⟨true, 0, firstL8, 0, []⟩
theorem one_plain {c : Int} (h0 : 0 ≤ c) (hc : isB c = true) (t : List Int) : ∃ n, scan stepX stU (plainP (big16 c ++ t)) = (scan stepX stU (plainP t)).pre [c] n := by
  have hi := isB_iff.1 hc
  unfold big16
  by_cases h : c < 65536
  · rw [if_pos h]
    have hl : lowB (c / 256) = decide ((0 : Int) < 0) := by
      rw [decide_eq_false (by omega)]; unfold lowB; rw [decide_eq_false]; omega
    refine ⟨(quotB (c / 256)).length + 2, ?_⟩
    simp only [List.cons_append, List.nil_append, plainP]
    unfold stU
    rw [unit_plain (by omega) hl, unit_one (by omega) (by omega)]
    have e : c / 256 * 256 + c % 256 = c := by omega
    simp only [e]
  · rw [if_neg h]
    obtain ⟨x1, e1⟩ : ∃ x, (55296 + (c - 65536) / 1024) / 256 = x := ⟨_, rfl⟩
    obtain ⟨y1, f1⟩ : ∃ x, (55296 + (c - 65536) / 1024) % 256 = x := ⟨_, rfl⟩
    obtain ⟨x2, e2⟩ : ∃ x, (56320 + (c - 65536) % 1024) / 256 = x := ⟨_, rfl⟩
    obtain ⟨y2, f2⟩ : ∃ x, (56320 + (c - 65536) % 1024) % 256 = x := ⟨_, rfl⟩
    rw [e1, f1, e2, f2]
    have hl : lowB x1 = decide ((0 : Int) < 0) := by
      rw [decide_eq_false (by omega)]; unfold lowB; rw [decide_eq_false]; omega
    have hl2 : lowB x2 = decide (0 < x1 * 256 + y1) := by
      rw [decide_eq_true (by omega)]; rw [low_iff2]; omega
    refine ⟨(quotB x1).length + 2 + ((quotB x2).length + 2), ?_⟩
    simp only [List.cons_append, List.nil_append, plainP]
    unfold stU
    rw [unit_plain (by omega) hl, unit_high (by omega) (by omega)]
    simp only []
    rw [unit_plain (by omega) hl2, unit_low (by rw [low_iff2]; omega), Res.pre_pre]
    have e : 65536 + (x1 * 256 + y1 - 55296) * 1024 + (x2 * 256 + y2) - 56320 = c := by omega
    simp only [e, List.nil_append]
theorem one_quot {c : Int} (h0 : 0 ≤ c) (hc : isB c = true) (t : List Int) : ∃ n, scan stepX stU (quotP (big16 c ++ t)) = (scan stepX stU (quotP t)).pre [c] n := by
  have hi := isB_iff.1 hc
  unfold big16
  by_cases h : c < 65536
  · rw [if_pos h]
    have hl : lowB (c / 256) = decide ((0 : Int) < 0) := by
      rw [decide_eq_false (by omega)]; unfold lowB; rw [decide_eq_false]; omega
    refine ⟨3, ?_⟩
    simp only [List.cons_append, List.nil_append, quotP]
    unfold stU
    rw [unit_quot hl, unit_one (by omega) (by omega)]
    have e : c / 256 * 256 + c % 256 = c := by omega
    simp only [e]
  · rw [if_neg h]
    obtain ⟨x1, e1⟩ : ∃ x, (55296 + (c - 65536) / 1024) / 256 = x := ⟨_, rfl⟩
    obtain ⟨y1, f1⟩ : ∃ x, (55296 + (c - 65536) / 1024) % 256 = x := ⟨_, rfl⟩
    obtain ⟨x2, e2⟩ : ∃ x, (56320 + (c - 65536) % 1024) / 256 = x := ⟨_, rfl⟩
    obtain ⟨y2, f2⟩ : ∃ x, (56320 + (c - 65536) % 1024) % 256 = x := ⟨_, rfl⟩
    rw [e1, f1, e2, f2]
    have hl : lowB x1 = decide ((0 : Int) < 0) := by
      rw [decide_eq_false (by omega)]; unfold lowB; rw [decide_eq_false]; omega
    have hl2 : lowB x2 = decide (0 < x1 * 256 + y1) := by
      rw [decide_eq_true (by omega)]; rw [low_iff2]; omega
    refine ⟨3 + 3, ?_⟩
    simp only [List.cons_append, List.nil_append, quotP]
    unfold stU
    rw [unit_quot hl, unit_high (by omega) (by omega)]
    simp only []
    rw [unit_quot hl2, unit_low (by rw [low_iff2]; omega), Res.pre_pre]
    have e : 65536 + (x1 * 256 + y1 - 55296) * 1024 + (x2 * 256 + y2) - 56320 = c := by omega
    simp only [e, List.nil_append]
theorem all_plain (l : List Int) (h : ∀ c ∈ l, isB c = true ∧ 0 ≤ c) : (scan stepX st0 (15 :: plainP (bigL l))).told = l := by
  have h0 : stepX st0 15 = some (stU, []) := e0_7 rfl (by decide)
  rw [scan_some _ h0]
  have : (scan stepX stU (plainP (bigL l))).told = l := by
    clear h0
    induction l with
    | nil => rfl
    | cons c r ih =>
      have hc := h c (by simp)
      obtain ⟨n, e⟩ := one_plain hc.2 hc.1 (bigL r)
      simp only [bigL]
      rw [e]
      simp only [Res.pre, ih (fun x hx => h x (by simp [hx]))]
      rfl
  simp [Res.pre, this]
theorem all_quot (l : List Int) (h : ∀ c ∈ l, isB c = true ∧ 0 ≤ c) : (scan stepX st0 (15 :: quotP (bigL l))).told = l := by
  have h0 : stepX st0 15 = some (stU, []) := e0_7 rfl (by decide)
  rw [scan_some _ h0]
  have : (scan stepX stU (quotP (bigL l))).told = l := by
    clear h0
    induction l with
    | nil => rfl
    | cons c r ih =>
      have hc := h c (by simp)
      obtain ⟨n, e⟩ := one_quot hc.2 hc.1 (bigL r)
      simp only [bigL]
      rw [e]
      simp only [Res.pre, ih (fun x hx => h x (by simp [hx]))]
      rfl
  simp [Res.pre, this]
/-! ### Windows that are laid -/
theorem k_def {n : Int} (h0 : 0 ≤ n) (h1 : n ≤ 7) : kindP false (24 + n) = 5 ∧ numP false (24 + n) = n.toNat ∧ kindP true (232 + n) = 5 ∧ numP true (232 + n) = n.toNat := by
  have hcs : n = 0 ∨ n = 1 ∨ n = 2 ∨ n = 3 ∨ n = 4 ∨ n = 5 ∨ n = 6 ∨ n = 7 := by omega
  rcases hcs with rfl | rfl | rfl | rfl | rfl | rfl | rfl | rfl <;> decide
theorem k_chg {n : Int} (h0 : 0 ≤ n) (h1 : n ≤ 7) : kindP false (16 + n) = 6 ∧ numP false (16 + n) = n.toNat ∧ kindP true (224 + n) = 6 ∧ numP true (224 + n) = n.toNat ∧ kindP false (1 + n) = 3 := by
  have hcs : n = 0 ∨ n = 1 ∨ n = 2 ∨ n = 3 ∨ n = 4 ∨ n = 5 ∨ n = 6 ∨ n = 7 := by omega
  rcases hcs with rfl | rfl | rfl | rfl | rfl | rfl | rfl | rfl <;> decide
theorem k_up {b : Int} (h : 128 ≤ b) : kindP false b = 8 := by
  unfold kindP; rw [if_neg (by simp)]; simp (disch := omega) only [if_neg, if_pos]
theorem nth_set_is (l : List Int) (n : Nat) (o : Int) (h : n < l.length) : nth (l.set n o) n = o := by simp [nth, h]
theorem two_told {n x b : Int} (h0 : 0 ≤ n) (h1 : n ≤ 7) (hb : 128 ≤ b) (ho : ¬ offI x < 0) (m : Int) (m0 : 0 ≤ m) (m1 : m ≤ 7) :
    (∃ z, scan stepX st0 [24 + n, x, b, 16 + m, 1 + n, b] = ⟨[offI x + b - 128, offI x + b - 128], 6, z, false⟩ ∧ rest z = true) ∧ (∃ z, scan stepX st0 [15, 232 + n, x, b, 15, 224 + n, b] = ⟨[offI x + b - 128, offI x + b - 128], 7, z, false⟩ ∧ rest z = true) := by
  obtain ⟨d1, d2, d3, d4⟩ := k_def h0 h1
  obtain ⟨-, -, c3, c4, c5⟩ := k_chg h0 h1
  obtain ⟨g1, g2, -, -, -⟩ := k_chg m0 m1
  have hn : n.toNat < firstL8.length := by show n.toNat < 8; omega
  have e1 := nth_set_is firstL8 n.toNat (offI x) hn
  constructor
  · refine ⟨⟨false, m.toNat, firstL8.set n.toNat (offI x), 0, []⟩, ?_, rfl⟩
    unfold st0
    rw [scan_some _ (e0_b (by omega) (by omega) (by omega)), scan_some _ (e1_5 d1 ho)]
    simp only [layE, d2]
    rw [scan_some _ (e0_8 (k_up hb) (by omega)), scan_some _ (e0_6 g1 (by omega)), scan_some _ (e0_b (by omega) (by omega) (by omega)), scan_some _ (e1_3 c5)]
    have e2 : (1 + n - 1).toNat = n.toNat := by congr 1; omega
    rw [if_neg (by omega), e2, e1, g2]
    simp [scan, Res.pre]
  · refine ⟨⟨false, n.toNat, firstL8.set n.toNat (offI x), 0, []⟩, ?_, rfl⟩
    unfold st0
    rw [scan_some _ (e0_7 rfl (by omega)), scan_some _ (e0_b (by omega) (by omega) (by omega)), scan_some _ (e1_5 d3 ho)]
    simp only [layE, d4]
    rw [scan_some _ (e0_8 (k_up hb) (by omega)), scan_some _ (e0_7 rfl (by omega)), scan_some _ (e0_6 c3 (by omega)), scan_some _ (e0_8 (k_up hb) (by omega)), c4, e1]
    simp [scan, Res.pre]
theorem two_wrong {n x b : Int} (h0 : 0 ≤ n) (h1 : n ≤ 7) (ho : offI x < 0) (m : Int) :
    (scan stepX st0 [24 + n, x, b, 16 + m, 1 + n, b]).told = [] ∧ (scan stepX st0 [24 + n, x, b, 16 + m, 1 + n, b]).bad = true ∧ (scan stepX st0 [24 + n, x, b, 16 + m, 1 + n, b]).eaten = 1 ∧
    (scan stepX st0 [15, 232 + n, x, b, 15, 224 + n, b]).told = [] ∧ (scan stepX st0 [15, 232 + n, x, b, 15, 224 + n, b]).bad = true ∧ (scan stepX st0 [15, 232 + n, x, b, 15, 224 + n, b]).eaten = 2 := by
  obtain ⟨d1, d2, d3, d4⟩ := k_def h0 h1
  unfold st0
  rw [scan_some _ (e0_b (by omega) (by omega) (by omega)), scan_none _ (e1_5n d1 ho)]
  rw [scan_some _ (e0_7 rfl (by omega)), scan_some _ (e0_b (by omega) (by omega) (by omega)), scan_none _ (e1_5n d3 ho)]
  simp [Res.pre]
/-! ### Beginnings -/
/-- What is told of a beginning is a beginning of what is told; it goes wrong where that does, if it reaches so far. -/
theorem front (l : List Int) (n : Nat) (s : St) : (∃ m, (scan stepX s l).told = (scan stepX s (l.take n)).told ++ m) ∧ ((scan stepX s l).bad = true → (scan stepX s l).eaten < n → scan stepX s (l.take n) = scan stepX s l) := by
  have e := scan_append stepX (l.take n) (l.drop n) s
  rw [List.take_append_drop] at e
  by_cases hb : (scan stepX s (l.take n)).bad = true
  · rw [if_pos hb] at e
    rw [e]
    exact ⟨⟨[], by simp⟩, fun _ _ => rfl⟩
  · rw [if_neg hb] at e
    rw [e]
    refine ⟨⟨_, rfl⟩, fun hbad hlt => ?_⟩
    exfalso
    have hall := scan_all stepX (l.take n) s (by simpa using hb)
    simp only [Res.pre] at hlt
    rw [List.length_take] at hall
    by_cases hn : n ≤ l.length
    · omega
    · have hd : l.drop n = [] := List.drop_of_length_le (by omega)
      rw [hd] at hbad
      simp [scan, Res.pre] at hbad
end Go.Proofs.YtpglmfhlgaliaaaDoor.Exp
