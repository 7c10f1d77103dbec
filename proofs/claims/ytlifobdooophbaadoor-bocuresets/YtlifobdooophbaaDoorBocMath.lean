/-
  Plain facts on layer 12: what a difference's beginning leaves, the machine that reads, the bytes that are written, there and back, their order. No Go text is named here; no condition.
-/
import Derived.Test.YtlifobdooophbaaDoorDifMath
import Derived.Test.YtlifobdooophbaaDoorScan
import Derived.Test.YtlifobdooophbaaDoorEncS
namespace Go.Proofs.YtlifobdooophbaaDoor.Boc
open Bas Sca Scn Dif
set_option linter.unusedVariables false
set_option linter.unusedSimpArgs false

/-! ### What begins so, and the converse -/
theorem rngF_bound (l : List Int) : ∀ (n : Nat) (lo x y : Int), rngF n lo l = some (x, y) → lo ≤ x ∧ x ≤ y ∧ y ≤ lo + (p243 n : Int) - 1 ∧ l.length ≤ n ∧ (l.length = n → x = y) := by
  induction l with
  | nil =>
    intro n lo x y h
    rw [rngF_nil] at h
    simp only [Option.some.injEq, Prod.mk.injEq] at h
    have := p243_pos n
    refine ⟨by omega, by omega, by omega, Nat.zero_le _, fun e => ?_⟩
    have e0 : n = 0 := e.symm
    subst e0
    rw [p243_0] at h; omega
  | cons b r ih =>
    intro n lo x y h
    cases n with
    | zero => simp [rngF] at h
    | succ n =>
      by_cases hw : wor b < 0
      · rw [rngF_none hw] at h; simp at h
      · rw [rngF_more hw] at h
        obtain ⟨h1, h2, h3, h4, h5⟩ := ih n _ x y h
        have hr := wor_rng b
        obtain ⟨v, hv⟩ : ∃ v : Nat, wor b = (v : Int) := ⟨(wor b).toNat, by omega⟩
        rw [hv] at h1 h3 hr
        have hz : 0 ≤ (v : Int) * (p243 n : Int) := Int.mul_nonneg (by omega) (by omega)
        have hz2 : (v : Int) * (p243 n : Int) ≤ 242 * (p243 n : Int) := Int.mul_le_mul_of_nonneg_right (by omega) (by omega)
        rw [p243_succ, Int.natCast_mul]
        refine ⟨by omega, h2, ?_, by simp; omega, fun e => h5 (by simpa using e)⟩
        have e243 : ((243 : Nat) : Int) = 243 := rfl
        rw [e243]; omega
/-- Numbers of a span begin with its digits. -/
theorem rngF_take (l : List Int) : ∀ (n a : Nat) (lo x y : Int), rngF n lo l = some (x, y) → x ≤ lo + a → lo + a ≤ y → a < p243 n → (digs n a).take l.length = l := by
  induction l with
  | nil => intro n a lo x y _ _ _ _; simp
  | cons b r ih =>
    intro n a lo x y h hx hy ha
    cases n with
    | zero => simp [rngF] at h
    | succ n =>
      by_cases hw : wor b < 0
      · rw [rngF_none hw] at h; simp at h
      · rw [rngF_more hw] at h
        obtain ⟨h1, h2, h3, -, -⟩ := rngF_bound r n _ x y h
        have hr := wor_rng b
        have htb := trB_wor (b := b) (by omega)
        obtain ⟨v, hv⟩ : ∃ v : Nat, wor b = (v : Int) := ⟨(wor b).toNat, by omega⟩
        rw [hv] at h h1 h3 hr htb
        rw [Int.toNat_natCast] at htb
        have hp := p243_pos n
        have e1 : (v : Int) * (p243 n : Int) = ((v * p243 n : Nat) : Int) := by rw [Int.natCast_mul]
        rw [e1] at h h1 h3
        have hq : a / p243 n = v := by
          have h4 : v * p243 n ≤ a := by omega
          have h5 : a < (v + 1) * p243 n := by rw [Nat.add_mul]; omega
          exact Nat.div_eq_of_lt_le h4 h5
        have hv2 : v < 243 := by omega
        rw [digs_up, hq, Nat.mod_eq_of_lt hv2, htb, List.length_cons, List.take_succ_cons]
        congr 1
        rw [← digs_mod n a]
        have hm : a % p243 n = a - v * p243 n := by
          have := Nat.div_add_mod a (p243 n)
          rw [hq, Nat.mul_comm] at this
          omega
        have h4 : v * p243 n ≤ a := by omega
        refine ih n (a % p243 n) _ x y h ?_ ?_ (Nat.mod_lt _ hp)
        · rw [hm]; omega
        · rw [hm]; omega
/-- The first bytes, row by row. -/
theorem lb_rows {b : Int} {t : Nat} (ht : ltI b = (t : Int)) :
    (b = 33 ∧ t = 3 ∧ p243 t = 14348907 ∧ lbI b = -14536567) ∨ (34 ≤ b ∧ b ≤ 36 ∧ t = 2 ∧ p243 t = 59049 ∧ lbI b = -187660 + 59049 * (b - 34)) ∨
    (37 ≤ b ∧ b ≤ 79 ∧ t = 1 ∧ p243 t = 243 ∧ lbI b = -10513 + 243 * (b - 37)) ∨ (80 ≤ b ∧ b ≤ 207 ∧ t = 0 ∧ p243 t = 1 ∧ lbI b = -64 + b - 80) ∨
    (208 ≤ b ∧ b ≤ 250 ∧ t = 1 ∧ p243 t = 243 ∧ lbI b = 64 + 243 * (b - 208)) ∨ (251 ≤ b ∧ b ≤ 253 ∧ t = 2 ∧ p243 t = 59049 ∧ lbI b = 10513 + 59049 * (b - 251)) ∨
    (b = 254 ∧ t = 3 ∧ p243 t = 14348907 ∧ lbI b = 187660) := by
  have hcs : b < 33 ∨ b = 33 ∨ (34 ≤ b ∧ b ≤ 36) ∨ (37 ≤ b ∧ b ≤ 79) ∨ (80 ≤ b ∧ b ≤ 207) ∨ (208 ≤ b ∧ b ≤ 250) ∨ (251 ≤ b ∧ b ≤ 253) ∨ b = 254 ∨ 254 < b := by omega
  have hlt : ∀ n : Nat, ltI b = (n : Int) → t = n := fun n h => by omega
  rcases hcs with h | h | h | h | h | h | h | h | h
  · exfalso; unfold ltI at ht; repeat' split at ht
    all_goals omega
  · have e : t = 3 := hlt 3 (by unfold ltI; simp (disch := omega) only [if_pos, if_neg]; rfl)
    exact .inl ⟨h, e, by rw [e]; rfl, by unfold lbI; simp (disch := omega) only [if_pos, if_neg]⟩
  · have e : t = 2 := hlt 2 (by unfold ltI; simp (disch := omega) only [if_pos, if_neg]; rfl)
    exact .inr (.inl ⟨h.1, h.2, e, by rw [e]; rfl, by unfold lbI; simp (disch := omega) only [if_pos, if_neg]⟩)
  · have e : t = 1 := hlt 1 (by unfold ltI; simp (disch := omega) only [if_pos, if_neg]; rfl)
    exact .inr (.inr (.inl ⟨h.1, h.2, e, by rw [e]; rfl, by unfold lbI; simp (disch := omega) only [if_pos, if_neg]⟩))
  · have e : t = 0 := hlt 0 (by unfold ltI; simp (disch := omega) only [if_pos, if_neg]; rfl)
    exact .inr (.inr (.inr (.inl ⟨h.1, h.2, e, by rw [e]; rfl, by unfold lbI; simp (disch := omega) only [if_pos, if_neg]⟩)))
  · have e : t = 1 := hlt 1 (by unfold ltI; simp (disch := omega) only [if_pos, if_neg]; rfl)
    exact .inr (.inr (.inr (.inr (.inl ⟨h.1, h.2, e, by rw [e]; rfl, by unfold lbI; simp (disch := omega) only [if_pos, if_neg]⟩))))
  · have e : t = 2 := hlt 2 (by unfold ltI; simp (disch := omega) only [if_pos, if_neg]; rfl)
    exact .inr (.inr (.inr (.inr (.inr (.inl ⟨h.1, h.2, e, by rw [e]; rfl, by unfold lbI; simp (disch := omega) only [if_pos, if_neg]⟩)))))
  · have e : t = 3 := hlt 3 (by unfold ltI; simp (disch := omega) only [if_pos, if_neg]; rfl)
    exact .inr (.inr (.inr (.inr (.inr (.inr ⟨h, e, by rw [e]; rfl, by unfold lbI; simp (disch := omega) only [if_pos, if_neg]⟩)))))
  · exfalso; unfold ltI at ht; repeat' split at ht
    all_goals omega
/-- The first byte of the differences that a first byte has. -/
theorem first_back {b : Int} {t a : Nat} (ht : ltI b = (t : Int)) (ha : a < p243 t) (hr : inR (lbI b + a)) : firstB (lbI b + a) = b ∧ trN (rowD (lbI b + a)) = t ∧ abv (lbI b + a) % p243 t = a := by
  have hf : firstB (lbI b + a) = b := by
    have hro := rows_of hr
    have hlb := lb_rows ht
    generalize hd : lbI b + (a : Int) = d at *
    unfold inR at hr
    rcases hlb with ⟨h1, -, hp, hl⟩ | ⟨h1, h2, -, hp, hl⟩ | ⟨h1, h2, -, hp, hl⟩ | ⟨h1, h2, -, hp, hl⟩ | ⟨h1, h2, -, hp, hl⟩ | ⟨h1, h2, -, hp, hl⟩ | ⟨h1, -, hp, hl⟩
    all_goals
      rw [hp] at ha
      rw [hl] at hd
      clear hl hp ht
      rcases hro with ⟨-, -, -, e, hh⟩ | ⟨-, -, -, e, hh⟩ | ⟨-, -, -, e, hh⟩ | ⟨-, -, -, e, hh⟩ | ⟨-, -, -, e, hh⟩ | ⟨-, -, -, e, hh⟩ | ⟨-, -, -, e, hh⟩
      all_goals omega
  obtain ⟨h1, h2⟩ := first_least hr
  rw [hf] at h1 h2
  have ht2 : trN (rowD (lbI b + a)) = t := by omega
  rw [ht2] at h2
  exact ⟨hf, ht2, by omega⟩
/-- Differences of a span begin with its bytes. -/
theorem rng_take {l : List Int} {lo hi d : Int} {n : Nat} (h : rngL l = some (lo, hi, n)) (h1 : lo ≤ d) (h2 : d ≤ hi) (hr : inR d) : (packL d).take l.length = l ∧ (packL d).length = n ∧ 1 ≤ l.length ∧ l.length ≤ n := by
  cases l with
  | nil => simp [rngL] at h
  | cons b r =>
    simp only [rngL] at h
    split at h
    · simp at h
    · rename_i hneg
      obtain ⟨t, ht⟩ : ∃ t : Nat, ltI b = (t : Int) := ⟨(ltI b).toNat, by omega⟩
      rw [ht, Int.toNat_natCast] at h
      cases hh : rngF t (lbI b) r with
      | none => rw [hh] at h; simp at h
      | some z =>
        rw [hh] at h
        simp only [Option.map_some, Option.some.injEq, Prod.mk.injEq] at h
        obtain ⟨e1, e2, e3⟩ := h
        have hz : rngF t (lbI b) r = some (lo, hi) := by rw [hh, ← e1, ← e2]
        obtain ⟨g1, g2, g3, g4, g5⟩ := rngF_bound r t _ lo hi hz
        obtain ⟨a, ha⟩ : ∃ a : Nat, d = lbI b + a := ⟨(d - lbI b).toNat, by omega⟩
        subst ha
        have hap : a < p243 t := by omega
        obtain ⟨f1, f2, f3⟩ := first_back ht hap hr
        have htk := rngF_take r t a _ lo hi hz h1 h2 hap
        refine ⟨?_, by rw [pack_len, f2]; exact e3, by simp, by simp; omega⟩
        unfold packL
        rw [f1, f2, List.length_cons, List.take_succ_cons, ← digs_mod, f3, htk]
/-- All bytes there: one difference. -/
theorem rng_one {l : List Int} {lo hi : Int} {n : Nat} (h : rngL l = some (lo, hi, n)) (hn : l.length = n) : lo = hi := by
  cases l with
  | nil => simp [rngL] at h
  | cons b r =>
    simp only [rngL] at h
    split at h
    · simp at h
    · cases hh : rngF (ltI b).toNat (lbI b) r with
      | none => rw [hh] at h; simp at h
      | some z =>
        rw [hh] at h
        simp only [Option.map_some, Option.some.injEq, Prod.mk.injEq] at h
        obtain ⟨e1, e2, e3⟩ := h
        have := (rngF_bound r _ _ z.1 z.2 hh).2.2.2.2 (by simp at hn; omega)
        omega
theorem rng_le {l : List Int} {lo hi : Int} {n : Nat} (h : rngL l = some (lo, hi, n)) : lo ≤ hi ∧ -14536567 ≤ lo ∧ hi ≤ 14536566 ∧ 1 ≤ l.length ∧ l.length ≤ n ∧ n ≤ 4 := by
  cases l with
  | nil => simp [rngL] at h
  | cons b r =>
    simp only [rngL] at h
    split at h
    · simp at h
    · rename_i hneg
      obtain ⟨t, ht⟩ : ∃ t : Nat, ltI b = (t : Int) := ⟨(ltI b).toNat, by omega⟩
      rw [ht, Int.toNat_natCast] at h
      cases hh : rngF t (lbI b) r with
      | none => rw [hh] at h; simp at h
      | some z =>
        rw [hh] at h
        simp only [Option.map_some, Option.some.injEq, Prod.mk.injEq] at h
        obtain ⟨e1, e2, e3⟩ := h
        obtain ⟨g1, g2, g3, g4, -⟩ := rngF_bound r t _ z.1 z.2 hh
        have hb : -14536567 ≤ lbI b ∧ lbI b + (p243 t : Int) ≤ 14536567 ∧ t ≤ 3 := by
          rcases lb_rows ht with h | h | h | h | h | h | h <;> omega
        refine ⟨by omega, by omega, by omega, by simp, by simp; omega, by omega⟩
end Go.Proofs.YtlifobdooophbaaDoor.Boc
