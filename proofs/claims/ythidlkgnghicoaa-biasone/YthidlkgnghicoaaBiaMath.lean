/-
  Layer 9 as plain arithmetic: thresholds, a number's digits under a bias, there and back, biases. No Go text is named here; no condition.
-/
import Derived.Test.YthidlkgnghicoaaBasMath
namespace Go.Proofs.Ythidlkgnghicoaa
namespace Bia
open Bas
set_option linter.unusedVariables false

/-- A number that counts, from a least to a greatest one. -/
def clampI (x l h : Int) : Int := if x < l then l else if x > h then h else x
theorem clamp_lo {x l h : Int} (hx : x < l) : clampI x l h = l := by unfold clampI; rw [if_pos hx]
theorem clamp_hi {x l h : Int} (hl : l ≤ h) (hx : h < x) : clampI x l h = h := by unfold clampI; rw [if_neg (by omega), if_pos hx]
theorem clamp_in {x l h : Int} (h0 : l ≤ x) (h1 : x ≤ h) : clampI x l h = x := by unfold clampI; rw [if_neg (by omega), if_neg (by omega)]
theorem clamp_rng (x : Int) {l h : Int} (hl : l ≤ h) : l ≤ clampI x l h ∧ clampI x l h ≤ h := by
  unfold clampI; repeat' split
  all_goals omega
theorem clamp_mono {x y l h : Int} (hl : l ≤ h) (hx : x ≤ y) : clampI x l h ≤ clampI y l h := by
  unfold clampI; repeat' split
  all_goals omega
/-- The threshold of a place under a bias. -/
def thrI (p b : Int) : Int := clampI (36 * (clampI p 0 1000 + 1) - clampI b 0 1000) 1 26
theorem thrI_rng (p b : Int) : 1 ≤ thrI p b ∧ thrI p b ≤ 26 := clamp_rng _ (by decide)
theorem thrI_mono {p q : Int} (h : p ≤ q) (b : Int) : thrI p b ≤ thrI q b := by
  unfold thrI
  have := clamp_mono (l := 0) (h := 1000) (by decide) h
  exact clamp_mono (by decide) (by omega)
/-- .. as a count. -/
def thr (b : Int) (p : Nat) : Nat := (thrI p b).toNat
theorem thr_rng (b : Int) (p : Nat) : 1 ≤ thr b p ∧ thr b p ≤ 26 := by
  have := thrI_rng p b
  unfold thr; omega
theorem thr_eq (b : Int) (p : Nat) : thrI p b = (thr b p : Int) := by
  have := thrI_rng p b
  unfold thr; omega

/-- The digits by their worth, as bytes. -/
def letL : List Int := [97, 98, 99, 100, 101, 102, 103, 104, 105, 106, 107, 108, 109, 110, 111, 112, 113, 114, 115, 116, 117, 118, 119, 120, 121, 122, 48, 49, 50, 51, 52, 53, 54, 55, 56, 57]
theorem letL_len : letL.length = 36 := by decide +kernel
/-- A byte, a great letter as a small one. -/
def smallI (c : Int) : Int := if 65 ≤ c ∧ c ≤ 90 then c + 32 else c
/-- A byte's worth, or -1. -/
def digI (c : Int) : Int :=
  if 97 ≤ c ∧ c ≤ 122 then c - 97 else if 65 ≤ c ∧ c ≤ 90 then c - 65 else if 48 ≤ c ∧ c ≤ 57 then c - 48 + 26 else -1
theorem digI_rng (c : Int) : -1 ≤ digI c ∧ digI c ≤ 35 := by unfold digI; repeat' split
                                                             all_goals omega
theorem let_dig : ∀ k : Fin 36, digI (nth letL k.val) = k.val ∧ 0 ≤ nth letL k.val ∧ nth letL k.val < 256 := by decide +kernel
theorem dig_small : ∀ k : Fin 256, 0 ≤ digI k.val → nth letL (digI k.val).toNat = smallI k.val := by decide +kernel
theorem small_byte {c : Int} (h0 : 0 ≤ c) (h1 : c < 256) : 0 ≤ smallI c ∧ smallI c < 256 := by unfold smallI; split <;> omega
theorem dig_let {d : Nat} (h : d < 36) : digI (nth letL d) = (d : Int) := (let_dig ⟨d, h⟩).1
theorem let_small {c : Int} (h0 : 0 ≤ c) (h1 : c < 256) {d : Nat} (h : digI c = (d : Int)) : nth letL d = smallI c := by
  have := dig_small ⟨c.toNat, by omega⟩
  simp only at this
  rw [show ((c.toNat : Nat) : Int) = c by omega, h] at this
  exact this (by omega)
/-- Where a worth stands among the digits. -/
theorem let_hit : ∀ c : Fin 256, ∀ d : Fin 36, nth letL d.val = smallI c.val → digI c.val = d.val := by decide +kernel
theorem let_miss : ∀ c : Fin 256, (∀ d : Fin 36, nth letL d.val ≠ smallI c.val) → digI c.val = -1 := by decide +kernel

theorem dig_step {n t : Nat} (h1 : 1 ≤ t) (h2 : t ≤ 26) (h : t ≤ n) : (n - t) / (36 - t) < n := by
  have : (n - t) / (36 - t) ≤ n - t := Nat.div_le_self _ _
  omega
theorem dig_ten {n t : Nat} (h1 : 1 ≤ t) (h2 : t ≤ 26) (h : t ≤ n) : (n - t) / (36 - t) * 10 ≤ n := by
  have h3 : (n - t) / (36 - t) * (36 - t) ≤ n - t := Nat.div_mul_le_self _ _
  have h4 : (n - t) / (36 - t) * 10 ≤ (n - t) / (36 - t) * (36 - t) := Nat.mul_le_mul_left _ (by omega)
  omega
/-- A number's digits under a bias, from a place on, by steps that are counted. -/
def digsF : Nat → Int → Nat → Nat → List Nat
  | 0, _, _, n => [n]
  | f + 1, b, p, n => if n < thr b p then [n] else (thr b p + (n - thr b p) % (36 - thr b p)) :: digsF f b (p + 1) ((n - thr b p) / (36 - thr b p))
theorem digsF_fuel (f : Nat) : ∀ (g : Nat) (b : Int) (p n : Nat), n < f → n < g → digsF f b p n = digsF g b p n := by
  induction f with
  | zero => intro g b p n h; omega
  | succ f ih =>
    intro g b p n hf hg
    cases g with
    | zero => omega
    | succ g =>
      rw [digsF, digsF]
      by_cases h : n < thr b p
      · rw [if_pos h, if_pos h]
      · have hs := dig_step (thr_rng b p).1 (thr_rng b p).2 (show thr b p ≤ n by omega)
        rw [if_neg h, if_neg h, ih g b (p + 1) _ (by omega) (by omega)]
/-- A number's digits under a bias, from a place on. -/
def digs (b : Int) (p n : Nat) : List Nat := digsF (n + 1) b p n
theorem digs_last {b : Int} {p n : Nat} (h : n < thr b p) : digs b p n = [n] := by unfold digs; rw [digsF, if_pos h]
theorem digs_more {b : Int} {p n : Nat} (h : ¬ n < thr b p) : digs b p n = (thr b p + (n - thr b p) % (36 - thr b p)) :: digs b (p + 1) ((n - thr b p) / (36 - thr b p)) := by
  have hs := dig_step (thr_rng b p).1 (thr_rng b p).2 (show thr b p ≤ n by omega)
  unfold digs
  rw [digsF, if_neg h, digsF_fuel n ((n - thr b p) / (36 - thr b p) + 1) b (p + 1) _ hs (by omega)]
theorem digs_lt (b : Int) (p n : Nat) : ∀ d ∈ digs b p n, d < 36 := by
  induction n using Nat.strongRecOn generalizing p with
  | _ n ih =>
    have ht := thr_rng b p
    by_cases h : n < thr b p
    · rw [digs_last h]; intro d hd; simp at hd; omega
    · rw [digs_more h]
      intro d hd
      rcases List.mem_cons.1 hd with rfl | hd
      · have := Nat.mod_lt (n - thr b p) (y := 36 - thr b p) (by omega)
        omega
      · exact ih _ (dig_step ht.1 ht.2 (by omega)) _ d hd
/-- .. as bytes. -/
def putL (b : Int) (p n : Nat) : List Int := (digs b p n).map (nth letL)
theorem putL_last {b : Int} {p n : Nat} (h : n < thr b p) : putL b p n = [nth letL n] := by unfold putL; rw [digs_last h]; rfl
theorem putL_more {b : Int} {p n : Nat} (h : ¬ n < thr b p) : putL b p n = nth letL (thr b p + (n - thr b p) % (36 - thr b p)) :: putL b (p + 1) ((n - thr b p) / (36 - thr b p)) := by unfold putL; rw [digs_more h]; rfl
theorem putL_byte (b : Int) (p n : Nat) : ∀ x ∈ putL b p n, 0 ≤ x ∧ x < 256 := by
  intro x hx
  unfold putL at hx
  obtain ⟨d, hd, rfl⟩ := List.mem_map.1 hx
  exact (let_dig ⟨d, digs_lt b p n d hd⟩).2
/-- A number of k places at most has so many digits at most. -/
theorem putL_len (b : Int) (k : Nat) : ∀ p n : Nat, n < 10 ^ k → (putL b p n).length ≤ k + 1 := by
  induction k with
  | zero =>
    intro p n h
    have ht := thr_rng b p
    rw [putL_last (by simp at h; omega)]; simp
  | succ k ih =>
    intro p n h
    have ht := thr_rng b p
    by_cases hl : n < thr b p
    · rw [putL_last hl]; simp
    · rw [putL_more hl]
      have h10 := dig_ten ht.1 ht.2 (show thr b p ≤ n by omega)
      have := ih (p + 1) ((n - thr b p) / (36 - thr b p)) (by rw [Nat.pow_succ] at h; omega)
      simp; omega
theorem put_len20 (b : Int) (n : Nat) (h : n < 18446744073709551616) : (putL b 0 n).length ≤ 21 := by
  have h2 : (10 : Nat) ^ 20 = 100000000000000000000 := by decide
  exact putL_len b 20 0 n (by omega)

/-- The greatest number that is got. -/
def top : Nat := 4611686018427387904
/-- The weight behind a digit that goes on. -/
def heavy (w t : Nat) : Nat := if w > top / (36 - t) then top + 1 else w * (36 - t)
theorem heavy_pos {w t : Nat} (hw : 1 ≤ w) (ht : t ≤ 26) : 1 ≤ heavy w t ∧ heavy w t ≤ top + 1 := by
  unfold heavy
  split
  · exact ⟨by unfold top; omega, Nat.le_refl _⟩
  · have h1 : w * (36 - t) ≤ top := by
      have := Nat.mul_le_mul_right (36 - t) (show w ≤ top / (36 - t) by omega)
      have := Nat.div_mul_le_self top (36 - t)
      omega
    have h2 : 1 * 1 ≤ w * (36 - t) := Nat.mul_le_mul hw (by omega)
    omega
/-- What stands in a row of bytes from a place on: the number, the place behind it, 0; or an error. -/
def getF (b : Int) : Nat → Nat → Nat → Nat → List Int → Nat × Nat × Nat
  | _, _, _, _, [] => (0, 0, 4)
  | p, q, n, w, c :: r =>
    if digI c < 0 then (0, 0, 3)
    else if (digI c).toNat * w > top - n then (0, 0, 5)
    else if (digI c).toNat < thr b p then (n + (digI c).toNat * w, q + 1, 0)
    else getF b (p + 1) (q + 1) (n + (digI c).toNat * w) (heavy w (thr b p)) r
theorem getF_nil (b : Int) (p q n w : Nat) : getF b p q n w [] = (0, 0, 4) := rfl
theorem getF_form {b : Int} {p q n w : Nat} {c : Int} {r : List Int} (h : digI c < 0) : getF b p q n w (c :: r) = (0, 0, 3) := by rw [getF, if_pos h]
theorem getF_long {b : Int} {p q n w d : Nat} {c : Int} {r : List Int} (h : digI c = (d : Int)) (h2 : d * w > top - n) : getF b p q n w (c :: r) = (0, 0, 5) := by
  rw [getF, h, if_neg (by omega), Int.toNat_natCast, if_pos h2]
theorem getF_last {b : Int} {p q n w d : Nat} {c : Int} {r : List Int} (h : digI c = (d : Int)) (h2 : ¬ d * w > top - n) (h3 : d < thr b p) : getF b p q n w (c :: r) = (n + d * w, q + 1, 0) := by
  rw [getF, h, if_neg (by omega), Int.toNat_natCast, if_neg h2, if_pos h3]
theorem getF_more {b : Int} {p q n w d : Nat} {c : Int} {r : List Int} (h : digI c = (d : Int)) (h2 : ¬ d * w > top - n) (h3 : ¬ d < thr b p) : getF b p q n w (c :: r) = getF b (p + 1) (q + 1) (n + d * w) (heavy w (thr b p)) r := by
  rw [getF, h, if_neg (by omega), Int.toNat_natCast, if_neg h2, if_neg h3]
theorem dig_nat {c : Int} (h : ¬ digI c < 0) : ∃ d : Nat, digI c = (d : Int) ∧ d < 36 := by
  have := digI_rng c
  exact ⟨(digI c).toNat, by omega, by omega⟩
/-- With an error there is no number, and no place. -/
theorem getF_err (b : Int) (l : List Int) : ∀ p q n w : Nat, (getF b p q n w l).2.2 ≠ 0 → getF b p q n w l = (0, 0, (getF b p q n w l).2.2) := by
  induction l with
  | nil => intro p q n w _; rfl
  | cons c r ih =>
    intro p q n w h
    by_cases h1 : digI c < 0
    · rw [getF_form h1]
    · obtain ⟨d, hd, -⟩ := dig_nat h1
      by_cases h2 : d * w > top - n
      · rw [getF_long hd h2]
      · by_cases h3 : d < thr b p
        · rw [getF_last hd h2 h3] at h; exact absurd rfl h
        · rw [getF_more hd h2 h3] at h ⊢; exact ih _ _ _ _ h

theorem mul3 (a b c : Nat) : a * (b * c) = a * c * b := by rw [Nat.mul_comm b c, Nat.mul_assoc]
/-- What is put is got. -/
theorem get_put (b : Int) (n : Nat) : ∀ (p q m w : Nat) (r : List Int), 1 ≤ w → m + n * w ≤ top →
    getF b p q m w (putL b p n ++ r) = (m + n * w, q + (putL b p n).length, 0) := by
  induction n using Nat.strongRecOn with
  | _ n ih =>
    intro p q m w r hw hm
    have ht := thr_rng b p
    by_cases h : n < thr b p
    · rw [putL_last h]
      have hd : digI (nth letL n) = (n : Int) := dig_let (by omega)
      rw [List.singleton_append, getF_last hd (by omega) h]
      simp
    · rw [putL_more h]
      obtain ⟨t, hte⟩ : ∃ t, thr b p = t := ⟨_, rfl⟩
      rw [hte] at h ht ⊢
      obtain ⟨d, hde⟩ : ∃ d, t + (n - t) % (36 - t) = d := ⟨_, rfl⟩
      obtain ⟨u, hu⟩ : ∃ u, (n - t) / (36 - t) = u := ⟨_, rfl⟩
      have hlt : u < n := by rw [← hu]; exact dig_step ht.1 ht.2 (by omega)
      have hml := Nat.mod_lt (n - t) (y := 36 - t) (by omega)
      have hdm := Nat.div_add_mod (n - t) (36 - t)
      rw [hu] at hdm
      have hn : n = d + u * (36 - t) := by rw [Nat.mul_comm u]; omega
      have hnw : n * w = d * w + u * (w * (36 - t)) := by rw [hn, Nat.add_mul, Nat.mul_assoc, Nat.mul_comm (36 - t) w]
      rw [hde, hu, List.cons_append, getF_more (d := d) (dig_let (by omega)) (by omega) (by rw [hte]; omega), hte]
      have hhp := heavy_pos (w := w) (t := t) hw ht.2
      have hsum : u * heavy w t = u * (w * (36 - t)) := by
        unfold heavy
        split
        · rename_i hg
          have hgt : top < w * (36 - t) := (Nat.div_lt_iff_lt_mul (by omega)).1 hg
          have hu0 : u = 0 := by
            rcases Nat.eq_zero_or_pos u with h0 | h0
            · exact h0
            · have := Nat.mul_le_mul_right (w * (36 - t)) h0
              omega
          rw [hu0]; simp
        · rfl
      rw [ih u hlt (p + 1) (q + 1) (m + d * w) (heavy w t) r hhp.1 (by omega), hsum]
      simp only [List.length_cons, Prod.mk.injEq, and_true]
      omega

/-- Digits that are got are put again, with small letters. -/
theorem put_get (b : Int) (l : List Int) : ∀ (p q m w N e : Nat), (∀ x ∈ l, 0 ≤ x ∧ x < 256) → 1 ≤ w → m ≤ top → getF b p q m w l = (N, e, 0) →
    ∃ n k, e = q + k ∧ 1 ≤ k ∧ k ≤ l.length ∧ N ≤ top ∧ N = m + n * w ∧ putL b p n = (l.take k).map smallI := by
  induction l with
  | nil => intro p q m w N e _ _ _ h; rw [getF_nil] at h; simp at h
  | cons c r ih =>
    intro p q m w N e hb hw hm h
    have hc := hb c (by simp)
    have ht := thr_rng b p
    by_cases h1 : digI c < 0
    · rw [getF_form h1] at h; simp at h
    · obtain ⟨d, hd, hd36⟩ := dig_nat h1
      have hls := let_small hc.1 hc.2 hd
      by_cases h2 : d * w > top - m
      · rw [getF_long hd h2] at h; simp at h
      · by_cases h3 : d < thr b p
        · rw [getF_last hd h2 h3] at h
          simp only [Prod.mk.injEq, and_true] at h
          exact ⟨d, 1, h.2.symm, Nat.le_refl _, by simp, by omega, h.1.symm, by rw [putL_last h3, hls]; simp⟩
        · rw [getF_more hd h2 h3] at h
          obtain ⟨t, hte⟩ : ∃ t, thr b p = t := ⟨_, rfl⟩
          rw [hte] at h h3 ht
          have hhp := heavy_pos (w := w) (t := t) hw ht.2
          obtain ⟨u, k, he, hk1, hk2, hN, hNe, hpu⟩ := ih (p + 1) (q + 1) (m + d * w) (heavy w t) N e (fun x hx => hb x (by simp [hx])) hhp.1 (by omega) h
          have hsum : u * heavy w t = u * (w * (36 - t)) := by
            unfold heavy at hNe ⊢
            split
            · rename_i hg
              rw [if_pos hg] at hNe
              have hu0 : u = 0 := by
                rcases Nat.eq_zero_or_pos u with h0 | h0
                · exact h0
                · have := Nat.mul_le_mul_right (top + 1) h0
                  omega
              rw [hu0]; simp
            · rfl
          have hq : (d + u * (36 - t) - t) / (36 - t) = u ∧ (d + u * (36 - t) - t) % (36 - t) = d - t := by
            have e1 : d + u * (36 - t) - t = (d - t) + u * (36 - t) := by omega
            rw [e1]
            exact ⟨by rw [Nat.add_mul_div_right _ _ (by omega), Nat.div_eq_of_lt (by omega), Nat.zero_add], by rw [Nat.add_mul_mod_self_right, Nat.mod_eq_of_lt (by omega)]⟩
          refine ⟨d + u * (36 - t), k + 1, by omega, by omega, by simp; omega, hN, ?_, ?_⟩
          · rw [hNe, hsum, Nat.add_mul, Nat.mul_assoc u, Nat.mul_comm (36 - t) w]; omega
          · rw [putL_more (by rw [hte]; omega), hte, hq.1, hq.2, show t + (d - t) = d by omega, hls, hpu]
            simp

/-- How often a number is divided, and the bias in the end, by steps that are counted. -/
def adF : Nat → Nat → Nat → Nat
  | 0, d, k => 36 * k + 36 * d / (d + 38)
  | f + 1, d, k => if d > 455 then adF f (d / 35) (k + 1) else 36 * k + 36 * d / (d + 38)
theorem adF_fuel (f : Nat) : ∀ g d k : Nat, d < f → d < g → adF f d k = adF g d k := by
  induction f with
  | zero => intro g d k h; omega
  | succ f ih =>
    intro g d k hf hg
    cases g with
    | zero => omega
    | succ g =>
      rw [adF, adF]
      by_cases h : d > 455
      · have hs : d / 35 < d := Nat.div_lt_self (by omega) (by decide)
        rw [if_pos h, if_pos h, ih g _ _ (by omega) (by omega)]
      · rw [if_neg h, if_neg h]
/-- How often a number is divided, and the bias in the end. -/
def adK (d k : Nat) : Nat := adF (d + 1) d k
theorem adK_more {d k : Nat} (h : d > 455) : adK d k = adK (d / 35) (k + 1) := by
  have hs : d / 35 < d := Nat.div_lt_self (by omega) (by decide)
  unfold adK
  rw [adF, if_pos h, adF_fuel d (d / 35 + 1) _ _ hs (by omega)]
theorem adK_last {d k : Nat} (h : ¬ d > 455) : adK d k = 36 * k + 36 * d / (d + 38) := by unfold adK; rw [adF, if_neg h]
theorem ad_left (d : Nat) : 36 * d / (d + 38) ≤ 36 := by
  apply Nat.div_le_of_le_mul
  omega
theorem adK_le (j : Nat) : ∀ d k : Nat, d < 456 * 35 ^ j → adK d k ≤ 36 * (k + j) + 36 := by
  induction j with
  | zero =>
    intro d k h
    rw [adK_last (by simp at h; omega)]
    have := ad_left d
    omega
  | succ j ih =>
    intro d k h
    by_cases hd : d > 455
    · rw [adK_more hd]
      have := ih (d / 35) (k + 1) (by rw [Nat.pow_succ] at h; omega)
      omega
    · rw [adK_last hd]
      have := ad_left d
      omega
/-- The bias behind a number. -/
def adapt (delta points : Nat) (first : Bool) : Nat :=
  adK (delta / (if first then 700 else 2) + delta / (if first then 700 else 2) / max points 1) 0
theorem adK_max {d : Nat} (h : d < 18446744073709551616) : adK d 0 ≤ 468 := by
  have h2 : (35 : Nat) ^ 12 = 3379220508056640625 := by decide
  have := adK_le 12 d 0 (by omega)
  omega
end Bia
end Go.Proofs.Ythidlkgnghicoaa
