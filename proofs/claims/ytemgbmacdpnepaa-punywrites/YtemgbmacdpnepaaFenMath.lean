/-
  Sums of marked places, by powers of two, as plain arithmetic: a place more, how many are ahead, which one has so many ahead. No Go text is named here; no condition.
-/
import Derived.Test.YtemgbmacdpnepaaPunOrd
import Derived.Test.YtemgbmacdpnepaaMemS
import Derived.Laws.Entries
namespace Go.Proofs.Ytemgbmacdpnepaa
namespace Fen
open Bas Pun
set_option linter.unusedVariables false

/-- The greatest power of two that divides a number, by steps that are counted. -/
def lowF : Nat → Nat → Nat
  | 0, _ => 0
  | f + 1, k => if k % 2 = 1 then 1 else 2 * lowF f (k / 2)
theorem lowF_fuel (f : Nat) : ∀ g k : Nat, 0 < k → k < 2 ^ f → k ≤ g → lowF g k = lowF f k := by
  induction f with
  | zero => intro g k h1 h2; simp at h2; omega
  | succ f ih =>
    intro g k h1 h2 h3
    rw [Nat.pow_succ] at h2
    cases g with
    | zero => omega
    | succ g =>
      rw [lowF, lowF]
      by_cases h : k % 2 = 1
      · rw [if_pos h, if_pos h]
      · rw [if_neg h, if_neg h, ih g (k / 2) (by omega) (by omega) (by omega)]
/-- The greatest power of two that divides a number. -/
def low (k : Nat) : Nat := lowF k k
theorem low_zero : low 0 = 0 := rfl
theorem low_odd {k : Nat} (h : k % 2 = 1) : low k = 1 := by
  unfold low
  cases k with
  | zero => omega
  | succ k => rw [lowF, if_pos h]
theorem low_fuel (f k : Nat) (h1 : 0 < k) (h2 : k < 2 ^ f) : low k = lowF f k := lowF_fuel f k k h1 h2 (Nat.le_refl _)
theorem low_even {k : Nat} (h0 : k ≠ 0) (h : k % 2 = 0) : low k = 2 * low (k / 2) := by
  unfold low
  cases k with
  | zero => omega
  | succ k =>
    have hp : (k + 1) / 2 < 2 ^ ((k + 1) / 2) := Nat.lt_two_pow_self
    rw [lowF, if_neg (by omega), lowF_fuel ((k + 1) / 2) k _ (by omega) hp (by omega)]
theorem low_of (e m : Nat) : low ((2 * m + 1) * 2 ^ e) = 2 ^ e := by
  induction e with
  | zero => rw [low_odd (by omega)]
  | succ e ih =>
    have hp : 0 < 2 ^ e := Nat.pow_pos (by decide)
    have h1 : (2 * m + 1) * 2 ^ (e + 1) = 2 * ((2 * m + 1) * 2 ^ e) := by rw [Nat.pow_succ]; rw [← Nat.mul_assoc, Nat.mul_comm]
    have h2 : 0 < (2 * m + 1) * 2 ^ e := Nat.mul_pos (by omega) hp
    rw [h1, low_even (by omega) (by omega), Nat.mul_div_cancel_left _ (by decide), ih, Nat.pow_succ]; omega
theorem low_form {k : Nat} (h : 0 < k) : ∃ e m, k = (2 * m + 1) * 2 ^ e := by
  induction k using Nat.strongRecOn with
  | _ k ih =>
    by_cases h1 : k % 2 = 1
    · exact ⟨0, k / 2, by simp; omega⟩
    · obtain ⟨e, m, he⟩ := ih (k / 2) (by omega) (by omega)
      refine ⟨e + 1, m, ?_⟩
      rw [Nat.pow_succ, ← Nat.mul_assoc, ← he]; omega
theorem low_pow {k : Nat} (h : 0 < k) : ∃ e, low k = 2 ^ e := by
  obtain ⟨e, m, rfl⟩ := low_form h
  exact ⟨e, low_of e m⟩
theorem low_le (k : Nat) : low k ≤ k := by
  rcases Nat.eq_zero_or_pos k with h | h
  · subst h; rw [low_zero]; exact Nat.le_refl _
  · obtain ⟨e, m, rfl⟩ := low_form h
    rw [low_of]
    exact Nat.le_mul_of_pos_left _ (by omega)
theorem low_pos {k : Nat} (h : 0 < k) : 0 < low k := by
  obtain ⟨e, he⟩ := low_pow h
  rw [he]; exact Nat.pow_pos (by decide)
theorem low_step {k : Nat} (h : 0 < k) : 2 * low k ≤ low (k + low k) := by
  obtain ⟨e, m, rfl⟩ := low_form h
  rw [low_of]
  obtain ⟨e2, m2, h2⟩ := low_form (show 0 < m + 1 by omega)
  have h3 : (2 * m + 1) * 2 ^ e + 2 ^ e = (2 * m2 + 1) * 2 ^ (e2 + (e + 1)) := by
    rw [Nat.pow_add, ← Nat.mul_assoc, ← h2, Nat.pow_succ, Nat.mul_comm (2 ^ e) 2, ← Nat.mul_assoc, ← Nat.succ_mul]
    congr 1; omega
  rw [h3, low_of, Nat.pow_add, Nat.pow_succ]
  have : 0 < 2 ^ e2 := Nat.pow_pos (by decide)
  have h4 : 1 * (2 ^ e * 2) ≤ 2 ^ e2 * (2 ^ e * 2) := Nat.mul_le_mul_right _ this
  omega
theorem low_gap {k r : Nat} (h : 0 < k) (hr : 0 < r) (hl : r < low k) : low (k + r) ≤ r := by
  obtain ⟨e, m, rfl⟩ := low_form h
  rw [low_of] at hl
  obtain ⟨e2, m2, rfl⟩ := low_form hr
  have hle : 2 ^ e2 ≤ (2 * m2 + 1) * 2 ^ e2 := Nat.le_mul_of_pos_left _ (by omega)
  have hlt : e2 < e := (Nat.pow_lt_pow_iff_right (by decide : 1 < 2)).1 (Nat.lt_of_le_of_lt hle hl)
  obtain ⟨d, rfl⟩ : ∃ d, e = e2 + (d + 1) := ⟨e - e2 - 1, by omega⟩
  have h3 : (2 * m + 1) * 2 ^ (e2 + (d + 1)) + (2 * m2 + 1) * 2 ^ e2 = (2 * ((2 * m + 1) * 2 ^ d + m2) + 1) * 2 ^ e2 := by
    have e1 : (2 * m + 1) * 2 ^ (e2 + (d + 1)) = (2 * ((2 * m + 1) * 2 ^ d)) * 2 ^ e2 := by
      rw [Nat.pow_add, Nat.pow_succ, Nat.mul_comm (2 ^ e2), ← Nat.mul_assoc]
      congr 1
      rw [← Nat.mul_assoc, Nat.mul_comm _ 2]
    rw [e1, ← Nat.add_mul]
    congr 1; omega
  rw [h3, low_of]; exact hle
/-- A power of two beyond a multiple of twice as many. -/
theorem low_next (m q : Nat) : low (q * 2 ^ (m + 1) + 2 ^ m) = 2 ^ m := by
  have : q * 2 ^ (m + 1) + 2 ^ m = (2 * q + 1) * 2 ^ m := by
    rw [Nat.pow_succ, Nat.add_mul, Nat.one_mul, Nat.mul_comm (2 ^ m) 2, ← Nat.mul_assoc, Nat.mul_comm q 2]
  rw [this, low_of]
/-- Which multiple a number reaches down to. -/
theorem low_at {j m a : Nat} (h : low j = 2 ^ m) (hj : 0 < j) (h1 : j - low j ≤ a) (h2 : a < j) : j = a / 2 ^ (m + 1) * 2 ^ (m + 1) + 2 ^ m := by
  obtain ⟨e, q, rfl⟩ := low_form hj
  rw [low_of] at h h1
  obtain rfl : e = m := by
    rcases Nat.lt_trichotomy e m with h3 | h3 | h3
    · have := (Nat.pow_lt_pow_iff_right (by decide : 1 < 2)).2 h3; omega
    · exact h3
    · have := (Nat.pow_lt_pow_iff_right (by decide : 1 < 2)).2 h3; omega
  have hp : 0 < 2 ^ e := Nat.pow_pos (by decide)
  have e1 : (2 * q + 1) * 2 ^ e = q * 2 ^ (e + 1) + 2 ^ e := by
    rw [Nat.pow_succ, Nat.add_mul, Nat.one_mul, Nat.mul_comm (2 ^ e) 2, ← Nat.mul_assoc, Nat.mul_comm q 2]
  rw [e1] at h1 h2 ⊢
  have e2 : 2 ^ (e + 1) = 2 * 2 ^ e := by rw [Nat.pow_succ]; omega
  have : a / 2 ^ (e + 1) = q := by
    apply Nat.div_eq_of_lt_le
    · omega
    · rw [Nat.succ_mul]; omega
  rw [this]

/-- Does the sum at j count the place a? -/
abbrev cov (a j : Nat) : Prop := j - low j ≤ a ∧ a < j
theorem cov_first (a : Nat) : cov a (a + 1) := ⟨by have := low_pos (show 0 < a + 1 by omega); omega, by omega⟩
theorem cov_next {a k : Nat} (h : cov a k) : cov a (k + low k) := by
  obtain ⟨h1, h2⟩ := h
  have h3 := low_step (show 0 < k by omega)
  exact ⟨by omega, by omega⟩
theorem cov_gap {a k j : Nat} (h : cov a k) (h1 : k < j) (h2 : j < k + low k) : ¬ cov a j := by
  intro hj
  have hk := h.2
  have := low_gap (k := k) (r := j - k) (by omega) (by omega) (by omega)
  rw [show k + (j - k) = j by omega] at this
  obtain ⟨h3, h4⟩ := hj
  omega

/-- Sums that say which places of N are marked. -/
structure Sums (N : Nat) (P : Nat → Bool) (p : List Int) : Prop where
  len : p.length = N + 1
  sum : ∀ k, 1 ≤ k → k ≤ N → nth p k + cnt P (k - low k) = cnt P k
theorem cnt_all (k : Nat) : cnt (fun _ => true) k = k := by
  induction k with
  | zero => rfl
  | succ k ih => rw [cnt, ih]; simp
theorem cnt_no (k : Nat) : cnt (fun _ => false) k = 0 := by
  induction k with
  | zero => rfl
  | succ k ih => rw [cnt, ih]; simp
theorem Sums.le {N : Nat} {P : Nat → Bool} {p : List Int} (h : Sums N P p) {k : Nat} (h1 : 1 ≤ k) (h2 : k ≤ N) : 0 ≤ nth p k ∧ nth p k ≤ k := by
  have h3 := h.sum k h1 h2
  have h4 := cnt_bound P (show k - low k ≤ k by omega)
  have h5 := cnt_max P k
  omega
/-- A place more is marked, and another one not any more. -/
def put (P : Nat → Bool) (a : Nat) (k : Nat) : Bool := if k = a then true else P k
def del (P : Nat → Bool) (a : Nat) (k : Nat) : Bool := if k = a then false else P k
theorem put_at (P : Nat → Bool) (a : Nat) : put P a a = true := by simp [put]
theorem put_ne {P : Nat → Bool} {a j : Nat} (h : j ≠ a) : put P a j = P j := by simp [put, h]
theorem del_at (P : Nat → Bool) (a : Nat) : del P a a = false := by simp [del]
theorem del_ne {P : Nat → Bool} {a j : Nat} (h : j ≠ a) : del P a j = P j := by simp [del, h]
theorem cnt_more {P Q : Nat → Bool} {a : Nat} (hp : P a = false) (hq : Q a = true) (h : ∀ j, j ≠ a → Q j = P j) (k : Nat) : cnt Q k = cnt P k + (if a < k then 1 else 0) := by
  by_cases hk : a < k
  · rw [cnt_succ hk hp hq h, if_pos hk]
  · rw [cnt_below (by omega) h, if_neg hk]; omega

/-- Where 'add' stands. -/
structure AddRel (N a : Nat) (p0 : List Int) (k : Nat) (p : List Int) : Prop where
  len : p.length = N + 1
  c : cov a k
  eq : ∀ j, 1 ≤ j → j ≤ N → nth p j = nth p0 j + (if cov a j ∧ j < k then 1 else 0)
theorem AddRel.zero {N a : Nat} {p : List Int} (h : p.length = N + 1) : AddRel N a p (a + 1) p :=
  ⟨h, cov_first a, fun j h1 h2 => by rw [if_neg (fun hh => by have := hh.1.2; omega)]; omega⟩
theorem AddRel.next {N a k : Nat} {p0 p : List Int} (h : AddRel N a p0 k p) (hk : k ≤ N) : AddRel N a p0 (k + low k) (p.set k (nth p k + 1)) := by
  have hl := h.len
  have hk1 : 1 ≤ k := by have := h.c.2; omega
  have hp := low_pos hk1
  refine ⟨by simpa using hl, cov_next h.c, fun j h1 h2 => ?_⟩
  rw [nth_set _ _ _ _ (by omega)]
  by_cases e : j = k
  · subst e
    have := h.eq j h1 h2
    rw [if_pos rfl, this, if_neg (by omega), if_pos ⟨h.c, by omega⟩]; omega
  · rw [if_neg e, h.eq j h1 h2]
    by_cases hc : cov a j
    · by_cases hj : j < k
      · rw [if_pos ⟨hc, hj⟩, if_pos ⟨hc, by omega⟩]
      · have : ¬ j < k + low k := fun h3 => cov_gap h.c (by omega) h3 hc
        rw [if_neg (by omega), if_neg (by omega)]
    · rw [if_neg (fun hh => hc hh.1), if_neg (fun hh => hc hh.1)]
theorem AddRel.done {N a k : Nat} {p0 p : List Int} {P : Nat → Bool} (h : AddRel N a p0 k p) (hk : ¬ k ≤ N) (hs : Sums N P p0) (ha : P a = false) : Sums N (put P a) p := by
  refine ⟨h.len, fun j h1 h2 => ?_⟩
  have h3 := hs.sum j h1 h2
  rw [h.eq j h1 h2, cnt_more ha (put_at P a) (fun i hi => put_ne hi), cnt_more ha (put_at P a) (fun i hi => put_ne hi)]
  have hl := low_le j
  have hp := low_pos (show 0 < j by omega)
  by_cases hc : cov a j
  · obtain ⟨h4, h5⟩ := hc
    rw [if_pos ⟨⟨h4, h5⟩, by omega⟩, if_pos h5, if_neg (by omega)]; omega
  · rw [if_neg (fun hh => hc hh.1)]
    by_cases h4 : a < j
    · have h5 : a < j - low j := by
        rcases Nat.lt_or_ge a (j - low j) with h | h
        · exact h
        · exact absurd ⟨h, h4⟩ hc
      rw [if_pos h4, if_pos h5]; omega
    · rw [if_neg h4, if_neg (by omega)]; omega
/-- No place, all places. -/
theorem Sums.none (N : Nat) : Sums N (fun _ => false) (List.replicate (N + 1) 0) := by
  refine ⟨by simp, fun k h1 h2 => ?_⟩
  rw [cnt_no, cnt_no]; unfold nth
  rw [List.getElem?_replicate_of_lt (by omega)]; rfl
theorem Sums.all {N : Nat} {p : List Int} (hl : p.length = N + 1) (h : ∀ k, 1 ≤ k → k ≤ N → nth p k = low k) : Sums N (fun _ => true) p := by
  refine ⟨hl, fun k h1 h2 => ?_⟩
  have := low_le k
  rw [cnt_all, cnt_all, h k h1 h2]; omega

/-- The place that has so many marked ones ahead. -/
theorem cnt_find {P : Nat → Bool} {N h : Nat} (hh : h < cnt P N) : ∃ a, a < N ∧ P a = true ∧ cnt P a = h := by
  induction N with
  | zero => simp [cnt] at hh
  | succ N ih =>
    by_cases h2 : h < cnt P N
    · obtain ⟨a, h3, h4⟩ := ih h2
      exact ⟨a, by omega, h4⟩
    · rw [cnt] at hh
      cases hp : P N
      · rw [hp] at hh; simp at hh; omega
      · rw [hp] at hh; simp at hh
        exact ⟨N, by omega, hp, by omega⟩
theorem cnt_lt_iff {P : Nat → Bool} {a k : Nat} (ha : P a = true) : a < k ↔ cnt P a < cnt P k := by
  constructor
  · intro h
    have h1 := cnt_bound P (show a + 1 ≤ k by omega)
    rw [cnt, ha] at h1; simp at h1; omega
  · intro h
    rcases Nat.lt_or_ge a k with h1 | h1
    · exact h1
    · have := cnt_bound P h1; omega
/-- Where 'take' stands: u is the power of two up to which the place is known. -/
structure TakeRel (N a : Nat) (P : Nat → Bool) (p0 : List Int) (m at_ : Nat) (ahead : Int) (p : List Int) : Prop where
  len : p.length = N + 1
  aN : a < N
  pl : at_ = a / 2 ^ m * 2 ^ m
  ah : ahead + cnt P at_ = cnt P a
  eq : ∀ j, 1 ≤ j → j ≤ N → nth p j = nth p0 j - (if cov a j ∧ 2 ^ m ≤ low j then 1 else 0)
theorem TakeRel.zero {N a m : Nat} {P : Nat → Bool} {p : List Int} (hs : Sums N P p) (ha : a < N) (hm : N < 2 ^ m) : TakeRel N a P p m 0 (cnt P a) p := by
  refine ⟨hs.len, ha, by rw [Nat.div_eq_of_lt (by omega)]; simp, by simp [cnt], fun j h1 h2 => ?_⟩
  have := low_le j
  rw [if_neg (fun hh => by have := hh.2; omega)]; omega
section
variable {N a m at_ : Nat} {P : Nat → Bool} {p0 p : List Int} {ahead : Int}
theorem TakeRel.le (h : TakeRel N a P p0 m at_ ahead p) : at_ ≤ a ∧ a < at_ + 2 ^ m := by
  rw [h.pl]
  have h1 := Nat.div_mul_le_self a (2 ^ m)
  have h2 := Nat.lt_div_mul_add (a := a) (b := 2 ^ m) (Nat.pow_pos (by decide))
  omega
theorem TakeRel.low (h : TakeRel N a P p0 (m + 1) at_ ahead p) : Fen.low (at_ + 2 ^ m) = 2 ^ m := by rw [h.pl]; exact low_next m _
/-- What stands at the next sum. -/
theorem TakeRel.sum (h : TakeRel N a P p0 (m + 1) at_ ahead p) (hs : Sums N P p0) (hn : at_ + 2 ^ m ≤ N) : nth p (at_ + 2 ^ m) + cnt P at_ = cnt P (at_ + 2 ^ m) := by
  have hp : 0 < 2 ^ m := Nat.pow_pos (by decide)
  have h1 := hs.sum (at_ + 2 ^ m) (by omega) hn
  have h2 := h.eq (at_ + 2 ^ m) (by omega) hn
  rw [h.low] at h1
  have e2 : 2 ^ (m + 1) = 2 * 2 ^ m := by rw [Nat.pow_succ]; omega
  rw [if_neg (fun hh => by have := hh.2; rw [h.low] at this; omega)] at h2
  rw [Nat.add_sub_cancel] at h1
  omega
/-- .. and which sums of that size count the place. -/
theorem TakeRel.one (h : TakeRel N a P p0 (m + 1) at_ ahead p) {j : Nat} (hc : cov a j) (hl : 2 ^ m ≤ Fen.low j) : 2 ^ (m + 1) ≤ Fen.low j ∨ j = at_ + 2 ^ m := by
  have hj : 0 < j := by have := hc.2; omega
  obtain ⟨e, he⟩ := low_pow hj
  rw [he] at hl ⊢
  have hle : m ≤ e := (Nat.pow_le_pow_iff_right (by decide : 1 < 2)).1 hl
  by_cases e2 : e = m
  · subst e2
    right
    rw [h.pl]
    exact low_at he hj hc.1 hc.2
  · left; exact (Nat.pow_le_pow_iff_right (by decide : 1 < 2)).2 (by omega)
theorem half_at {a m x : Nat} (h1 : x ≤ a) (h2 : a < x + 2 ^ m) (hx : ∃ q, x = q * 2 ^ m) : x = a / 2 ^ m * 2 ^ m := by
  obtain ⟨q, rfl⟩ := hx
  have : a / 2 ^ m = q := by
    apply Nat.div_eq_of_lt_le
    · omega
    · rw [Nat.succ_mul]; omega
  rw [this]
theorem TakeRel.mul (h : TakeRel N a P p0 (m + 1) at_ ahead p) : ∃ q, at_ = q * 2 ^ m := ⟨a / 2 ^ (m + 1) * 2, by rw [h.pl, Nat.mul_assoc, Nat.pow_succ, Nat.mul_comm (2 ^ m) 2]⟩
theorem TakeRel.eqs (h : TakeRel N a P p0 (m + 1) at_ ahead p) {j : Nat} (hj : j ≠ at_ + 2 ^ m ∨ ¬ cov a j) (h1 : 1 ≤ j) (h2 : j ≤ N) : nth p j = nth p0 j - (if cov a j ∧ 2 ^ m ≤ Fen.low j then 1 else 0) := by
  rw [h.eq j h1 h2]
  have e2 : 2 ^ (m + 1) = 2 * 2 ^ m := by rw [Nat.pow_succ]; omega
  by_cases hc : cov a j
  · by_cases hl : 2 ^ m ≤ Fen.low j
    · rcases h.one hc hl with h3 | h3
      · rw [if_pos ⟨hc, h3⟩, if_pos ⟨hc, hl⟩]
      · rcases hj with hj | hj
        · exact absurd h3 hj
        · exact absurd hc hj
    · rw [if_neg (fun hh => by have := hh.2; omega), if_neg (fun hh => hl hh.2)]
  · rw [if_neg (fun hh => hc hh.1), if_neg (fun hh => hc hh.1)]
theorem TakeRel.far (h : TakeRel N a P p0 (m + 1) at_ ahead p) (hn : ¬ at_ + 2 ^ m ≤ N) : TakeRel N a P p0 m at_ ahead p := by
  have hle := h.le
  have ha := h.aN
  exact ⟨h.len, ha, half_at hle.1 (by omega) h.mul, h.ah, fun j h1 h2 => h.eqs (.inl (by omega)) h1 h2⟩
theorem TakeRel.go (h : TakeRel N a P p0 (m + 1) at_ ahead p) (hs : Sums N P p0) (hP : P a = true) (hn : at_ + 2 ^ m ≤ N) (hc : nth p (at_ + 2 ^ m) ≤ ahead) : TakeRel N a P p0 m (at_ + 2 ^ m) (ahead - nth p (at_ + 2 ^ m)) p := by
  have hle := h.le
  have hsum := h.sum hs hn
  have hah := h.ah
  have e2 : 2 ^ (m + 1) = 2 * 2 ^ m := by rw [Nat.pow_succ]; omega
  have hge : at_ + 2 ^ m ≤ a := by
    rcases Nat.lt_or_ge a (at_ + 2 ^ m) with h1 | h1
    · have := (cnt_lt_iff hP).1 h1; omega
    · exact h1
  obtain ⟨q, hq⟩ := h.mul
  refine ⟨h.len, h.aN, half_at hge (by omega) ⟨q + 1, by rw [hq, Nat.succ_mul]⟩, by omega, fun j h1 h2 => h.eqs ?_ h1 h2⟩
  by_cases e : j = at_ + 2 ^ m
  · right; intro hh; have := hh.2; omega
  · exact .inl e
theorem TakeRel.stay (h : TakeRel N a P p0 (m + 1) at_ ahead p) (hs : Sums N P p0) (hP : P a = true) (hn : at_ + 2 ^ m ≤ N) (hc : ¬ nth p (at_ + 2 ^ m) ≤ ahead) : TakeRel N a P p0 m at_ ahead (p.set (at_ + 2 ^ m) (nth p (at_ + 2 ^ m) - 1)) := by
  have hle := h.le
  have hsum := h.sum hs hn
  have hah := h.ah
  have hlen := h.len
  have hp : 0 < 2 ^ m := Nat.pow_pos (by decide)
  have e2 : 2 ^ (m + 1) = 2 * 2 ^ m := by rw [Nat.pow_succ]; omega
  have hlt : a < at_ + 2 ^ m := (cnt_lt_iff hP).2 (by omega)
  refine ⟨by simpa using hlen, h.aN, half_at hle.1 hlt h.mul, hah, fun j h1 h2 => ?_⟩
  rw [nth_set _ _ _ _ (by omega)]
  by_cases e : j = at_ + 2 ^ m
  · subst e
    have h3 := h.eq _ h1 h2
    rw [if_neg (fun hh => by have := hh.2; rw [h.low] at this; omega)] at h3
    rw [if_pos rfl, if_pos ⟨⟨by rw [h.low]; omega, hlt⟩, by rw [h.low]; omega⟩]; omega
  · rw [if_neg e]; exact h.eqs (.inl e) h1 h2
theorem TakeRel.done (h : TakeRel N a P p0 0 at_ ahead p) (hs : Sums N P p0) (hP : P a = true) : at_ = a ∧ Sums N (del P a) p := by
  refine ⟨by rw [h.pl]; simp, h.len, fun j h1 h2 => ?_⟩
  have h3 := hs.sum j h1 h2
  have hm := fun k => cnt_more (P := del P a) (Q := P) (del_at P a) hP (fun i hi => (del_ne hi).symm) k
  rw [hm, hm] at h3
  rw [h.eq j h1 h2]
  have hp := low_pos (show 0 < j by omega)
  have hl := low_le j
  simp only [Nat.pow_zero]
  by_cases hc : cov a j
  · obtain ⟨h4, h5⟩ := hc
    rw [if_pos ⟨⟨h4, h5⟩, hp⟩]
    rw [if_pos h5, if_neg (by omega)] at h3; omega
  · rw [if_neg (fun hh => hc hh.1)]
    by_cases h4 : a < j
    · have h5 : a < j - Fen.low j := by
        rcases Nat.lt_or_ge a (j - Fen.low j) with h | h
        · exact h
        · exact absurd ⟨h, h4⟩ hc
      rw [if_pos h4, if_pos h5] at h3; omega
    · rw [if_neg h4, if_neg (by omega)] at h3; omega
end
/-- The bits of small numbers. -/
theorem bits_low_all : ∀ i j : Fin 64, bits .and .i64 ((64 * i.val + j.val : Nat) : Int) (-((64 * i.val + j.val : Nat) : Int)) = lowF 12 (64 * i.val + j.val) ∧ bits .and .i64 ((64 * i.val + j.val : Nat) : Int) (((64 * i.val + j.val : Nat) : Int) - 1) = ((64 * i.val + j.val : Nat) : Int) - lowF 12 (64 * i.val + j.val) ∨ 64 * i.val + j.val = 0 := by decide +kernel
theorem bits_low {k : Nat} (h0 : 0 < k) (h : k < 4096) : bits .and .i64 (k : Int) (-(k : Int)) = low k ∧ bits .and .i64 (k : Int) ((k : Int) - 1) = ((k - low k : Nat) : Int) := by
  have h1 := bits_low_all ⟨k / 64, by omega⟩ ⟨k % 64, by omega⟩
  simp only [Nat.div_add_mod] at h1
  have h2 := low_fuel 12 k h0 (by omega)
  have h3 := low_le k
  rw [← h2] at h1
  rcases h1 with h1 | h1
  · exact ⟨h1.1, by rw [h1.2]; omega⟩
  · omega
theorem bits_zero : bits .and .i64 0 (-0) = 0 := by decide +kernel
end Fen
end Go.Proofs.Ytemgbmacdpnepaa
