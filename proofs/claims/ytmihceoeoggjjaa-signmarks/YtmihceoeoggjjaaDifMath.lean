/-
  Plain facts on layer 11: the rows of first bytes, trail bytes and their worths, a difference's bytes and their order, which differences begin so. No Go text is named here; no condition.
-/
import Derived.Test.YtmihceoeoggjjaaBasMath
namespace Go.Proofs.Ytmihceoeoggjjaa.Dif
open Bas
set_option linter.unusedVariables false

/-- The rows of first bytes: the first one, the last one, how many trail bytes, the least difference. -/
def fromI (i : Nat) : Int := if i = 0 then 33 else if i = 1 then 34 else if i = 2 then 37 else if i = 3 then 80 else if i = 4 then 208 else if i = 5 then 251 else 254
def toI (i : Nat) : Int := if i = 0 then 33 else if i = 1 then 36 else if i = 2 then 79 else if i = 3 then 207 else if i = 4 then 250 else if i = 5 then 253 else 254
def trN (i : Nat) : Nat := if i = 0 then 3 else if i = 1 then 2 else if i = 2 then 1 else if i = 3 then 0 else if i = 4 then 1 else if i = 5 then 2 else 3
def leastI (i : Nat) : Int := if i = 0 then -14536567 else if i = 1 then -187660 else if i = 2 then -10513 else if i = 3 then -64 else if i = 4 then 64 else if i = 5 then 10513 else 187660
theorem trN_le (i : Nat) : trN i ≤ 3 := by unfold trN; repeat' split
                                           all_goals omega
/-- The row that a difference is of. -/
def rowD (d : Int) : Nat := if 187660 ≤ d then 6 else if 10513 ≤ d then 5 else if 64 ≤ d then 4 else if -64 ≤ d then 3 else if -10513 ≤ d then 2 else if -187660 ≤ d then 1 else 0
theorem rowD_iff (d : Int) : (rowD d = 0 ↔ d < -187660) ∧ (rowD d = 1 ↔ -187660 ≤ d ∧ d < -10513) ∧ (rowD d = 2 ↔ -10513 ≤ d ∧ d < -64) ∧ (rowD d = 3 ↔ -64 ≤ d ∧ d < 64) ∧ (rowD d = 4 ↔ 64 ≤ d ∧ d < 10513) ∧ (rowD d = 5 ↔ 10513 ≤ d ∧ d < 187660) ∧ (rowD d = 6 ↔ 187660 ≤ d) := by
  unfold rowD; repeat' split
  all_goals omega
theorem rowD_le (d : Int) : rowD d ≤ 6 := by
  unfold rowD; repeat' split
  all_goals omega
/-- The row that a first byte is of; -1: of none. -/
def rowW (b : Int) : Int := if b = 33 then 0 else if 34 ≤ b ∧ b ≤ 36 then 1 else if 37 ≤ b ∧ b ≤ 79 then 2 else if 80 ≤ b ∧ b ≤ 207 then 3 else if 208 ≤ b ∧ b ≤ 250 then 4 else if 251 ≤ b ∧ b ≤ 253 then 5 else if b = 254 then 6 else -1
/-- The document's least difference and count of trail bytes of a first byte; -1: it is none. -/
def lbI (b : Int) : Int := if b = 33 then -14536567 else if 34 ≤ b ∧ b ≤ 36 then -187660 + 59049 * (b - 34) else if 37 ≤ b ∧ b ≤ 79 then -10513 + 243 * (b - 37) else if 80 ≤ b ∧ b ≤ 207 then -64 + b - 80 else if 208 ≤ b ∧ b ≤ 250 then 64 + 243 * (b - 208) else if 251 ≤ b ∧ b ≤ 253 then 10513 + 59049 * (b - 251) else if b = 254 then 187660 else 0
def ltI (b : Int) : Int := if b = 33 then 3 else if 34 ≤ b ∧ b ≤ 36 then 2 else if 37 ≤ b ∧ b ≤ 79 then 1 else if 80 ≤ b ∧ b ≤ 207 then 0 else if 208 ≤ b ∧ b ≤ 250 then 1 else if 251 ≤ b ∧ b ≤ 253 then 2 else if b = 254 then 3 else -1
/-- Powers of 243. -/
def p243 : Nat → Nat
  | 0 => 1
  | n + 1 => 243 * p243 n
theorem p243_pos (n : Nat) : 0 < p243 n := by
  induction n with
  | zero => decide
  | succ n ih => unfold p243; omega
theorem p243_0 : p243 0 = 1 := rfl
theorem p243_1 : p243 1 = 243 := rfl
theorem p243_2 : p243 2 = 59049 := rfl
theorem p243_3 : p243 3 = 14348907 := rfl
theorem p243_le {n : Nat} (h : n ≤ 3) : p243 n ≤ 14348907 := by
  have : n = 0 ∨ n = 1 ∨ n = 2 ∨ n = 3 := by omega
  rcases this with rfl | rfl | rfl | rfl <;> decide
theorem p243_succ (n : Nat) : p243 (n + 1) = 243 * p243 n := rfl
theorem p243_half (n : Nat) : p243 (n + 1) / 243 = p243 n := by rw [p243_succ]; omega
/-- The byte that is worth so much, and what a byte is worth; -1: nothing. -/
def trB (v : Nat) : Int := if v < 6 then (v : Int) + 1 else if v < 16 then (v : Int) + 10 else if v < 20 then (v : Int) + 12 else (v : Int) + 13
def wor (b : Int) : Int := if 1 ≤ b ∧ b ≤ 6 then b - 1 else if 16 ≤ b ∧ b ≤ 25 then b - 10 else if 28 ≤ b ∧ b ≤ 31 then b - 12 else if 33 ≤ b ∧ b ≤ 255 then b - 13 else -1
theorem trB_rng {v : Nat} (h : v < 243) : 1 ≤ trB v ∧ trB v ≤ 255 := by
  unfold trB; repeat' split
  all_goals omega
theorem trB_lt {v w : Nat} (h : v < w) : trB v < trB w := by
  unfold trB; repeat' split
  all_goals omega
theorem wor_trB {v : Nat} (h : v < 243) : wor (trB v) = (v : Int) := by
  unfold wor trB; repeat' split
  all_goals omega
theorem wor_rng (b : Int) : -1 ≤ wor b ∧ wor b ≤ 242 := by
  unfold wor; repeat' split
  all_goals omega
theorem trB_wor {b : Int} (h : 0 ≤ wor b) : trB (wor b).toNat = b := by
  unfold wor at h ⊢; unfold trB; repeat' split at h
  all_goals repeat' split
  all_goals omega
/-- The last n digits of a number to the base 243, as trail bytes, the highest first. -/
def digs : Nat → Nat → List Int
  | 0, _ => []
  | n + 1, a => trB (a % p243 (n + 1) / p243 n) :: digs n (a % p243 (n + 1))
theorem digs_len (n a : Nat) : (digs n a).length = n := by
  induction n generalizing a with
  | zero => rfl
  | succ n ih => simp [digs, ih]
theorem digs_mod (n a : Nat) : digs n (a % p243 n) = digs n a := by
  cases n with
  | zero => rfl
  | succ n => simp only [digs, Nat.mod_mod]
theorem dig_lt (n a : Nat) : a % p243 (n + 1) / p243 n < 243 := by
  have h := Nat.mod_lt a (p243_pos (n + 1))
  rw [p243_succ] at h ⊢
  rw [Nat.div_lt_iff_lt_mul (p243_pos n)]
  exact h
theorem dig_up (n a : Nat) : a % p243 (n + 1) / p243 n = a / p243 n % 243 := by
  rw [p243_succ, Nat.mul_comm, Nat.mod_mul_right_div_self]
theorem mod_up (n a : Nat) : a % p243 (n + 1) % p243 n = a % p243 n := by
  rw [p243_succ, Nat.mul_comm, Nat.mod_mul_right_mod]
theorem digs_up (n a : Nat) : digs (n + 1) a = trB (a / p243 n % 243) :: digs n a := by
  simp only [digs]
  rw [dig_up, ← digs_mod n (a % p243 (n + 1)), mod_up, digs_mod]
theorem digs_byte (n a : Nat) : ∀ x ∈ digs n a, 0 ≤ wor x ∧ 1 ≤ x ∧ x ≤ 255 := by
  induction n generalizing a with
  | zero => intro x hx; simp [digs] at hx
  | succ n ih =>
    intro x hx
    simp only [digs, List.mem_cons] at hx
    rcases hx with rfl | hx
    · have h := dig_lt n a
      have h2 := trB_rng h
      rw [wor_trB h]
      exact ⟨Int.natCast_nonneg _, h2⟩
    · exact ih _ x hx
/-- Two lists part at some place, where the first one has the lesser number. -/
def Parts (l m : List Int) : Prop := ∃ p x y r s, l = p ++ x :: r ∧ m = p ++ y :: s ∧ x < y
theorem Parts.cons {l m : List Int} (h : Parts l m) (a : Int) : Parts (a :: l) (a :: m) := by
  obtain ⟨p, x, y, r, s, rfl, rfl, hxy⟩ := h
  exact ⟨a :: p, x, y, r, s, rfl, rfl, hxy⟩
theorem digs_parts (n a b : Nat) (h : a < b) (hb : b < p243 n) : Parts (digs n a) (digs n b) := by
  induction n generalizing a b with
  | zero => unfold p243 at hb; omega
  | succ n ih =>
    rw [digs_up, digs_up]
    have ha' : a / p243 n < 243 := by rw [Nat.div_lt_iff_lt_mul (p243_pos n)]; rw [p243_succ] at hb; omega
    have hb' : b / p243 n < 243 := by rw [Nat.div_lt_iff_lt_mul (p243_pos n)]; rw [p243_succ] at hb; omega
    rw [Nat.mod_eq_of_lt ha', Nat.mod_eq_of_lt hb']
    have hle : a / p243 n ≤ b / p243 n := Nat.div_le_div_right (by omega)
    by_cases he : a / p243 n = b / p243 n
    · rw [he]
      refine Parts.cons ?_ _
      rw [← digs_mod n a, ← digs_mod n b]
      refine ih _ _ ?_ (Nat.mod_lt _ (p243_pos n))
      have h1 := Nat.div_add_mod a (p243 n)
      have h2 := Nat.div_add_mod b (p243 n)
      rw [he] at h1
      omega
    · exact ⟨[], _, _, _, _, rfl, rfl, trB_lt (by omega)⟩
/-- A difference above its row's least one. -/
def abv (d : Int) : Nat := (d - leastI (rowD d)).toNat
/-- The first byte of a difference. -/
def firstB (d : Int) : Int := fromI (rowD d) + ((abv d / p243 (trN (rowD d)) : Nat) : Int)
/-- A difference's bytes. -/
def packL (d : Int) : List Int := firstB d :: digs (trN (rowD d)) (abv d)
/-- Is it a difference that has bytes? -/
def inR (d : Int) : Prop := -1114111 ≤ d ∧ d ≤ 1114111
/-- What is known of a difference, row by row. -/
theorem rows_of {d : Int} (h : inR d) :
    (rowD d = 0 ∧ abv d = (d + 14536567).toNat ∧ trN (rowD d) = 3 ∧ firstB d = 33 ∧ d < -187660) ∨
    (rowD d = 1 ∧ abv d = (d + 187660).toNat ∧ trN (rowD d) = 2 ∧ firstB d = 34 + (d + 187660) / 59049 ∧ -187660 ≤ d ∧ d < -10513) ∨
    (rowD d = 2 ∧ abv d = (d + 10513).toNat ∧ trN (rowD d) = 1 ∧ firstB d = 37 + (d + 10513) / 243 ∧ -10513 ≤ d ∧ d < -64) ∨
    (rowD d = 3 ∧ abv d = (d + 64).toNat ∧ trN (rowD d) = 0 ∧ firstB d = 80 + (d + 64) ∧ -64 ≤ d ∧ d < 64) ∨
    (rowD d = 4 ∧ abv d = (d - 64).toNat ∧ trN (rowD d) = 1 ∧ firstB d = 208 + (d - 64) / 243 ∧ 64 ≤ d ∧ d < 10513) ∨
    (rowD d = 5 ∧ abv d = (d - 10513).toNat ∧ trN (rowD d) = 2 ∧ firstB d = 251 + (d - 10513) / 59049 ∧ 10513 ≤ d ∧ d < 187660) ∨
    (rowD d = 6 ∧ abv d = (d - 187660).toNat ∧ trN (rowD d) = 3 ∧ firstB d = 254 ∧ 187660 ≤ d) := by
  have hi := rowD_iff d
  have hle := rowD_le d
  have hcs : rowD d = 0 ∨ rowD d = 1 ∨ rowD d = 2 ∨ rowD d = 3 ∨ rowD d = 4 ∨ rowD d = 5 ∨ rowD d = 6 := by omega
  unfold firstB abv
  unfold inR at h
  rcases hcs with e | e | e | e | e | e | e
  · refine .inl ⟨e, ?_⟩; rw [e] at hi ⊢; simp only [leastI, trN, fromI, p243_3, if_pos]; simp; omega
  · refine .inr (.inl ⟨e, ?_⟩); rw [e] at hi ⊢; simp [leastI, trN, fromI, p243_2]; omega
  · refine .inr (.inr (.inl ⟨e, ?_⟩)); rw [e] at hi ⊢; simp [leastI, trN, fromI, p243_1]; omega
  · refine .inr (.inr (.inr (.inl ⟨e, ?_⟩))); rw [e] at hi ⊢; simp [leastI, trN, fromI, p243_0]; omega
  · refine .inr (.inr (.inr (.inr (.inl ⟨e, ?_⟩)))); rw [e] at hi ⊢; simp [leastI, trN, fromI, p243_1]; omega
  · refine .inr (.inr (.inr (.inr (.inr (.inl ⟨e, ?_⟩))))); rw [e] at hi ⊢; simp [leastI, trN, fromI, p243_2]; omega
  · refine .inr (.inr (.inr (.inr (.inr (.inr ⟨e, ?_⟩))))); rw [e] at hi ⊢; simp [leastI, trN, fromI, p243_3]; omega
theorem abv_eq {d : Int} (h : inR d) : ((abv d : Nat) : Int) = d - leastI (rowD d) := by
  have hh := rows_of h
  unfold inR at h
  rcases hh with ⟨r, a, -, -, hh⟩ | ⟨r, a, -, -, hh⟩ | ⟨r, a, -, -, hh⟩ | ⟨r, a, -, -, hh⟩ | ⟨r, a, -, -, hh⟩ | ⟨r, a, -, -, hh⟩ | ⟨r, a, -, -, hh⟩ <;> rw [r, a] <;> simp only [leastI] <;> simp <;> omega
theorem abv_le {d : Int} (h : inR d) : abv d ≤ 14348906 := by
  have hh := rows_of h
  unfold inR at h
  rcases hh with ⟨-, a, -, -, hh⟩ | ⟨-, a, -, -, hh⟩ | ⟨-, a, -, -, hh⟩ | ⟨-, a, -, -, hh⟩ | ⟨-, a, -, -, hh⟩ | ⟨-, a, -, -, hh⟩ | ⟨-, a, -, -, hh⟩ <;> omega
theorem first_rng {d : Int} (h : inR d) : 33 ≤ firstB d ∧ firstB d ≤ 254 := by
  rcases rows_of h with ⟨-, -, -, e, hh⟩ | ⟨-, -, -, e, hh⟩ | ⟨-, -, -, e, hh⟩ | ⟨-, -, -, e, hh⟩ | ⟨-, -, -, e, hh⟩ | ⟨-, -, -, e, hh⟩ | ⟨-, -, -, e, hh⟩ <;> omega
/-- The first byte is the last one whose least difference is not above. -/
theorem first_iff {d : Int} (h : inR d) {b : Int} (h1 : 34 ≤ b) (h2 : b ≤ 254) : lbI b ≤ d ↔ b ≤ firstB d := by
  unfold inR at h
  rcases rows_of h with ⟨-, -, -, e, hh⟩ | ⟨-, -, -, e, hh⟩ | ⟨-, -, -, e, hh⟩ | ⟨-, -, -, e, hh⟩ | ⟨-, -, -, e, hh⟩ | ⟨-, -, -, e, hh⟩ | ⟨-, -, -, e, hh⟩
  all_goals
    rw [e]
    unfold lbI; repeat' split
    all_goals omega
/-- The document's least difference of the first byte, and what is above it. -/
theorem first_least {d : Int} (h : inR d) : ltI (firstB d) = (trN (rowD d) : Int) ∧ d - lbI (firstB d) = ((abv d % p243 (trN (rowD d)) : Nat) : Int) := by
  have hr := first_rng h
  unfold inR at h
  rcases rows_of h with ⟨-, a, t, e, hh⟩ | ⟨-, a, t, e, hh⟩ | ⟨-, a, t, e, hh⟩ | ⟨-, a, t, e, hh⟩ | ⟨-, a, t, e, hh⟩ | ⟨-, a, t, e, hh⟩ | ⟨-, a, t, e, hh⟩
  all_goals
    rw [a, t]
    simp only [p243_0, p243_1, p243_2, p243_3]
    generalize firstB d = f at *
    constructor
    · unfold ltI; repeat' split
      all_goals omega
    · unfold lbI; repeat' split
      all_goals omega
theorem first_mono {a b : Int} (ha : inR a) (hb : inR b) (h : a < b) : firstB a ≤ firstB b := by
  by_cases h34 : 34 ≤ firstB a
  · have h1 := first_rng ha
    have h2 := (first_iff ha h34 h1.2).2 (Int.le_refl _)
    exact (first_iff hb h34 h1.2).1 (by omega)
  · have := first_rng hb
    omega
theorem pack_parts {a b : Int} (ha : inR a) (hb : inR b) (h : a < b) : Parts (packL a) (packL b) := by
  have hm := first_mono ha hb h
  unfold packL
  by_cases he : firstB a = firstB b
  · have h1 := first_least ha
    have h2 := first_least hb
    rw [he] at h1 ⊢
    have ht : trN (rowD a) = trN (rowD b) := by have := h1.1.symm.trans h2.1; omega
    refine Parts.cons ?_ _
    rw [← digs_mod _ (abv a), ← digs_mod _ (abv b), ht]
    rw [ht] at h1
    exact digs_parts _ _ _ (by omega) (Nat.mod_lt _ (p243_pos _))
  · exact ⟨[], _, _, _, _, rfl, rfl, by omega⟩
theorem pack_len (d : Int) : (packL d).length = trN (rowD d) + 1 := by unfold packL; simp [digs_len]
theorem pack_byte {d : Int} (h : inR d) : ∀ x ∈ packL d, 0 ≤ x ∧ x < 256 ∧ (33 ≤ x ∨ 0 ≤ wor x) := by
  intro x hx
  simp only [packL, List.mem_cons] at hx
  rcases hx with rfl | hx
  · have := first_rng h; omega
  · have := digs_byte _ _ x hx; omega
/-- The span of differences that begin with lo's first bytes and some more trail bytes; none: no trail byte, or too many. -/
def rngF : Nat → Int → List Int → Option (Int × Int)
  | n, lo, [] => some (lo, lo + (p243 n : Int) - 1)
  | 0, _, _ :: _ => none
  | n + 1, lo, b :: r => if wor b < 0 then none else rngF n (lo + wor b * (p243 n : Int)) r
theorem rngF_nil (n : Nat) (lo : Int) : rngF n lo [] = some (lo, lo + (p243 n : Int) - 1) := by cases n <;> rfl
theorem rngF_none {n : Nat} {lo b : Int} {r : List Int} (h : wor b < 0) : rngF n lo (b :: r) = none := by
  cases n with
  | zero => rfl
  | succ n => simp only [rngF]; rw [if_pos h]
theorem rngF_more {n : Nat} {lo b : Int} {r : List Int} (h : ¬ wor b < 0) : rngF (n + 1) lo (b :: r) = rngF n (lo + wor b * (p243 n : Int)) r := by
  simp only [rngF]; rw [if_neg h]
theorem rngF_long (l : List Int) : ∀ (n : Nat) (lo : Int), n < l.length → rngF n lo l = none := by
  induction l with
  | nil => intro n lo h; simp at h
  | cons b r ih =>
    intro n lo h
    cases n with
    | zero => rfl
    | succ n =>
      simp only [rngF]
      split
      · rfl
      · exact ih n _ (by simpa using h)
/-- Which differences begin so, and how many bytes they have. -/
def rngL : List Int → Option (Int × Int × Nat)
  | [] => none
  | b :: r => if ltI b < 0 then none else (rngF (ltI b).toNat (lbI b) r).map fun x => (x.1, x.2, (ltI b).toNat + 1)
/-- Digits, and their beginnings, begin the number. -/
theorem rng_digs (n a k : Nat) (lo : Int) (ha : a < p243 n) (hk : k ≤ n) : ∃ x y, rngF n lo ((digs n a).take k) = some (x, y) ∧ x ≤ lo + a ∧ lo + a ≤ y ∧ (k = n → x = lo + a ∧ y = lo + a) := by
  induction n generalizing a k lo with
  | zero =>
    obtain rfl : k = 0 := by omega
    unfold p243 at ha
    refine ⟨_, _, rngF_nil _ _, by omega, ?_, fun _ => ?_⟩ <;> rw [p243_0] <;> omega
  | succ n ih =>
    cases k with
    | zero =>
      refine ⟨_, _, rngF_nil _ _, by omega, by omega, fun h => by omega⟩
    | succ k =>
      rw [digs_up, List.take_succ_cons]
      have hq : a / p243 n < 243 := by rw [Nat.div_lt_iff_lt_mul (p243_pos n)]; rw [p243_succ] at ha; omega
      rw [Nat.mod_eq_of_lt hq, rngF_more (by rw [wor_trB hq]; exact Int.not_lt.2 (Int.natCast_nonneg _)), wor_trB hq, ← digs_mod n a]
      obtain ⟨x, y, h1, h2, h3, h4⟩ := ih (a % p243 n) k (lo + ((a / p243 n : Nat) : Int) * (p243 n : Int)) (Nat.mod_lt _ (p243_pos n)) (by omega)
      have hs : ((a / p243 n : Nat) : Int) * (p243 n : Int) + ((a % p243 n : Nat) : Int) = (a : Int) := by
        have := Nat.div_add_mod a (p243 n)
        rw [Nat.mul_comm] at this
        rw [← Int.natCast_mul, ← Int.natCast_add, this]
      refine ⟨x, y, h1, by omega, by omega, fun h => ?_⟩
      have := h4 (by omega)
      omega
/-- A difference's bytes begin it alone; each beginning of them a span in which it lies. -/
theorem rng_pack {d : Int} (h : inR d) (k : Nat) (hk : 1 ≤ k) (hk2 : k ≤ (packL d).length) : ∃ x y, rngL ((packL d).take k) = some (x, y, (packL d).length) ∧ x ≤ d ∧ d ≤ y ∧ (k = (packL d).length → x = d ∧ y = d) := by
  obtain ⟨j, rfl⟩ : ∃ j, k = j + 1 := ⟨k - 1, by omega⟩
  rw [pack_len] at hk2 ⊢
  unfold packL
  obtain ⟨h1, h2⟩ := first_least h
  obtain ⟨x, y, e, h3, h4, h5⟩ := rng_digs (trN (rowD d)) (abv d % p243 (trN (rowD d))) j (lbI (firstB d)) (Nat.mod_lt _ (p243_pos _)) (by omega)
  rw [digs_mod] at e
  rw [List.take_succ_cons]
  simp only [rngL]
  rw [if_neg (by omega), h1, Int.toNat_natCast, e]
  exact ⟨x, y, rfl, by omega, by omega, fun hh => by have := h5 (by omega); omega⟩
/-- The document's words for what the next one is held against. -/
def prevI (c : Int) : Int := if 12352 ≤ c ∧ c ≤ 12447 then 12400 else if 19968 ≤ c ∧ c ≤ 40869 then 30481 else if 44032 ≤ c ∧ c ≤ 55203 then 49617 else c / 128 * 128 + 64
/-- The trail bytes below b, in their order. -/
def isT (b : Nat) : Bool := decide (b ≤ 6) || (decide (16 ≤ b) && decide (b ≤ 25)) || (decide (28 ≤ b) && decide (b ≤ 31)) || decide (33 ≤ b)
def tlL : Nat → List Int
  | 0 => []
  | b + 1 => if b = 0 then [] else if isT b = true then tlL b ++ [(b : Int)] else tlL b
theorem tlL_one : tlL 1 = [] := rfl
theorem tlL_yes {b : Nat} (h0 : 1 ≤ b) (h : isT b = true) : tlL (b + 1) = tlL b ++ [(b : Int)] := by
  simp only [tlL]; rw [if_neg (by omega), if_pos h]
theorem tlL_no {b : Nat} (h0 : 1 ≤ b) (h : isT b = false) : tlL (b + 1) = tlL b := by
  simp only [tlL]; rw [if_neg (by omega), if_neg (by simp [h])]
theorem tlL_len_le (b : Nat) : (tlL b).length ≤ b := by
  induction b with
  | zero => simp [tlL]
  | succ b ih =>
    simp only [tlL]; split
    · simp
    · split
      · simp; omega
      · omega
/-- All trail bytes, in their order. -/
def allT : List Int := tlL 256
theorem allT_len : allT.length = 243 := by decide +kernel
theorem allT_nth_b : ∀ v : Fin 243, nth allT v.val = trB v.val := by decide +kernel
theorem allT_nth {v : Nat} (h : v < 243) : nth allT v = trB v := allT_nth_b ⟨v, h⟩
theorem hit_wor {b : Int} {v : Nat} (h : v < 243) (he : trB v = b) : wor b = (v : Int) := by rw [← he]; exact wor_trB h
theorem miss_wor {b : Int} (h : ∀ v : Nat, v < 243 → trB v ≠ b) : wor b = -1 := by
  have hr := wor_rng b
  by_cases h0 : 0 ≤ wor b
  · exact absurd (trB_wor h0) (h _ (by omega))
  · omega
end Go.Proofs.Ytmihceoeoggjjaa.Dif
