/-
  Plain functions on numbers and lists, for layer 1 (scalar): what is a scalar, a class, units, the first that is none, the order of two lists. No Go text is named here; no condition.
-/
import Derived.Test.YtpglmfhlgaliaaaDoorBasMath
namespace Go.Proofs.YtpglmfhlgaliaaaDoor.Sca
open Bas

/-- Is a number a scalar? -/
def isB (c : Int) : Bool := decide (c ≤ 1114111) && !(decide (55296 ≤ c) && decide (c ≤ 57343))

theorem isB_true {c : Int} (h : c ≤ 1114111 ∧ ¬ (55296 ≤ c ∧ c ≤ 57343)) : isB c = true := by
  unfold isB; simp; omega
theorem isB_false {c : Int} (h : ¬ (c ≤ 1114111 ∧ ¬ (55296 ≤ c ∧ c ≤ 57343))) : isB c = false := by
  unfold isB; simp; omega
theorem isB_iff {c : Int} : isB c = true ↔ c ≤ 1114111 ∧ ¬ (55296 ≤ c ∧ c ≤ 57343) := by
  unfold isB; simp; omega

/-- The class of a number. -/
def clsOf (c : Int) : Int :=
  if c ≤ 31 then 1 else if c ≤ 126 then 2 else if c ≤ 159 then 1 else if c ≤ 255 then 3 else if c ≤ 55295 then 4
  else if c ≤ 57343 then 0 else if c ≤ 63743 then 5 else if c ≤ 65535 then 4 else if c ≤ 1114111 then 6 else 0

theorem cls_spans (c : Int) : c ≤ 31 ∨ (32 ≤ c ∧ c ≤ 126) ∨ (127 ≤ c ∧ c ≤ 159) ∨ (160 ≤ c ∧ c ≤ 255) ∨ (256 ≤ c ∧ c ≤ 55295)
    ∨ (55296 ≤ c ∧ c ≤ 57343) ∨ (57344 ≤ c ∧ c ≤ 63743) ∨ (63744 ≤ c ∧ c ≤ 65535) ∨ (65536 ≤ c ∧ c ≤ 1114111) ∨ 1114112 ≤ c := by omega

theorem cls_zero (c : Int) : (clsOf c == 0) = !(isB c) := by
  unfold clsOf
  (repeat' split) <;> first | (rw [isB_true (by omega)]; decide) | (rw [isB_false (by omega)]; decide)

/-- The units of a number. -/
def uOf (c : Int) : Int := if isB c = true then (if c ≤ 65535 then 1 else 2) else 0
theorem uOf_bd (c : Int) : 0 ≤ uOf c ∧ uOf c ≤ 2 := by
  unfold uOf; split <;> (try split) <;> omega

/-- The units of a list. -/
def unitsL : List Int → Int
  | [] => 0
  | c :: r => uOf c + unitsL r
theorem unitsL_append (l m : List Int) : unitsL (l ++ m) = unitsL l + unitsL m := by
  induction l with
  | nil => simp [unitsL]
  | cons c r ih => simp [unitsL, ih]; omega
theorem unitsL_bd (l : List Int) : 0 ≤ unitsL l ∧ unitsL l ≤ 2 * l.length := by
  induction l with
  | nil => simp [unitsL]
  | cons c r ih => have := uOf_bd c; simp [unitsL]; omega
theorem unitsL_snoc (l : List Int) (k : Nat) (h : k < l.length) : unitsL (l.take (k + 1)) = unitsL (l.take k) + uOf (nth l k) := by
  rw [take_snoc l k h, unitsL_append]; simp [unitsL]
theorem unitsL_take_bd (l : List Int) (k : Nat) (h : k ≤ l.length) : 0 ≤ unitsL (l.take k) ∧ unitsL (l.take k) ≤ 2 * k := by
  have := unitsL_bd (l.take k); simp at this; omega

/-- The place of the first that is no scalar, or -1. -/
def firstAt : List Int → Int → Int
  | [], _ => -1
  | c :: r, i => if isB c = true then firstAt r (i + 1) else i
def firstL (l : List Int) : Int := firstAt l 0
theorem firstAt_found (l : List Int) (k : Nat) (i : Int) (hk : k < l.length) (h : ∀ j, j < k → isB (nth l j) = true) (hb : isB (nth l k) = false) :
    firstAt l i = i + k := by
  induction l generalizing k i with
  | nil => simp at hk
  | cons c r ih =>
    cases k with
    | zero => rw [nth_cons_zero] at hb; simp [firstAt, hb]
    | succ k =>
      have h0 := h 0 (by omega)
      rw [nth_cons_zero] at h0
      rw [nth_cons_succ] at hb
      simp at hk
      rw [firstAt, if_pos h0, ih k (i + 1) hk (fun j hj => by simpa [nth_cons_succ] using h (j + 1) (by omega)) hb]
      push_cast; omega
theorem firstAt_none (l : List Int) (i : Int) (h : ∀ j, j < l.length → isB (nth l j) = true) : firstAt l i = -1 := by
  induction l generalizing i with
  | nil => rfl
  | cons c r ih =>
    have h0 := h 0 (by simp)
    rw [nth_cons_zero] at h0
    rw [firstAt, if_pos h0, ih (i + 1) (fun j hj => by simpa [nth_cons_succ] using h (j + 1) (by simp; omega))]
theorem firstL_found (l : List Int) (k : Nat) (hk : k < l.length) (h : ∀ j, j < k → isB (nth l j) = true) (hb : isB (nth l k) = false) :
    firstL l = k := by
  unfold firstL; rw [firstAt_found l k 0 hk h hb]; omega
theorem firstL_none (l : List Int) (h : ∀ j, j < l.length → isB (nth l j) = true) : firstL l = -1 := firstAt_none l 0 h

/-- How two lists stand to each other. -/
def cmpL : List Int → List Int → Int
  | [], [] => 0
  | [], _ :: _ => -1
  | _ :: _, [] => 1
  | a :: r, b :: s => if a < b then -1 else if b < a then 1 else cmpL r s
theorem cmpL_bd (l m : List Int) : -1 ≤ cmpL l m ∧ cmpL l m ≤ 1 := by
  induction l generalizing m with
  | nil => cases m <;> simp [cmpL]
  | cons a r ih =>
    cases m with
    | nil => simp [cmpL]
    | cons b s => have := ih s; unfold cmpL; split <;> (try split) <;> omega
theorem cmpL_turn (l m : List Int) : cmpL m l = - cmpL l m := by
  induction l generalizing m with
  | nil => cases m <;> simp [cmpL]
  | cons a r ih =>
    cases m with
    | nil => simp [cmpL]
    | cons b s => have := ih s; unfold cmpL; (repeat' split) <;> omega
theorem cmpL_self (l : List Int) : cmpL l l = 0 := by
  induction l with
  | nil => rfl
  | cons a r ih => simp [cmpL, ih]
theorem cmpL_zero {l m : List Int} (h : cmpL l m = 0) : l = m := by
  induction l generalizing m with
  | nil => cases m with
    | nil => rfl
    | cons b s => simp [cmpL] at h
  | cons a r ih =>
    cases m with
    | nil => simp [cmpL] at h
    | cons b s =>
      unfold cmpL at h
      split at h
      · omega
      · split at h
        · omega
        · have := ih h; have : a = b := by omega
          simp_all
theorem cmpL_le_trans (a b c : List Int) (h1 : cmpL a b ≤ 0) (h2 : cmpL b c ≤ 0) : cmpL a c ≤ 0 ∧ (cmpL a c = 0 ↔ cmpL a b = 0 ∧ cmpL b c = 0) := by
  induction a generalizing b c with
  | nil =>
    cases c with
    | nil => cases b with
      | nil => simp [cmpL]
      | cons y s => simp [cmpL] at h2
    | cons z t => cases b with
      | nil => simp [cmpL]
      | cons y s => simp [cmpL]
  | cons x r ih =>
    cases b with
    | nil => simp [cmpL] at h1
    | cons y s =>
      cases c with
      | nil => simp [cmpL] at h2
      | cons z t =>
        have i := ih s t
        have d1 := cmpL_bd r s
        have d2 := cmpL_bd s t
        unfold cmpL at h1 h2 ⊢
        by_cases c1 : x < y
        · by_cases c2 : y < z
          · have c3 : x < z := by omega
            simp [c1, c2, c3]
          · by_cases c2' : z < y
            · simp [c2, c2'] at h2
            · have c3 : x < z := by omega
              simp [c1, c3]
        · by_cases c1' : y < x
          · simp [c1, c1'] at h1
          · have e1 : x = y := by omega
            subst e1
            by_cases c2 : x < z
            · simp [c2]
            · by_cases c2' : z < x
              · simp [c2, c2'] at h2
              · have e2 : x = z := by omega
                subst e2
                simp at h1 h2 ⊢
                exact i h1 h2
theorem cmpL_drop (l m : List Int) (k : Nat) (hl : k ≤ l.length) (hm : k ≤ m.length) (h : ∀ j, j < k → nth l j = nth m j) :
    cmpL l m = cmpL (l.drop k) (m.drop k) := by
  induction k generalizing l m with
  | zero => simp
  | succ k ih =>
    cases l with
    | nil => simp at hl
    | cons a r =>
      cases m with
      | nil => simp at hm
      | cons b s =>
        have h0 := h 0 (by omega)
        rw [nth_cons_zero, nth_cons_zero] at h0
        simp at hl hm
        subst h0
        rw [cmpL, if_neg (by omega), if_neg (by omega)]
        simpa using ih r s hl hm (fun j hj => by simpa [nth_cons_succ] using h (j + 1) (by omega))
theorem cmpL_lt (l m : List Int) (k : Nat) (hl : k < l.length) (hm : k < m.length) (h : ∀ j, j < k → nth l j = nth m j)
    (c : nth l k < nth m k) : cmpL l m = -1 := by
  rw [cmpL_drop l m k (by omega) (by omega) h, drop_at l k hl, drop_at m k hm, cmpL, if_pos c]
theorem cmpL_gt (l m : List Int) (k : Nat) (hl : k < l.length) (hm : k < m.length) (h : ∀ j, j < k → nth l j = nth m j)
    (c : nth m k < nth l k) : cmpL l m = 1 := by
  rw [cmpL_drop l m k (by omega) (by omega) h, drop_at l k hl, drop_at m k hm, cmpL, if_neg (by omega), if_pos c]
theorem cmpL_short (l m : List Int) (hl : l.length < m.length) (h : ∀ j, j < l.length → nth l j = nth m j) : cmpL l m = -1 := by
  rw [cmpL_drop l m l.length (by omega) (by omega) h, List.drop_length, drop_at m l.length hl]; rfl
theorem cmpL_long (l m : List Int) (hl : m.length < l.length) (h : ∀ j, j < m.length → nth l j = nth m j) : cmpL l m = 1 := by
  rw [cmpL_drop l m m.length (by omega) (by omega) h, List.drop_length, drop_at l m.length hl]; rfl
theorem cmpL_same (l m : List Int) (hl : m.length = l.length) (h : ∀ j, j < l.length → nth l j = nth m j) : cmpL l m = 0 := by
  rw [cmpL_drop l m l.length (by omega) (by omega) h, List.drop_length, ← hl, List.drop_length]; rfl
theorem cmpL_front (c a b : List Int) : cmpL (c ++ a) (c ++ b) = cmpL a b := by
  induction c with
  | nil => rfl
  | cons x r ih => simp [cmpL, ih]
end Go.Proofs.YtpglmfhlgaliaaaDoor.Sca
