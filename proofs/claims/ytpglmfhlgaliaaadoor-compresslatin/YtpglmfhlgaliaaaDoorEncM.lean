/-
  A machine that eats scalars and tells bytes, with room: what it tells of a list, whole or in parts. Plain facts; no Go text is named here; no condition.
-/
import Derived.Test.YtpglmfhlgaliaaaDoorScaMath
namespace Go.Proofs.YtpglmfhlgaliaaaDoor.Scn
open Bas Sca

/-- How many of some may go. -/
def frontR (room : Int) (n : Nat) : Nat := if room < 0 then 0 else if room > n then n else room.toNat
theorem frontR_le (room : Int) (n : Nat) : frontR room n ≤ n ∧ ((frontR room n : Int) ≤ room ∨ frontR room n = 0) ∧ (frontR room n = n ∨ (frontR room n : Int) = room ∨ room < 0) := by
  unfold frontR; repeat' split
  all_goals omega
/-- What came of it: what was told, how many were eaten, what is kept, was one no scalar? -/
structure ERes where
  told : List Int
  eaten : Nat
  kept : List Int
  bad : Bool
def ERes.plus (i : Nat) (x : ERes) : ERes := ⟨x.told, i + x.eaten, x.kept, x.bad⟩
theorem ERes.plus_zero (x : ERes) : x.plus 0 = x := by simp [ERes.plus]
theorem ERes.plus_plus (i j : Nat) (x : ERes) : (x.plus j).plus i = x.plus (i + j) := by simp [ERes.plus, Nat.add_assoc]
/-- A list, with what was told and is kept ahead. -/
def enc (one : Int → List Int) (room : Int) : List Int → List Int → List Int → ERes
  | told, K, [] => ⟨told, 0, K, false⟩
  | told, K, c :: r => if K = [] then
      if isB c = true then (enc one room (told ++ (one c).take (frontR (room - told.length) (one c).length)) ((one c).drop (frontR (room - told.length) (one c).length)) r).plus 1
      else ⟨told, 0, K, true⟩
    else ⟨told, 0, K, false⟩
theorem enc_kept {one : Int → List Int} {room : Int} {told K : List Int} (l : List Int) (h : K ≠ []) : enc one room told K l = ⟨told, 0, K, false⟩ := by
  cases l with
  | nil => rfl
  | cons c r => simp [enc, h]
theorem enc_bad {one : Int → List Int} {room : Int} {told : List Int} {c : Int} (r : List Int) (h : isB c = false) : enc one room told [] (c :: r) = ⟨told, 0, [], true⟩ := by simp [enc, h]
theorem enc_one {one : Int → List Int} {room : Int} {told : List Int} {c : Int} (r : List Int) (h : isB c = true) :
    enc one room told [] (c :: r) = (enc one room (told ++ (one c).take (frontR (room - told.length) (one c).length)) ((one c).drop (frontR (room - told.length) (one c).length)) r).plus 1 := by simp [enc, h]
/-- The bytes of the scalars ahead of the first that is none. -/
def allOf (one : Int → List Int) : List Int → List Int
  | [] => []
  | c :: r => if isB c = true then one c ++ allOf one r else []
/-- How many they are. -/
def okLen : List Int → Nat
  | [] => 0
  | c :: r => if isB c = true then okLen r + 1 else 0
theorem okLen_le (l : List Int) : okLen l ≤ l.length := by
  induction l with
  | nil => simp [okLen]
  | cons c r ih => unfold okLen; split <;> simp; omega
/-- Nothing is lost, nothing comes twice, whatever the parts. -/
theorem enc_total (one : Int → List Int) (room : Int) (L : List Int) (told K : List Int) (k : Nat) :
    (enc one room told K (L.take k)).told ++ (enc one room told K (L.take k)).kept ++ allOf one (L.drop (enc one room told K (L.take k)).eaten) = told ++ K ++ allOf one L ∧
    okLen L = (enc one room told K (L.take k)).eaten + okLen (L.drop (enc one room told K (L.take k)).eaten) ∧
    ((enc one room told K (L.take k)).bad = true → (enc one room told K (L.take k)).kept = [] ∧ okLen (L.drop (enc one room told K (L.take k)).eaten) = 0 ∧ allOf one (L.drop (enc one room told K (L.take k)).eaten) = [] ∧ (enc one room told K (L.take k)).eaten < L.length) := by
  induction L generalizing told K k with
  | nil => simp [enc]
  | cons c r ih =>
    cases k with
    | zero => simp [enc]
    | succ k =>
      rw [List.take_succ_cons]
      by_cases hK : K = []
      · subst hK
        by_cases hc : isB c = true
        · rw [enc_one _ hc]
          obtain ⟨h1, h2, h3⟩ := ih (told ++ (one c).take (frontR (room - told.length) (one c).length)) ((one c).drop (frontR (room - told.length) (one c).length)) k
          simp only [ERes.plus]
          rw [show ∀ n, 1 + n = n + 1 by intro n; omega, List.drop_succ_cons]
          refine ⟨?_, ?_, ?_⟩
          · rw [h1]; simp [allOf, hc]
          · simp only [okLen, hc, if_pos]; omega
          · intro hb; obtain ⟨a, b, d, e⟩ := h3 hb; exact ⟨a, b, d, by simp; omega⟩
        · have hc' : isB c = false := by simpa using hc
          rw [enc_bad _ hc']
          simp [allOf, okLen, hc']
      · rw [enc_kept _ hK]; simp
theorem enc_le (one : Int → List Int) (room : Int) (l told K : List Int) : (enc one room told K l).eaten ≤ l.length := by
  induction l generalizing told K with
  | nil => simp [enc]
  | cons c r ih =>
    by_cases hK : K = []
    · subst hK
      by_cases hc : isB c = true
      · rw [enc_one _ hc]; have := ih (told ++ (one c).take (frontR (room - told.length) (one c).length)) ((one c).drop (frontR (room - told.length) (one c).length)); simp [ERes.plus]; omega
      · rw [enc_bad _ (by simpa using hc)]; simp
    · rw [enc_kept _ hK]; simp
theorem enc_room (one : Int → List Int) (room : Int) (l told K : List Int) (h : (told.length : Int) ≤ room) : ((enc one room told K l).told.length : Int) ≤ room := by
  induction l generalizing told K with
  | nil => simpa [enc] using h
  | cons c r ih =>
    by_cases hK : K = []
    · subst hK
      by_cases hc : isB c = true
      · rw [enc_one _ hc]
        refine ih _ _ ?_
        have := frontR_le (room - told.length) (one c).length
        simp only [List.length_append, List.length_take]
        omega
      · rw [enc_bad _ (by simpa using hc)]; exact h
    · rw [enc_kept _ hK]; exact h
theorem enc_small (one : Int → List Int) (m : Nat) (hm : ∀ c, (one c).length ≤ m) (room : Int) (l told K : List Int) (h : K.length ≤ m) : (enc one room told K l).kept.length ≤ m := by
  induction l generalizing told K with
  | nil => simpa [enc] using h
  | cons c r ih =>
    by_cases hK : K = []
    · subst hK
      by_cases hc : isB c = true
      · rw [enc_one _ hc]
        refine ih _ _ ?_
        have := hm c
        simp only [List.length_drop]
        omega
      · rw [enc_bad _ (by simpa using hc)]; exact h
    · rw [enc_kept _ hK]; exact h
theorem enc_goes (one : Int → List Int) (room : Int) (l told : List Int) (h : l ≠ []) : (enc one room told [] l).bad = true ∨ 1 ≤ (enc one room told [] l).eaten := by
  cases l with
  | nil => exact absurd rfl h
  | cons c r =>
    by_cases hc : isB c = true
    · rw [enc_one _ hc]; simp [ERes.plus]
    · rw [enc_bad _ (by simpa using hc)]; simp
theorem enc_told (one : Int → List Int) (room : Int) (l told K : List Int) : told.length ≤ (enc one room told K l).told.length := by
  induction l generalizing told K with
  | nil => simp [enc]
  | cons c r ih =>
    by_cases hK : K = []
    · subst hK
      by_cases hc : isB c = true
      · rw [enc_one _ hc]
        have := ih (told ++ (one c).take (frontR (room - told.length) (one c).length)) ((one c).drop (frontR (room - told.length) (one c).length))
        simp only [ERes.plus]
        simp only [List.length_append] at this
        omega
      · rw [enc_bad _ (by simpa using hc)]; simp
    · rw [enc_kept _ hK]; simp
/-- A call: first what is kept. -/
def encF (one : Int → List Int) (room : Int) (K l : List Int) : ERes := enc one room (K.take (frontR room K.length)) (K.drop (frontR room K.length)) l
theorem allOf_le (one : Int → List Int) (m : Nat) (hm : ∀ c, (one c).length ≤ m) (l : List Int) : (allOf one l).length ≤ m * l.length := by
  induction l with
  | nil => simp [allOf]
  | cons c r ih =>
    unfold allOf
    split
    · have := hm c; simp [Nat.mul_add]; omega
    · simp
theorem okLen_drop_zero {l : List Int} (h : okLen l = 0) (hl : l ≠ []) : isB (nth l 0) = false := by
  cases l with
  | nil => exact absurd rfl hl
  | cons c r =>
    unfold okLen at h
    split at h
    · omega
    · simpa [nth] using (by assumption : ¬ isB c = true)
theorem okLen_at (l : List Int) (h : okLen l < l.length) : isB (nth l (okLen l)) = false ∧ ∀ j, j < okLen l → isB (nth l j) = true := by
  induction l with
  | nil => simp at h
  | cons c r ih =>
    unfold okLen at h ⊢
    by_cases hc : isB c = true
    · rw [if_pos hc] at h ⊢
      have := ih (by simpa using h)
      refine ⟨by rw [nth_cons_succ]; exact this.1, fun j hj => ?_⟩
      cases j with
      | zero => simpa [nth] using hc
      | succ j => rw [nth_cons_succ]; exact this.2 j (by omega)
    · rw [if_neg hc]
      exact ⟨by simpa [nth] using hc, fun j hj => by omega⟩
theorem okLen_all (l : List Int) (h : okLen l = l.length) : ∀ j, j < l.length → isB (nth l j) = true := by
  induction l with
  | nil => simp
  | cons c r ih =>
    unfold okLen at h
    by_cases hc : isB c = true
    · rw [if_pos hc] at h
      intro j hj
      cases j with
      | zero => simpa [nth] using hc
      | succ j => rw [nth_cons_succ]; exact ih (by simpa using h) j (by simpa using hj)
    · rw [if_neg hc] at h; simp at h
theorem firstL_ok (l : List Int) : firstL l = if okLen l < l.length then (okLen l : Int) else -1 := by
  have := okLen_le l
  split
  · rename_i h
    have := okLen_at l h
    exact firstL_found l _ h this.2 this.1
  · exact firstL_none l (okLen_all l (by omega))
end Go.Proofs.YtpglmfhlgaliaaaDoor.Scn
