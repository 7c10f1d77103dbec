/-
  A machine that eats scalars and tells bytes, with room, and whose bytes of a scalar hang on what it ate before: what it tells of a list, whole or in parts. Plain facts; no Go text is named here; no condition.
-/
import Derived.Test.YtpglmfhlgaliaaaDoorEncM
namespace Go.Proofs.YtpglmfhlgaliaaaDoor.Scn
open Bas Sca

/-- What came of it: what was told, how many were eaten, what is kept, the state, was one no scalar? -/
structure SRes (σ : Type) where
  told : List Int
  eaten : Nat
  kept : List Int
  st : σ
  bad : Bool
variable {σ : Type}
def SRes.plus (i : Nat) (x : SRes σ) : SRes σ := ⟨x.told, i + x.eaten, x.kept, x.st, x.bad⟩
theorem SRes.plus_zero (x : SRes σ) : x.plus 0 = x := by simp [SRes.plus]
theorem SRes.plus_plus (i j : Nat) (x : SRes σ) : (x.plus j).plus i = x.plus (i + j) := by simp [SRes.plus, Nat.add_assoc]
/-- A list, with what was told and is kept ahead: 'one' tells a scalar's bytes, 'nxt' the state behind it. -/
def encS (one : σ → Int → List Int) (nxt : σ → Int → σ) (room : Int) : σ → List Int → List Int → List Int → SRes σ
  | s, told, K, [] => ⟨told, 0, K, s, false⟩
  | s, told, K, c :: r => if K = [] then
      if isB c = true then (encS one nxt room (nxt s c) (told ++ (one s c).take (frontR (room - told.length) (one s c).length)) ((one s c).drop (frontR (room - told.length) (one s c).length)) r).plus 1
      else ⟨told, 0, K, s, true⟩
    else ⟨told, 0, K, s, false⟩
section
variable {one : σ → Int → List Int} {nxt : σ → Int → σ}
theorem encS_nil {room : Int} (s : σ) (told K : List Int) : encS one nxt room s told K [] = ⟨told, 0, K, s, false⟩ := rfl
theorem encS_kept {room : Int} {s : σ} {told K : List Int} (l : List Int) (h : K ≠ []) : encS one nxt room s told K l = ⟨told, 0, K, s, false⟩ := by
  cases l with
  | nil => rfl
  | cons c r => simp [encS, h]
theorem encS_bad {room : Int} {s : σ} {told : List Int} {c : Int} (r : List Int) (h : isB c = false) : encS one nxt room s told [] (c :: r) = ⟨told, 0, [], s, true⟩ := by simp [encS, h]
theorem encS_one {room : Int} {s : σ} {told : List Int} {c : Int} (r : List Int) (h : isB c = true) :
    encS one nxt room s told [] (c :: r) = (encS one nxt room (nxt s c) (told ++ (one s c).take (frontR (room - told.length) (one s c).length)) ((one s c).drop (frontR (room - told.length) (one s c).length)) r).plus 1 := by simp [encS, h]
end
/-- The bytes of the scalars ahead of the first that is none. -/
def allS (one : σ → Int → List Int) (nxt : σ → Int → σ) : σ → List Int → List Int
  | _, [] => []
  | s, c :: r => if isB c = true then one s c ++ allS one nxt (nxt s c) r else []
/-- The state behind some scalars. -/
def stS (nxt : σ → Int → σ) : σ → List Int → σ
  | s, [] => s
  | s, c :: r => if isB c = true then stS nxt (nxt s c) r else s
/-- Nothing is lost, nothing comes twice, whatever the parts. -/
theorem encS_total (one : σ → Int → List Int) (nxt : σ → Int → σ) (room : Int) (L : List Int) (s : σ) (told K : List Int) (k : Nat) :
    (encS one nxt room s told K (L.take k)).told ++ (encS one nxt room s told K (L.take k)).kept ++ allS one nxt (encS one nxt room s told K (L.take k)).st (L.drop (encS one nxt room s told K (L.take k)).eaten) = told ++ K ++ allS one nxt s L ∧
    okLen L = (encS one nxt room s told K (L.take k)).eaten + okLen (L.drop (encS one nxt room s told K (L.take k)).eaten) ∧
    ((encS one nxt room s told K (L.take k)).bad = true → (encS one nxt room s told K (L.take k)).kept = [] ∧ okLen (L.drop (encS one nxt room s told K (L.take k)).eaten) = 0 ∧ allS one nxt (encS one nxt room s told K (L.take k)).st (L.drop (encS one nxt room s told K (L.take k)).eaten) = [] ∧ (encS one nxt room s told K (L.take k)).eaten < L.length) := by
  induction L generalizing s told K k with
  | nil => simp [encS]
  | cons c r ih =>
    cases k with
    | zero => simp [encS]
    | succ k =>
      rw [List.take_succ_cons]
      by_cases hK : K = []
      · subst hK
        by_cases hc : isB c = true
        · rw [encS_one _ hc]
          obtain ⟨h1, h2, h3⟩ := ih (nxt s c) (told ++ (one s c).take (frontR (room - told.length) (one s c).length)) ((one s c).drop (frontR (room - told.length) (one s c).length)) k
          simp only [SRes.plus]
          rw [show ∀ n, 1 + n = n + 1 by intro n; omega, List.drop_succ_cons]
          refine ⟨?_, ?_, ?_⟩
          · rw [h1]; simp [allS, hc]
          · simp only [okLen, hc, if_pos]; omega
          · intro hb; obtain ⟨a, b, d, e⟩ := h3 hb; exact ⟨a, b, d, by simp; omega⟩
        · have hc' : isB c = false := by simpa using hc
          rw [encS_bad _ hc']
          simp [allS, okLen, hc']
      · rw [encS_kept _ hK]; simp
theorem encS_le (one : σ → Int → List Int) (nxt : σ → Int → σ) (room : Int) (l : List Int) (s : σ) (told K : List Int) : (encS one nxt room s told K l).eaten ≤ l.length := by
  induction l generalizing s told K with
  | nil => simp [encS]
  | cons c r ih =>
    by_cases hK : K = []
    · subst hK
      by_cases hc : isB c = true
      · rw [encS_one _ hc]; have := ih (nxt s c) (told ++ (one s c).take (frontR (room - told.length) (one s c).length)) ((one s c).drop (frontR (room - told.length) (one s c).length)); simp [SRes.plus]; omega
      · rw [encS_bad _ (by simpa using hc)]; simp
    · rw [encS_kept _ hK]; simp
theorem encS_room (one : σ → Int → List Int) (nxt : σ → Int → σ) (room : Int) (l : List Int) (s : σ) (told K : List Int) (h : (told.length : Int) ≤ room) : ((encS one nxt room s told K l).told.length : Int) ≤ room := by
  induction l generalizing s told K with
  | nil => simpa [encS] using h
  | cons c r ih =>
    by_cases hK : K = []
    · subst hK
      by_cases hc : isB c = true
      · rw [encS_one _ hc]
        refine ih _ _ _ ?_
        have := frontR_le (room - told.length) (one s c).length
        simp only [List.length_append, List.length_take]
        omega
      · rw [encS_bad _ (by simpa using hc)]; exact h
    · rw [encS_kept _ hK]; exact h
theorem encS_small (one : σ → Int → List Int) (nxt : σ → Int → σ) (m : Nat) (hm : ∀ s c, (one s c).length ≤ m) (room : Int) (l : List Int) (s : σ) (told K : List Int) (h : K.length ≤ m) : (encS one nxt room s told K l).kept.length ≤ m := by
  induction l generalizing s told K with
  | nil => simpa [encS] using h
  | cons c r ih =>
    by_cases hK : K = []
    · subst hK
      by_cases hc : isB c = true
      · rw [encS_one _ hc]
        refine ih _ _ _ ?_
        have := hm s c
        simp only [List.length_drop]
        omega
      · rw [encS_bad _ (by simpa using hc)]; exact h
    · rw [encS_kept _ hK]; exact h
theorem encS_goes (one : σ → Int → List Int) (nxt : σ → Int → σ) (room : Int) (l : List Int) (s : σ) (told : List Int) (h : l ≠ []) : (encS one nxt room s told [] l).bad = true ∨ 1 ≤ (encS one nxt room s told [] l).eaten := by
  cases l with
  | nil => exact absurd rfl h
  | cons c r =>
    by_cases hc : isB c = true
    · rw [encS_one _ hc]; simp [SRes.plus]
    · rw [encS_bad _ (by simpa using hc)]; simp
theorem encS_told (one : σ → Int → List Int) (nxt : σ → Int → σ) (room : Int) (l : List Int) (s : σ) (told K : List Int) : told.length ≤ (encS one nxt room s told K l).told.length := by
  induction l generalizing s told K with
  | nil => simp [encS]
  | cons c r ih =>
    by_cases hK : K = []
    · subst hK
      by_cases hc : isB c = true
      · rw [encS_one _ hc]
        have := ih (nxt s c) (told ++ (one s c).take (frontR (room - told.length) (one s c).length)) ((one s c).drop (frontR (room - told.length) (one s c).length))
        simp only [SRes.plus]
        simp only [List.length_append] at this
        omega
      · rw [encS_bad _ (by simpa using hc)]; simp
    · rw [encS_kept _ hK]; simp
theorem encS_good (one : σ → Int → List Int) (nxt : σ → Int → σ) (G : σ → Prop) (hG : ∀ s c, G s → isB c = true → G (nxt s c)) (room : Int) (l : List Int) (s : σ) (told K : List Int) (h : G s) : G (encS one nxt room s told K l).st := by
  induction l generalizing s told K with
  | nil => exact h
  | cons c r ih =>
    by_cases hK : K = []
    · subst hK
      by_cases hc : isB c = true
      · rw [encS_one _ hc]; exact ih _ _ _ (hG s c h hc)
      · rw [encS_bad _ (by simpa using hc)]; exact h
    · rw [encS_kept _ hK]; exact h
theorem encS_bytes (one : σ → Int → List Int) (nxt : σ → Int → σ) (m : Nat) (hm : ∀ s c, (one s c).length ≤ m) (room : Int) (l : List Int) (s : σ) (told K : List Int) : (encS one nxt room s told K l).told.length + (encS one nxt room s told K l).kept.length ≤ told.length + K.length + m * (encS one nxt room s told K l).eaten := by
  induction l generalizing s told K with
  | nil => simp [encS]
  | cons c r ih =>
    by_cases hK : K = []
    · subst hK
      by_cases hc : isB c = true
      · rw [encS_one _ hc]
        have := ih (nxt s c) (told ++ (one s c).take (frontR (room - told.length) (one s c).length)) ((one s c).drop (frontR (room - told.length) (one s c).length))
        have h2 := hm s c
        simp only [SRes.plus, List.length_append, List.length_take, List.length_drop, List.length_nil] at this ⊢
        rw [Nat.mul_add]
        omega
      · rw [encS_bad _ (by simpa using hc)]; simp
    · rw [encS_kept _ hK]; simp
/-- A call: first what is kept. -/
def encT (one : σ → Int → List Int) (nxt : σ → Int → σ) (room : Int) (s : σ) (K l : List Int) : SRes σ := encS one nxt room s (K.take (frontR room K.length)) (K.drop (frontR room K.length)) l
theorem allS_le (one : σ → Int → List Int) (nxt : σ → Int → σ) (m : Nat) (hm : ∀ s c, (one s c).length ≤ m) (l : List Int) (s : σ) : (allS one nxt s l).length ≤ m * l.length := by
  induction l generalizing s with
  | nil => simp [allS]
  | cons c r ih =>
    unfold allS
    split
    · have := hm s c; have := ih (nxt s c); simp [Nat.mul_add]; omega
    · simp
end Go.Proofs.YtpglmfhlgaliaaaDoor.Scn
