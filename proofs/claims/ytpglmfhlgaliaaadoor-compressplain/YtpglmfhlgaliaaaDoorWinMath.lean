/-
  Plain facts on layer 13: which offset an index stands for, which index a number has; two bytes for a window and an offset; the first window that holds a number; the order in which windows were used. No Go text is named here; no condition.
-/
import Derived.Test.YtpglmfhlgaliaaaDoorBasMath
namespace Go.Proofs.YtpglmfhlgaliaaaDoor.Win
open Bas
set_option linter.unusedVariables false

/-- The offsets of the indexes 249 to 255. -/
def fixI (x : Int) : Int := if x = 249 then 192 else if x = 250 then 592 else if x = 251 then 880 else if x = 252 then 1328 else if x = 253 then 12352 else if x = 254 then 12448 else 65376
/-- The offset that an index stands for; -1: none. -/
def offI (x : Int) : Int := if 1 ≤ x ∧ x ≤ 103 then 128 * x else if 104 ≤ x ∧ x ≤ 167 then 128 * x + 44032 else if 249 ≤ x ∧ x ≤ 255 then fixI x else -1
/-- Does a window of an offset hold a number? -/
def hasI (o c : Int) : Bool := decide (o ≤ c ∧ c < o + 128)
theorem has_iff {o c : Int} : hasI o c = true ↔ o ≤ c ∧ c < o + 128 := by unfold hasI; simp
theorem has_no {o c : Int} : hasI o c = false ↔ ¬ (o ≤ c ∧ c < o + 128) := by unfold hasI; rw [decide_eq_false_iff_not]
/-- The index of 1 to 167 whose window holds a number; -1: none. -/
def lowI (c : Int) : Int := if 128 ≤ c ∧ c < 13312 then c / 128 else if 57344 ≤ c ∧ c < 65536 then (c - 44032) / 128 else -1
/-- A number's index; -1: none. -/
def idxI (c : Int) : Int := if hasI 192 c = true then 249 else if hasI 592 c = true then 250 else if hasI 880 c = true then 251 else if hasI 1328 c = true then 252 else if hasI 12352 c = true then 253 else if hasI 12448 c = true then 254 else if hasI 65376 c = true then 255 else lowI c
theorem off_fix {x : Int} (h : 249 ≤ x) (h2 : x ≤ 255) : offI x = fixI x := by unfold offI; rw [if_neg (by omega), if_neg (by omega), if_pos ⟨h, h2⟩]
theorem off_one {x : Int} (h : 1 ≤ x) (h2 : x ≤ 103) : offI x = 128 * x := by unfold offI; rw [if_pos ⟨h, h2⟩]
theorem off_two {x : Int} (h : 104 ≤ x) (h2 : x ≤ 167) : offI x = 128 * x + 44032 := by unfold offI; rw [if_neg (by omega), if_pos ⟨h, h2⟩]
theorem off_none {x : Int} (h : x < 1 ∨ (167 < x ∧ x < 249) ∨ 255 < x) : offI x = -1 := by unfold offI; rw [if_neg (by omega), if_neg (by omega), if_neg (by omega)]
theorem fix_rng (x : Int) : 192 ≤ fixI x ∧ fixI x ≤ 65376 := by
  unfold fixI; repeat' split
  all_goals omega
theorem off_cases (x : Int) : (offI x = -1 ∧ (x < 1 ∨ (167 < x ∧ x < 249) ∨ 255 < x)) ∨ (128 ≤ offI x ∧ offI x ≤ 65408 ∧ ((1 ≤ x ∧ x ≤ 167) ∨ (249 ≤ x ∧ x ≤ 255))) := by
  have := fix_rng x
  unfold offI; repeat' split
  all_goals omega
theorem low_rng (c : Int) : lowI c = -1 ∨ (1 ≤ lowI c ∧ lowI c ≤ 167) := by
  unfold lowI; repeat' split
  all_goals omega
theorem low_iff {x : Int} (h1 : 1 ≤ x) (h2 : x ≤ 167) (c : Int) : hasI (offI x) c = true ↔ lowI c = x := by
  rw [has_iff]
  by_cases h : x ≤ 103
  · rw [off_one h1 h]
    unfold lowI; repeat' split
    all_goals omega
  · rw [off_two (by omega) h2]
    unfold lowI; repeat' split
    all_goals omega
theorem low_none {c : Int} (h : ∀ y : Int, 1 ≤ y → y ≤ 167 → hasI (offI y) c = false) : lowI c = -1 := by
  rcases low_rng c with e | e
  · exact e
  · have := h _ e.1 e.2
    rw [(low_iff e.1 e.2 c).2 rfl] at this
    cases this
/-- The first of 249 to 255 whose window holds a number is its index. -/
theorem idx_fix {x c : Int} (h1 : 249 ≤ x) (h2 : x ≤ 255) (h : hasI (offI x) c = true) (hno : ∀ y : Int, 249 ≤ y → y < x → hasI (offI y) c = false) : idxI c = x := by
  have e : ∀ y : Int, 249 ≤ y → y ≤ 255 → offI y = fixI y := fun y => off_fix
  have n : ∀ (y : Int) (o : Int), 249 ≤ y → y < x → fixI y = o → ¬ hasI o c = true := fun y o q1 q2 q3 q4 => by
    have := hno y q1 q2
    rw [e y q1 (by omega), q3, q4] at this
    cases this
  have p : ∀ o, fixI x = o → hasI o c = true := fun o q => by rw [← q, ← e x h1 h2]; exact h
  have hcs : x = 249 ∨ x = 250 ∨ x = 251 ∨ x = 252 ∨ x = 253 ∨ x = 254 ∨ x = 255 := by omega
  unfold idxI
  rcases hcs with rfl | rfl | rfl | rfl | rfl | rfl | rfl
  · rw [if_pos (p 192 (by decide))]
  · rw [if_neg (n 249 192 (by decide) (by decide) (by decide)), if_pos (p 592 (by decide))]
  · rw [if_neg (n 249 192 (by decide) (by decide) (by decide)), if_neg (n 250 592 (by decide) (by decide) (by decide)), if_pos (p 880 (by decide))]
  · rw [if_neg (n 249 192 (by decide) (by decide) (by decide)), if_neg (n 250 592 (by decide) (by decide) (by decide)), if_neg (n 251 880 (by decide) (by decide) (by decide)), if_pos (p 1328 (by decide))]
  · rw [if_neg (n 249 192 (by decide) (by decide) (by decide)), if_neg (n 250 592 (by decide) (by decide) (by decide)), if_neg (n 251 880 (by decide) (by decide) (by decide)), if_neg (n 252 1328 (by decide) (by decide) (by decide)), if_pos (p 12352 (by decide))]
  · rw [if_neg (n 249 192 (by decide) (by decide) (by decide)), if_neg (n 250 592 (by decide) (by decide) (by decide)), if_neg (n 251 880 (by decide) (by decide) (by decide)), if_neg (n 252 1328 (by decide) (by decide) (by decide)), if_neg (n 253 12352 (by decide) (by decide) (by decide)), if_pos (p 12448 (by decide))]
  · rw [if_neg (n 249 192 (by decide) (by decide) (by decide)), if_neg (n 250 592 (by decide) (by decide) (by decide)), if_neg (n 251 880 (by decide) (by decide) (by decide)), if_neg (n 252 1328 (by decide) (by decide) (by decide)), if_neg (n 253 12352 (by decide) (by decide) (by decide)), if_neg (n 254 12448 (by decide) (by decide) (by decide)), if_pos (p 65376 (by decide))]
theorem idx_low {c : Int} (hno : ∀ y : Int, 249 ≤ y → y ≤ 255 → hasI (offI y) c = false) : idxI c = lowI c := by
  have n : ∀ (y : Int) (o : Int), 249 ≤ y → y ≤ 255 → fixI y = o → ¬ hasI o c = true := fun y o q1 q2 q3 q4 => by
    have := hno y q1 q2
    rw [off_fix q1 q2, q3, q4] at this
    cases this
  unfold idxI
  rw [if_neg (n 249 192 (by decide) (by decide) (by decide)), if_neg (n 250 592 (by decide) (by decide) (by decide)), if_neg (n 251 880 (by decide) (by decide) (by decide)), if_neg (n 252 1328 (by decide) (by decide) (by decide)), if_neg (n 253 12352 (by decide) (by decide) (by decide)), if_neg (n 254 12448 (by decide) (by decide) (by decide)), if_neg (n 255 65376 (by decide) (by decide) (by decide))]
/-- The window of a number's index holds it. -/
theorem idx_has (c : Int) : idxI c = -1 ∨ (1 ≤ idxI c ∧ idxI c ≤ 255 ∧ 0 ≤ offI (idxI c) ∧ hasI (offI (idxI c)) c = true) := by
  by_cases h : ∀ y : Int, 249 ≤ y → y ≤ 255 → hasI (offI y) c = false
  · rw [idx_low h]
    rcases low_rng c with e | e
    · exact .inl e
    · right
      have := off_cases (lowI c)
      exact ⟨e.1, by omega, by omega, (low_iff e.1 e.2 c).2 rfl⟩
  · right
    unfold idxI
    repeat' split
    · rename_i q; exact ⟨by decide, by decide, by decide, q⟩
    · rename_i q; exact ⟨by decide, by decide, by decide, q⟩
    · rename_i q; exact ⟨by decide, by decide, by decide, q⟩
    · rename_i q; exact ⟨by decide, by decide, by decide, q⟩
    · rename_i q; exact ⟨by decide, by decide, by decide, q⟩
    · rename_i q; exact ⟨by decide, by decide, by decide, q⟩
    · rename_i q; exact ⟨by decide, by decide, by decide, q⟩
    · exfalso
      rename_i a1 a2 a3 a4 a5 a6 a7
      refine h fun y q1 q2 => ?_
      have hcs : y = 249 ∨ y = 250 ∨ y = 251 ∨ y = 252 ∨ y = 253 ∨ y = 254 ∨ y = 255 := by omega
      rcases hcs with rfl | rfl | rfl | rfl | rfl | rfl | rfl
      · exact Bool.eq_false_iff.2 a1
      · exact Bool.eq_false_iff.2 a2
      · exact Bool.eq_false_iff.2 a3
      · exact Bool.eq_false_iff.2 a4
      · exact Bool.eq_false_iff.2 a5
      · exact Bool.eq_false_iff.2 a6
      · exact Bool.eq_false_iff.2 a7
/-! ### Two bytes -/
def extN (h : Int) : Int := h / 32
def extO (h l : Int) : Int := 65536 + 128 * (h % 32 * 256 + l)
def pairH (w c : Int) : Int := 32 * w + (c - 65536) / 128 / 256
def pairL (c : Int) : Int := (c - 65536) / 128 % 256
theorem ext_rng {h l : Int} (h0 : 0 ≤ h) (h1 : h < 256) (l0 : 0 ≤ l) (l1 : l < 256) : 0 ≤ extN h ∧ extN h ≤ 7 ∧ 65536 ≤ extO h l ∧ extO h l ≤ 1113984 := by
  unfold extN extO; omega
theorem pair_rng {w c : Int} (h0 : 0 ≤ w) (h1 : w ≤ 7) (c0 : 65536 ≤ c) (c1 : c ≤ 1114111) : 0 ≤ pairH w c ∧ pairH w c < 256 ∧ 0 ≤ pairL c ∧ pairL c < 256 := by
  unfold pairH pairL; omega
theorem pair_ext {w c : Int} (h0 : 0 ≤ w) (h1 : w ≤ 7) (c0 : 65536 ≤ c) (c1 : c ≤ 1114111) : extN (pairH w c) = w ∧ hasI (extO (pairH w c) (pairL c)) c = true := by
  rw [has_iff]
  unfold extN extO pairH pairL; omega
/-- No other bytes do. -/
theorem pair_only {w c h l : Int} (h0 : 0 ≤ w) (h1 : w ≤ 7) (c0 : 65536 ≤ c) (c1 : c ≤ 1114111) (b0 : 0 ≤ h) (b1 : h < 256) (b2 : 0 ≤ l) (b3 : l < 256) : (h = pairH w c ∧ l = pairL c) ↔ (extN h = w ∧ hasI (extO h l) c = true) := by
  rw [has_iff]
  unfold extN extO pairH pairL; omega
/-! ### The dynamic windows -/
def statL : List Int := [0, 128, 256, 768, 8192, 8320, 8448, 12288]
def firstL8 : List Int := [128, 192, 1024, 1536, 2304, 12352, 12448, 65280]
def used0 : List Int := [7, 6, 5, 4, 3, 2, 1, 0]
/-- The least window, from a number on, that holds c; -1: none does. -/
def findA (c : Int) : Nat → List Int → Int
  | _, [] => -1
  | k, o :: r => if hasI o c = true then (k : Int) else findA c (k + 1) r
def findL (offs : List Int) (c : Int) : Int := findA c 0 offs
theorem find_hit {c : Int} (l : List Int) : ∀ (k i : Nat), i < l.length → hasI (nth l i) c = true → (∀ j, j < i → hasI (nth l j) c = false) → findA c k l = ((k + i : Nat) : Int) := by
  induction l with
  | nil => intro k i hi; simp at hi
  | cons o r ih =>
    intro k i hi hh hno
    cases i with
    | zero => simp [nth] at hh; simp [findA, hh]
    | succ i =>
      have h0 := hno 0 (by omega)
      simp [nth] at h0
      rw [nth_cons_succ] at hh
      simp only [findA, h0, Bool.false_eq_true, if_false]
      rw [ih (k + 1) i (by simpa using hi) hh (fun j hj => by have := hno (j + 1) (by omega); rwa [nth_cons_succ] at this)]
      congr 1; omega
theorem find_none {c : Int} (l : List Int) : ∀ k : Nat, (∀ j, j < l.length → hasI (nth l j) c = false) → findA c k l = -1 := by
  induction l with
  | nil => intro k _; rfl
  | cons o r ih =>
    intro k hno
    have h0 := hno 0 (by simp)
    simp [nth] at h0
    simp only [findA, h0, Bool.false_eq_true, if_false]
    exact ih (k + 1) (fun j hj => by have := hno (j + 1) (by simpa using hj); rwa [nth_cons_succ] at this)
theorem find_rng (offs : List Int) (c : Int) (h : offs.length = 8) : findL offs c = -1 ∨ (0 ≤ findL offs c ∧ findL offs c ≤ 7) := by
  by_cases hn : ∀ j, j < offs.length → hasI (nth offs j) c = false
  · exact .inl (find_none offs 0 hn)
  · right
    have hgo : ∀ (l : List Int) (k : Nat), findA c k l = -1 ∨ ((k : Int) ≤ findA c k l ∧ findA c k l < k + l.length) := by
      intro l
      induction l with
      | nil => intro k; exact .inl rfl
      | cons o r ih =>
        intro k
        simp only [findA]
        split
        · right; simp; omega
        · rcases ih (k + 1) with e | e
          · exact .inl e
          · right; simp; omega
    rcases hgo offs 0 with e | e
    · exfalso
      apply hn
      have hall : ∀ (l : List Int) (k : Nat), findA c k l = -1 → ∀ j, j < l.length → hasI (nth l j) c = false := by
        intro l
        induction l with
        | nil => intro k _ j hj; simp at hj
        | cons o r ih =>
          intro k he j hj
          simp only [findA] at he
          split at he
          · omega
          · cases j with
            | zero => simpa [nth] using (by assumption : ¬ hasI o c = true)
            | succ j => rw [nth_cons_succ]; exact ih (k + 1) he j (by simpa using hj)
      exact hall offs 0 e
    · unfold findL; omega
/-- The order of use, the longest ago first: one is touched. -/
def others (l : List Int) (n : Int) : List Int := l.filter fun x => decide (x ≠ n)
def touchL (l : List Int) (n : Int) : List Int := if 0 ≤ n ∧ n ≤ 7 then others l n ++ [n] else l
/-- All eight, each once. -/
def Eight (l : List Int) : Prop := l.length = 8 ∧ l.Nodup ∧ ∀ x, x ∈ l ↔ 0 ≤ x ∧ x ≤ 7
theorem eight_0 : Eight used0 := by
  refine ⟨rfl, by decide, fun x => ?_⟩
  simp [used0]; omega
theorem others_mem {l : List Int} {n x : Int} : x ∈ others l n ↔ x ∈ l ∧ x ≠ n := by unfold others; simp
theorem others_split {a b : List Int} {n : Int} (h : (a ++ n :: b).Nodup) : others (a ++ n :: b) n = a ++ b := by
  rw [List.nodup_append] at h
  obtain ⟨h1, h2, h3⟩ := h
  rw [List.nodup_cons] at h2
  unfold others
  rw [List.filter_append, List.filter_cons]
  have e1 : (a.filter fun x => decide (x ≠ n)) = a := List.filter_eq_self.2 fun x hx => by simpa using h3 x hx n (by simp)
  have e2 : (b.filter fun x => decide (x ≠ n)) = b := List.filter_eq_self.2 fun x hx => by
    simp only [decide_eq_true_eq]; intro e; subst e; exact h2.1 hx
  rw [e1, e2]; simp
theorem mem_split' {l : List Int} {n : Int} (h : n ∈ l) : ∃ a b, l = a ++ n :: b := List.append_of_mem h
theorem others_len {l : List Int} {n : Int} (h : Eight l) (h0 : 0 ≤ n) (h1 : n ≤ 7) : (others l n).length = 7 := by
  obtain ⟨a, b, rfl⟩ := mem_split' ((h.2.2 n).2 ⟨h0, h1⟩)
  rw [others_split h.2.1]
  have := h.1
  simp at this ⊢; omega
theorem others_all {l : List Int} {n : Int} (h : Eight l) (hn : ¬ (0 ≤ n ∧ n ≤ 7)) : others l n = l := by
  unfold others
  refine List.filter_eq_self.2 fun x hx => ?_
  simp only [decide_eq_true_eq]
  intro e; subst e
  exact hn ((h.2.2 x).1 hx)
theorem touch_eight {l : List Int} (h : Eight l) (n : Int) : Eight (touchL l n) := by
  unfold touchL
  split
  · rename_i hn
    obtain ⟨a, b, rfl⟩ := mem_split' ((h.2.2 n).2 hn)
    rw [others_split h.2.1]
    have hp : (a ++ b ++ [n]).Perm (a ++ n :: b) := by
      rw [List.append_assoc]
      exact List.Perm.append_left a (List.perm_append_comm (l₁ := b) (l₂ := [n]))
    exact ⟨by rw [hp.length_eq]; exact h.1, hp.nodup_iff.2 h.2.1, fun x => by rw [hp.mem_iff]; exact h.2.2 x⟩
  · exact h
/-- The one that was used longest ago is touched: the others move up. -/
theorem touch_head {a : Int} {r : List Int} (h : Eight (a :: r)) : touchL (a :: r) a = r ++ [a] := by
  have ha := (h.2.2 a).1 (by simp)
  unfold touchL
  rw [if_pos ha]
  have := others_split (a := []) (b := r) (n := a) (by simpa using h.2.1)
  rw [List.nil_append] at this
  rw [this, List.nil_append]
/-- Touched so many times, always the one that was used longest ago. -/
def turnT : Nat → List Int → List Int
  | 0, l => l
  | k + 1, l => touchL (turnT k l) (nth (turnT k l) 0)
theorem turnT_is {l : List Int} (h : Eight l) : ∀ k, k ≤ 8 → turnT k l = l.drop k ++ l.take k ∧ Eight (turnT k l) := by
  intro k
  induction k with
  | zero => intro _; exact ⟨by simp [turnT], h⟩
  | succ k ih =>
    intro hk
    obtain ⟨e, he⟩ := ih (by omega)
    have hl := h.1
    have hd := drop_at l k (by omega)
    have e2 : turnT k l = nth l k :: (l.drop (k + 1) ++ l.take k) := by rw [e, hd, List.cons_append]
    have e3 : turnT (k + 1) l = touchL (turnT k l) (nth (turnT k l) 0) := rfl
    refine ⟨?_, by rw [e3]; exact touch_eight he _⟩
    rw [e3, e2]
    have : nth (nth l k :: (l.drop (k + 1) ++ l.take k)) 0 = nth l k := rfl
    rw [this, touch_head (by rw [← e2]; exact he), List.append_assoc, ← take_snoc l k (by omega)]
theorem turnT_eight {l : List Int} (h : Eight l) : turnT 8 l = l := by
  rw [(turnT_is h 8 (by omega)).1, List.drop_of_length_le (by rw [h.1]; omega), List.take_of_length_le (by rw [h.1]; omega)]; rfl
theorem turnT_add (l : List Int) : ∀ i k, turnT (k + i) l = turnT i (turnT k l) := by
  intro i
  induction i with
  | zero => intro k; rfl
  | succ i ih => intro k; show turnT (k + i + 1) l = _; simp only [turnT]; rw [ih k]
/-- The one of the turn k: l's own k-th, and again in the same order. -/
theorem turn_at {l : List Int} (h : Eight l) {k : Nat} (hk : k < 8) : nth (turnT k l) 0 = nth l k ∧ nth (turnT (8 + k) l) 0 = nth l k := by
  have e := (turnT_is h k (by omega)).1
  have hd := drop_at l k (by rw [h.1]; exact hk)
  have h1 : nth (turnT k l) 0 = nth l k := by rw [e, hd]; rfl
  refine ⟨h1, ?_⟩
  rw [turnT_add l k 8, turnT_eight h]; exact h1
theorem nth_nodup {l : List Int} (h : Eight l) {i j : Nat} (hi : i < 8) (hj : j < 8) (e : nth l i = nth l j) : i = j := by
  have hl := h.1
  have h1 : l[i]'(by omega) = l[j]'(by omega) := by
    simpa [nth, List.getElem?_eq_getElem (show i < l.length by omega), List.getElem?_eq_getElem (show j < l.length by omega)] using e
  have hp := List.pairwise_iff_getElem.1 h.2.1
  rcases Nat.lt_trichotomy i j with q | q | q
  · exact absurd h1 (hp i j (by omega) (by omega) q)
  · exact q
  · exact absurd h1.symm (hp j i (by omega) (by omega) q)
end Go.Proofs.YtpglmfhlgaliaaaDoor.Win
