/-
  Layer 10 as plain facts on lists: whole texts, their hyphens, the text of a list; parts of a list picked by their places. No Go text is named here; no condition.
-/
import Derived.Test.YtemgbmacdpnepaaPunMath
namespace Go.Proofs.Ytemgbmacdpnepaa
namespace Pun
open Bas Bia Sca
set_option linter.unusedVariables false

/-- The last hyphen's place among the first k bytes, or 0. -/
def hypK (t : List Int) : Nat → Nat
  | 0 => 0
  | k + 1 => if nth t k = 45 then k else hypK t k
theorem hypK_hit {t : List Int} {k : Nat} (h : nth t k = 45) : hypK t (k + 1) = k := by rw [hypK, if_pos h]
theorem hypK_miss {t : List Int} {k : Nat} (h : nth t k ≠ 45) : hypK t (k + 1) = hypK t k := by rw [hypK, if_neg h]
theorem hypK_le (t : List Int) (k : Nat) : hypK t k ≤ k ∧ (0 < k → hypK t k < k) := by
  induction k with
  | zero => exact ⟨Nat.le_refl _, fun h => by omega⟩
  | succ k ih => rw [hypK]; split <;> omega
theorem hypK_at {t : List Int} {k : Nat} (h : 0 < hypK t k) : nth t (hypK t k) = 45 := by
  induction k with
  | zero => simp [hypK] at h
  | succ k ih =>
    by_cases hk : nth t k = 45
    · rw [hypK_hit hk]; exact hk
    · rw [hypK_miss hk] at h ⊢; exact ih h
theorem hypK_none {t : List Int} {a : Nat} (j : Nat) (h : ∀ k, a ≤ k → k < a + j → nth t k ≠ 45) : hypK t (a + j) = hypK t a := by
  induction j with
  | zero => rfl
  | succ j ih => rw [show a + (j + 1) = (a + j) + 1 by omega, hypK_miss (h _ (by omega) (by omega)), ih (fun k h1 h2 => h k h1 (by omega))]
theorem hypK_congr {t u : List Int} {k : Nat} (h : ∀ j, j < k → (nth t j = 45 ↔ nth u j = 45)) : hypK t k = hypK u k := by
  induction k with
  | zero => rfl
  | succ k ih =>
    have e := ih (fun j hj => h j (by omega))
    by_cases hk : nth t k = 45
    · rw [hypK_hit hk, hypK_hit ((h k (by omega)).1 hk)]
    · rw [hypK_miss hk, hypK_miss (fun h2 => hk ((h k (by omega)).2 h2)), e]
/-- The hyphen that parts a text. -/
def hyp (t : List Int) : Nat := hypK t t.length
/-- Basic scalars and digits, as a text. -/
def joinT (bs t : List Int) : List Int := if bs = [] then t else bs ++ 45 :: t
theorem joinT_nil (t : List Int) : joinT [] t = t := by simp [joinT]
theorem joinT_some {bs : List Int} (h : bs ≠ []) (t : List Int) : joinT bs t = bs ++ 45 :: t := by simp [joinT, h]
theorem hyp_none {t : List Int} (h : ∀ x ∈ t, x ≠ 45) : hyp t = 0 := by
  have := hypK_none (t := t) (a := 0) t.length (fun k _ hk => h _ (nth_mem (by omega)))
  rw [Nat.zero_add] at this
  exact this
theorem hyp_join (bs : List Int) {t : List Int} (h : ∀ x ∈ t, x ≠ 45) : hyp (bs ++ 45 :: t) = bs.length := by
  unfold hyp
  have hl : (bs ++ 45 :: t).length = (bs.length + 1) + t.length := by simp; omega
  rw [hl, hypK_none, hypK_hit]
  · rw [nth_append_right (Nat.le_refl _), Nat.sub_self]; rfl
  · intro k hk hk2
    rw [nth_append_right (by omega), show k - bs.length = (k - bs.length - 1) + 1 by omega, nth_cons_succ]
    exact h _ (nth_mem (by omega))
theorem hyp_part {t : List Int} (h : 0 < hyp t) : hyp t < t.length ∧ t = t.take (hyp t) ++ 45 :: t.drop (hyp t + 1) := by
  have hlt : hyp t < t.length := by
    have := hypK_le t t.length
    unfold hyp at h ⊢
    omega
  refine ⟨hlt, ?_⟩
  have ha : nth t (hyp t) = 45 := hypK_at h
  conv => lhs; rw [← List.take_append_drop (hyp t) t]
  rw [drop_at _ _ hlt, ha]
/-- What a text of bytes below 128 denotes. -/
def textD (t : List Int) : Option (List Int) := if 0 < hyp t then decL (PS.zero (t.take (hyp t))) (t.drop (hyp t + 1)) else decL (PS.zero []) t
theorem textD_some {t : List Int} (h : 0 < hyp t) : textD t = decL (PS.zero (t.take (hyp t))) (t.drop (hyp t + 1)) := by unfold textD; rw [if_pos h]
theorem textD_none {t : List Int} (h : ¬ 0 < hyp t) : textD t = decL (PS.zero []) t := by unfold textD; rw [if_neg h]
/-- A text whose digits have small letters. -/
def smallT (t : List Int) : List Int := t.take (hyp t) ++ (t.drop (hyp t)).map smallI
theorem small_hyp (c : Int) : smallI c = 45 ↔ c = 45 := by unfold smallI; split <;> omega
theorem smallT_len (t : List Int) : (smallT t).length = t.length := by
  unfold smallT; rw [List.length_append, List.length_map, ← List.length_append, List.take_append_drop]
theorem nth_map (f : Int → Int) {l : List Int} {k : Nat} (h : k < l.length) : nth (l.map f) k = f (nth l k) := by unfold nth; simp [h]
theorem hyp_le (t : List Int) : hyp t ≤ t.length := (hypK_le t t.length).1
theorem smallT_hyp (t : List Int) : hyp (smallT t) = hyp t := by
  unfold hyp
  rw [smallT_len]
  apply hypK_congr
  intro j hj
  have hl : (t.take (hyp t)).length = hyp t := by have := hyp_le t; rw [List.length_take]; omega
  unfold smallT
  by_cases h : j < hyp t
  · rw [nth_append_left (by omega), nth_take h]
  · rw [nth_append_right (by omega), hl, nth_map _ (by rw [List.length_drop]; omega), nth_drop, show hyp t + (j - hyp t) = j by omega]
    exact small_hyp _
theorem textD_letters (t : List Int) : textD (smallT t) = textD t := by
  have hl : (t.take (hyp t)).length = hyp t := by have := hyp_le t; rw [List.length_take]; omega
  by_cases h : 0 < hyp t
  · rw [textD_some h, textD_some (by rw [smallT_hyp]; exact h), smallT_hyp]
    have e1 : (smallT t).take (hyp t) = t.take (hyp t) := by unfold smallT; rw [List.take_append_of_le_length (by omega), List.take_of_length_le (by omega)]
    have e2 : (smallT t).drop (hyp t + 1) = (t.drop (hyp t + 1)).map smallI := by
      unfold smallT
      rw [List.drop_append, List.drop_of_length_le (by omega), List.nil_append, hl, show hyp t + 1 - hyp t = 1 by omega, ← List.map_drop, List.drop_drop]
    rw [e1, e2, decL_letters]
  · rw [textD_none h, textD_none (by rw [smallT_hyp]; exact h)]
    have e : smallT t = t.map smallI := by unfold smallT; rw [show hyp t = 0 by omega]; simp
    rw [e, decL_letters]
/-- A hyphen behind any bytes: these bytes. -/
theorem textD_basic {t : List Int} (h : t ≠ []) : textD (t ++ [45]) = some t := by
  have hh : hyp (t ++ [45]) = t.length := hyp_join t (t := []) (fun x hx => by simp at hx)
  have hp : 0 < t.length := List.length_pos_iff.2 h
  rw [textD_some (by rw [hh]; exact hp), hh, List.take_append_of_le_length (Nat.le_refl _), List.take_of_length_le (Nat.le_refl _), List.drop_of_length_le (by simp), decL_nil]
  rfl

theorem let_plain : ∀ k : Fin 36, nth letL k.val ≠ 45 ∧ 0 ≤ nth letL k.val ∧ nth letL k.val < 128 := by decide +kernel
theorem putL_plain (b : Int) (p n : Nat) : ∀ x ∈ putL b p n, x ≠ 45 ∧ 0 ≤ x ∧ x < 128 := by
  intro x hx
  unfold putL at hx
  obtain ⟨d, hd, rfl⟩ := List.mem_map.1 hx
  exact let_plain ⟨d, digs_lt b p n d hd⟩
theorem Made.plain {bs : List Int} {s : PS} {t : List Int} (h : Made bs s t) : ∀ x ∈ t, x ≠ 45 ∧ 0 ≤ x ∧ x < 128 := by
  induction h using Made.ind with
  | base => intro x hx; simp at hx
  | step h hd hs ih =>
    intro x hx
    rcases List.mem_append.1 hx with hx | hx
    · exact ih x hx
    · exact putL_plain _ _ _ x hx
theorem filter_ins (l : List Int) (p : Nat) {x : Int} (h : ¬ x < 128) : (insL l p x).filter (fun y => decide (y < 128)) = l.filter (fun y => decide (y < 128)) := by
  unfold insL
  rw [List.filter_append, List.filter_cons_of_neg (by simpa using h), ← List.filter_append, List.take_append_drop]
theorem Made.basic {bs : List Int} {s : PS} {t : List Int} (hb : ∀ x ∈ bs, x < 128) (h : Made bs s t) : s.l.filter (fun y => decide (y < 128)) = bs := by
  induction h using Made.ind with
  | base => exact List.filter_eq_self.2 (fun x hx => by have := hb x hx; simpa [PS.zero] using this)
  | step h hd hs ih =>
    obtain ⟨v, p, hv, hp, he, -, rfl⟩ := stepD_some hs
    have := (h.inv hb).n
    simp only
    rw [filter_ins _ _ (by omega), ih]
/-- The text of a list. -/
def TextOf (L T : List Int) : Prop := ∃ bs s t, (∀ x ∈ bs, 0 ≤ x ∧ x < 128) ∧ Made bs s t ∧ s.l = L ∧ T = joinT bs t
theorem TextOf.one {L T T' : List Int} (h : TextOf L T) (h' : TextOf L T') : T = T' := by
  obtain ⟨bs, s, t, hb, hm, hl, rfl⟩ := h
  obtain ⟨bs', s', t', hb', hm', hl', rfl⟩ := h'
  have e1 := hm.basic (fun x hx => (hb x hx).2)
  have e2 := hm'.basic (fun x hx => (hb' x hx).2)
  rw [hl] at e1
  rw [hl'] at e2
  rw [e1] at e2
  subst e2
  obtain ⟨-, rfl⟩ := hm.one (fun x hx => (hb x hx).2) _ _ hm' (hl.trans hl'.symm)
  rfl
theorem TextOf.plain {L T : List Int} (h : TextOf L T) : ∀ x ∈ T, 0 ≤ x ∧ x < 128 := by
  obtain ⟨bs, s, t, hb, hm, hl, rfl⟩ := h
  intro x hx
  by_cases he : bs = []
  · subst he; rw [joinT_nil] at hx; exact (hm.plain x hx).2
  · rw [joinT_some he] at hx
    rcases List.mem_append.1 hx with hx | hx
    · exact hb x hx
    · rcases List.mem_cons.1 hx with rfl | hx
      · decide
      · exact (hm.plain x hx).2
/-- The text of a list denotes it. -/
theorem TextOf.dec {L T : List Int} (h : TextOf L T) : textD T = some L := by
  obtain ⟨bs, s, t, hb, hm, hl, rfl⟩ := h
  have hd := hm.dec []
  rw [List.append_nil, decL_nil, hl] at hd
  by_cases he : bs = []
  · subst he
    rw [joinT_nil, textD_none (by rw [hyp_none (fun x hx => (hm.plain x hx).1)]; omega)]
    exact hd
  · have hh := hyp_join bs (fun x hx => (hm.plain x hx).1)
    rw [joinT_some he, textD_some (by rw [hh]; exact List.length_pos_iff.2 he), hh, List.take_append_of_le_length (Nat.le_refl _), List.take_of_length_le (Nat.le_refl _)]
    rw [List.drop_append, List.drop_of_length_le (by omega), List.nil_append, show bs.length + 1 - bs.length = 1 by omega]
    exact hd
/-- A text that denotes a list is its text, but for great letters. -/
theorem TextOf.of_dec {L T : List Int} (hT : ∀ x ∈ T, 0 ≤ x ∧ x < 128) (h : textD T = some L) : TextOf L (smallT T) := by
  by_cases hh : 0 < hyp T
  · rw [textD_some hh] at h
    obtain ⟨hlt, hp⟩ := hyp_part hh
    have hb : ∀ x ∈ T.take (hyp T), 0 ≤ x ∧ x < 128 := fun x hx => hT x (List.mem_of_mem_take hx)
    obtain ⟨s, hm, hl⟩ := Made.of_dec (bs := T.take (hyp T)) (T.drop (hyp T + 1)) (PS.zero _) [] L (fun x hx => by have := hT x (List.mem_of_mem_drop hx); omega) Made.base h
    refine ⟨T.take (hyp T), s, _, hb, hm, hl, ?_⟩
    have hne : T.take (hyp T) ≠ [] := by
      intro e
      have := congrArg List.length e
      rw [List.length_take, Nat.min_eq_left (by omega), List.length_nil] at this
      omega
    rw [joinT_some hne, List.nil_append]
    unfold smallT
    have ha : nth T (hyp T) = 45 := hypK_at hh
    rw [drop_at _ _ hlt, ha, List.map_cons]
    rfl
  · rw [textD_none hh] at h
    obtain ⟨s, hm, hl⟩ := Made.of_dec (bs := []) T (PS.zero _) [] L (fun x hx => by have := hT x hx; omega) Made.base h
    refine ⟨[], s, _, fun x hx => by simp at hx, hm, hl, ?_⟩
    rw [joinT_nil, List.nil_append]
    unfold smallT
    rw [show hyp T = 0 by omega]; simp

/-- A number's digits are nine at most, if it is none too great. -/
theorem putL_len2 (b : Int) (k : Nat) : ∀ p n : Nat, n < 26 * 10 ^ k → (putL b p n).length ≤ k + 2 := by
  induction k with
  | zero =>
    intro p n h
    have ht := thr_rng b p
    by_cases hl : n < thr b p
    · rw [putL_last hl]; simp
    · rw [putL_more hl]
      have h2 := thr_rng b (p + 1)
      have h0 : (n - thr b p) / (36 - thr b p) = 0 := Nat.div_eq_of_lt (by simp at h; omega)
      rw [h0, putL_last (by omega)]; simp
  | succ k ih =>
    intro p n h
    have ht := thr_rng b p
    by_cases hl : n < thr b p
    · rw [putL_last hl]; simp
    · rw [putL_more hl]
      have h10 := dig_ten ht.1 ht.2 (show thr b p ≤ n by omega)
      have := ih (p + 1) ((n - thr b p) / (36 - thr b p)) (by rw [Nat.pow_succ] at h; omega)
      simp; omega
theorem putL_pos (b : Int) (p n : Nat) : 1 ≤ (putL b p n).length := by
  by_cases hl : n < thr b p
  · rw [putL_last hl]; simp
  · rw [putL_more hl]; simp
theorem Made.short {bs : List Int} {s : PS} {t : List Int} (h : Made bs s t) : s.l.length ≤ 120 → s.l.length ≤ t.length + bs.length ∧ t.length + 9 * bs.length ≤ 9 * s.l.length := by
  induction h using Made.ind with
  | base => intro _; simp [PS.zero]
  | @step s s' t d h hd hs ih =>
    obtain ⟨v, p, hv, hp, he, hb, rfl⟩ := stepD_some hs
    simp only [insL_len]
    intro hl
    obtain ⟨i1, i2⟩ := ih (by omega)
    have hv2 := (isB_iff.1 hb).1
    have hm : (v - s.n) * (s.l.length + 1) ≤ 1114111 * 120 := Nat.mul_le_mul (by omega) hl
    have hp1 := putL_pos s.b 0 d
    have hp2 := putL_len2 s.b 7 0 d (by have : (10 : Nat) ^ 7 = 10000000 := by decide
                                        omega)
    rw [List.length_append]
    omega
theorem TextOf.short {L T : List Int} (h : TextOf L T) (hl : L.length ≤ 120) {basic : Nat} (hb : basic = (L.filter (fun y => decide (y < 128))).length) :
    basic ≤ L.length ∧ basic + min basic 1 + (L.length - basic) ≤ T.length ∧ T.length ≤ basic + min basic 1 + (L.length - basic) + 8 * (L.length - basic) := by
  obtain ⟨bs, s, t, hbs, hm, rfl, rfl⟩ := h
  rw [hm.basic (fun x hx => (hbs x hx).2)] at hb
  have hs := hm.short hl
  have hle : bs.length ≤ s.l.length := by
    rcases made_len hm with ⟨h1, -, -⟩ | ⟨h1, -⟩
    · rw [h1]; exact Nat.le_refl _
    · omega
  subst hb
  by_cases he : bs = []
  · subst he; rw [joinT_nil]; simp at hs ⊢; omega
  · have hp : 0 < bs.length := List.length_pos_iff.2 he
    rw [joinT_some he, List.length_append, List.length_cons]
    omega

/-- The numbers of a list whose places are picked. -/
def selL (P : Nat → Bool) : List Int → List Int
  | [] => []
  | x :: r => if P 0 then x :: selL (fun k => P (k + 1)) r else selL (fun k => P (k + 1)) r
/-- How many of the first k places are picked. -/
def cnt (P : Nat → Bool) : Nat → Nat
  | 0 => 0
  | k + 1 => cnt P k + (if P k then 1 else 0)
theorem cnt_shift (P : Nat → Bool) (k : Nat) : cnt P (k + 1) = (if P 0 then 1 else 0) + cnt (fun j => P (j + 1)) k := by
  induction k with
  | zero => simp [cnt]
  | succ k ih => rw [cnt, ih, cnt]; omega
theorem selL_len (L : List Int) : ∀ P : Nat → Bool, (selL P L).length = cnt P L.length := by
  induction L with
  | nil => intro P; rfl
  | cons x r ih =>
    intro P
    rw [List.length_cons, cnt_shift, selL]
    split
    · rw [List.length_cons, ih]; omega
    · rw [ih]; omega
theorem cnt_le {P Q : Nat → Bool} {k : Nat} (h : ∀ j, j < k → P j = true → Q j = true) : cnt P k ≤ cnt Q k := by
  induction k with
  | zero => exact Nat.le_refl _
  | succ k ih =>
    have h1 := ih (fun j hj => h j (by omega))
    have h2 := h k (by omega)
    rw [cnt, cnt]
    cases hp : P k
    · simp; omega
    · rw [h2 hp]; omega
theorem cnt_congr {P Q : Nat → Bool} {k : Nat} (h : ∀ j, j < k → P j = Q j) : cnt P k = cnt Q k := by
  apply Nat.le_antisymm
  · exact cnt_le (fun j hj hp => by rw [← h j hj]; exact hp)
  · exact cnt_le (fun j hj hp => by rw [h j hj]; exact hp)
theorem cnt_max (P : Nat → Bool) (k : Nat) : cnt P k ≤ k := by
  induction k with
  | zero => exact Nat.le_refl _
  | succ k ih => rw [cnt]; split <;> omega
/-- If not all are picked, some place isn't. -/
theorem cnt_miss {P : Nat → Bool} {k : Nat} (h : cnt P k < k) : ∃ j, j < k ∧ P j = false := by
  induction k with
  | zero => omega
  | succ k ih =>
    cases hp : P k
    · exact ⟨k, by omega, hp⟩
    · rw [cnt, hp] at h
      obtain ⟨j, hj, hj2⟩ := ih (by simpa using h)
      exact ⟨j, by omega, hj2⟩
/-- More places, and one of them new: more are picked. -/
theorem cnt_lt {P Q : Nat → Bool} {k i : Nat} (h : ∀ j, j < k → P j = true → Q j = true) (hi : i < k) (hp : P i = false) (hq : Q i = true) : cnt P k < cnt Q k := by
  induction k with
  | zero => omega
  | succ k ih =>
    rw [cnt, cnt]
    by_cases e : i = k
    · subst e
      have := cnt_le (k := i) (fun j hj => h j (by omega))
      rw [hp, hq]; simp; omega
    · have h1 := ih (fun j hj => h j (by omega)) (by omega)
      have h2 := h k (by omega)
      cases hpk : P k
      · simp; omega
      · rw [h2 hpk]; omega
theorem selL_congr (L : List Int) : ∀ {P Q : Nat → Bool}, (∀ j, j < L.length → P j = Q j) → selL P L = selL Q L := by
  induction L with
  | nil => intro P Q h; rfl
  | cons x r ih =>
    intro P Q h
    rw [selL, selL, h 0 (by simp), ih (fun j hj => h (j + 1) (by simp; omega))]
theorem selL_all {P : Nat → Bool} (L : List Int) (h : ∀ j, j < L.length → P j = true) : selL P L = L := by
  induction L generalizing P with
  | nil => rfl
  | cons x r ih => rw [selL, h 0 (by simp), if_pos rfl, ih (fun j hj => h (j + 1) (by simp; omega))]
/-- One place more: that number is put in. -/
theorem selL_ins (L : List Int) : ∀ {P Q : Nat → Bool} {a : Nat}, a < L.length → P a = false → Q a = true → (∀ j, j ≠ a → Q j = P j) → selL Q L = insL (selL P L) (cnt P a) (nth L a) := by
  induction L with
  | nil => intro P Q a ha; simp at ha
  | cons x r ih =>
    intro P Q a ha hp hq h
    cases a with
    | zero =>
      rw [selL, selL, hp, hq, if_pos rfl, if_neg (by simp), nth_cons_zero, selL_congr r (P := fun k => Q (k + 1)) (Q := fun k => P (k + 1)) (fun j hj => h (j + 1) (by omega))]
      simp [insL, cnt]
    | succ a =>
      have h1 := ih (P := fun k => P (k + 1)) (Q := fun k => Q (k + 1)) (a := a) (by simpa using ha) hp hq (fun j hj => h (j + 1) (by omega))
      rw [selL, selL, h 0 (by omega), h1, nth_cons_succ, cnt_shift]
      cases P 0
      · simp
      · simp [insL, Nat.add_comm 1]
theorem cnt_bound (P : Nat → Bool) {a k : Nat} (h : a ≤ k) : cnt P a ≤ cnt P k := by
  induction k with
  | zero => obtain rfl : a = 0 := by omega
            exact Nat.le_refl _
  | succ k ih =>
    by_cases e : a = k + 1
    · rw [e]; exact Nat.le_refl _
    · rw [cnt]; have := ih (by omega); omega
end Pun
end Go.Proofs.Ytemgbmacdpnepaa
