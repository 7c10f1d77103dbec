/-
  Layer 10 as plain facts on lists: in which order a list's scalars are put in, by counting those that are ahead. No Go text is named here; no condition.
-/
import Derived.Test.YtemgbmacdpnepaaPunMat2
namespace Go.Proofs.Ytemgbmacdpnepaa
namespace Pun
open Bas Bia Sca
set_option linter.unusedVariables false

/-- Is the scalar at a place put in ahead of that at another one? -/
def aheadB (L : List Int) (i k : Nat) : Bool :=
  if nth L i < 128 ∨ nth L k < 128 then decide (nth L i < 128) && decide (128 ≤ nth L k)
  else decide (nth L i < nth L k) || (decide (nth L i = nth L k) && decide (i < k))
/-- .. the basic ones in their order. -/
def aheadT (L : List Int) (k i : Nat) : Bool := aheadB L k i || (decide (nth L k < 128) && decide (nth L i < 128) && decide (k < i))
theorem aheadT_iff (L : List Int) (k i : Nat) : aheadT L k i = true ↔
    (nth L k < 128 ∧ 128 ≤ nth L i) ∨ (nth L k < 128 ∧ nth L i < 128 ∧ k < i) ∨ (128 ≤ nth L k ∧ 128 ≤ nth L i ∧ (nth L k < nth L i ∨ (nth L k = nth L i ∧ k < i))) := by
  unfold aheadT aheadB
  split
  · simp only [Bool.or_eq_true, Bool.and_eq_true, decide_eq_true_eq]; omega
  · simp only [Bool.or_eq_true, Bool.and_eq_true, decide_eq_true_eq]; omega
theorem aheadT_great {L : List Int} {k i : Nat} (h : 128 ≤ nth L i) : aheadT L k i = aheadB L k i := by
  unfold aheadT
  rw [show decide (nth L i < 128) = false by simp; omega]
  simp
/-- How many are ahead. -/
def rank (L : List Int) (i : Nat) : Nat := cnt (fun k => aheadT L k i) L.length
theorem aheadT_self (L : List Int) (k : Nat) : aheadT L k k = false := by
  cases h : aheadT L k k
  · rfl
  · rw [aheadT_iff] at h; omega
theorem aheadT_total (L : List Int) {k i : Nat} (h : k ≠ i) : aheadT L k i = true ∨ aheadT L i k = true := by
  rw [aheadT_iff, aheadT_iff]; omega
theorem aheadT_trans {L : List Int} {a b c : Nat} (h : aheadT L a b = true) (h' : aheadT L b c = true) : aheadT L a c = true := by
  rw [aheadT_iff] at h h' ⊢; omega
theorem rank_lt {L : List Int} {k i : Nat} (hk : k < L.length) (h : aheadT L k i = true) : rank L k < rank L i :=
  cnt_lt (i := k) (fun j hj hp => aheadT_trans hp h) hk (aheadT_self L k) h
theorem rank_iff {L : List Int} {k i : Nat} (hk : k < L.length) (hi : i < L.length) : aheadT L k i = true ↔ rank L k < rank L i := by
  refine ⟨rank_lt hk, fun h => ?_⟩
  rcases aheadT_total L (show k ≠ i by intro e; subst e; omega) with h1 | h1
  · exact h1
  · have := rank_lt hi h1; omega
theorem rank_inj {L : List Int} {k i : Nat} (hk : k < L.length) (hi : i < L.length) (h : rank L k = rank L i) : k = i := by
  by_cases e : k = i
  · exact e
  · rcases aheadT_total L e with h1 | h1
    · have := rank_lt hk h1; omega
    · have := rank_lt hi h1; omega
/-- The places whose scalars are put in first. -/
def pick (L : List Int) (d k : Nat) : Bool := decide (k < L.length) && decide (rank L k < d)
theorem pick_iff (L : List Int) (d k : Nat) : pick L d k = true ↔ k < L.length ∧ rank L k < d := by unfold pick; simp
/-- A least one of some that there is. -/
theorem least_of {f : Nat → Nat} {n d : Nat} (h : ∃ j, j < n ∧ d ≤ f j) : ∃ i, i < n ∧ d ≤ f i ∧ ∀ k, k < n → d ≤ f k → f i ≤ f k := by
  obtain ⟨j, hj, hd⟩ := h
  obtain ⟨m, hm⟩ : ∃ m, f j = m := ⟨_, rfl⟩
  induction m using Nat.strongRecOn generalizing j with
  | _ m ih =>
    by_cases hk : ∃ k, k < n ∧ d ≤ f k ∧ f k < m
    · obtain ⟨k, hk1, hk2, hk3⟩ := hk
      exact ih (f k) hk3 k hk1 hk2 rfl
    · refine ⟨j, hj, hd, fun k hk1 hk2 => ?_⟩
      rcases Nat.lt_or_ge (f k) (f j) with h | h
      · exact absurd ⟨k, hk1, hk2, by omega⟩ hk
      · exact h
/-- The next one that is put in. -/
theorem rank_next {L : List Int} {d : Nat} (hc : cnt (pick L d) L.length = d) (hd : d < L.length) : ∃ a, a < L.length ∧ rank L a = d := by
  obtain ⟨j, hj, hjp⟩ := cnt_miss (P := pick L d) (k := L.length) (by omega)
  have hjd : d ≤ rank L j := by
    rcases Nat.lt_or_ge (rank L j) d with h | h
    · rw [(pick_iff L d j).2 ⟨hj, h⟩] at hjp; cases hjp
    · exact h
  obtain ⟨i, hi, hid, hmin⟩ := least_of (f := rank L) ⟨j, hj, hjd⟩
  refine ⟨i, hi, ?_⟩
  rw [← hc]
  apply cnt_congr
  intro k hk
  cases hp : pick L d k
  · cases ha : aheadT L k i
    · rfl
    · have h1 := rank_lt hk ha
      rcases Nat.lt_or_ge (rank L k) d with h | h
      · rw [(pick_iff L d k).2 ⟨hk, h⟩] at hp; cases hp
      · have := hmin k hk h; omega
  · have h1 := ((pick_iff L d k).1 hp).2
    exact (rank_iff hk hi).2 (by omega)
/-- One more is picked. -/
theorem pick_succ {L : List Int} {d a : Nat} (ha : a < L.length) (hr : rank L a = d) : pick L d a = false ∧ pick L (d + 1) a = true ∧ ∀ j, j ≠ a → pick L (d + 1) j = pick L d j := by
  refine ⟨?_, (pick_iff ..).2 ⟨ha, by omega⟩, fun j hj => ?_⟩
  · cases h : pick L d a
    · rfl
    · have := ((pick_iff ..).1 h).2; omega
  · cases h : pick L d j
    · cases h2 : pick L (d + 1) j
      · rfl
      · obtain ⟨h3, h4⟩ := (pick_iff ..).1 h2
        by_cases e : rank L j = d
        · exact absurd (rank_inj h3 ha (by omega)) hj
        · rw [(pick_iff L d j).2 ⟨h3, by omega⟩] at h; cases h
    · obtain ⟨h3, h4⟩ := (pick_iff ..).1 h
      exact (pick_iff ..).2 ⟨h3, by omega⟩
theorem cnt_succ {P Q : Nat → Bool} {a k : Nat} (ha : a < k) (hp : P a = false) (hq : Q a = true) (h : ∀ j, j ≠ a → Q j = P j) : cnt Q k = cnt P k + 1 := by
  induction k with
  | zero => omega
  | succ k ih =>
    rw [cnt, cnt]
    by_cases e : a = k
    · subst e
      rw [hp, hq, cnt_congr (fun j hj => h j (by omega))]; simp
    · rw [h k (fun e2 => e e2.symm), ih (by omega)]; omega
theorem cnt_below {P Q : Nat → Bool} {a k : Nat} (hk : k ≤ a) (h : ∀ j, j ≠ a → Q j = P j) : cnt Q k = cnt P k := cnt_congr (fun j hj => h j (by omega))
/-- The basic ones. -/
def bas (L : List Int) (k : Nat) : Bool := decide (nth L k < 128)
theorem rank_bas {L : List Int} {i : Nat} (hi : i < L.length) (h : nth L i < 128) : rank L i < cnt (bas L) L.length := by
  refine cnt_lt (i := i) (fun j hj hp => ?_) hi (aheadT_self L i) (by unfold bas; simpa using h)
  rw [aheadT_iff] at hp
  unfold bas; simp; omega
theorem rank_oth {L : List Int} {i : Nat} (h : 128 ≤ nth L i) : cnt (bas L) L.length ≤ rank L i := by
  refine cnt_le (fun j hj hp => ?_)
  unfold bas at hp
  simp at hp
  rw [aheadT_iff]; omega
theorem pick_bas (L : List Int) {k : Nat} (hk : k < L.length) : pick L (cnt (bas L) L.length) k = bas L k := by
  by_cases h : nth L k < 128
  · rw [(pick_iff ..).2 ⟨hk, rank_bas hk h⟩]; unfold bas; simp [h]
  · have := rank_oth (L := L) (i := k) (by omega)
    cases hp : pick L (cnt (bas L) L.length) k
    · unfold bas; simp; omega
    · have := ((pick_iff ..).1 hp).2; omega
theorem selL_bas (L : List Int) : selL (bas L) L = L.filter (fun y => decide (y < 128)) := by
  have key : ∀ (M : List Int) (P : Nat → Bool), (∀ k, k < M.length → P k = decide (nth M k < 128)) → selL P M = M.filter (fun y => decide (y < 128)) := by
    intro M
    induction M with
    | nil => intro P _; rfl
    | cons x r ih =>
      intro P h
      have h0 := h 0 (by simp)
      rw [nth_cons_zero] at h0
      have hr := ih (fun k => P (k + 1)) (fun k hk => by rw [h (k + 1) (by simp; omega), nth_cons_succ])
      rw [selL, h0, hr, List.filter_cons]
  exact key L (bas L) (fun k _ => rfl)
/-- Where the text of a list stands behind d scalars: by the order of their places. -/
structure BytRel (L : List Int) (bs : List Int) (d n was : Nat) (b : Int) (t : List Int) : Prop where
  made : Made bs ⟨selL (pick L d) L, n, was, b, decide (d = bs.length)⟩ t
  c : cnt (pick L d) L.length = d
  le : bs.length ≤ d
  last : (d = bs.length ∧ n = 128 ∧ was = 0) ∨ (∃ a, a < L.length ∧ rank L a + 1 = d ∧ 128 ≤ nth L a ∧ nth L a = n ∧ was = cnt (pick L d) a + 1)
theorem BytRel.zero (L : List Int) : BytRel L (L.filter (fun y => decide (y < 128))) (L.filter (fun y => decide (y < 128))).length 128 0 72 [] := by
  have hs : selL (pick L (cnt (bas L) L.length)) L = L.filter (fun y => decide (y < 128)) := by
    rw [← selL_bas]; exact selL_congr L (fun j hj => pick_bas L hj)
  have hl : (L.filter (fun y => decide (y < 128))).length = cnt (bas L) L.length := by rw [← selL_bas, selL_len]
  rw [hl]
  refine ⟨?_, ?_, by rw [hl]; exact Nat.le_refl _, .inl ⟨hl.symm, rfl, rfl⟩⟩
  · rw [hs, show decide (cnt (bas L) L.length = (L.filter (fun y => decide (y < 128))).length) = true by simp [hl]]
    exact Made.base
  · exact cnt_congr (fun j hj => pick_bas L hj)
/-- The next scalar: where it stands, where it is put in, by which number. -/
structure Next (L : List Int) (bs : List Int) (d n was a p v : Nat) : Prop where
  ha : a < L.length
  hr : rank L a = d
  hp : p = cnt (pick L d) a
  pl : p ≤ d
  hv : nth L a = v
  v0 : 128 ≤ v
  nv : n ≤ v
  hw : was ≤ (v - n) * (d + 1) + p
theorem BytRel.find {L bs : List Int} {d n was : Nat} {b : Int} {t : List Int} (hbs : bs = L.filter (fun y => decide (y < 128))) (h : BytRel L bs d n was b t) (hd : d < L.length) : ∃ a p v, Next L bs d n was a p v := by
  obtain ⟨a, ha, hr⟩ := rank_next h.c hd
  have hl : bs.length = Pun.cnt (bas L) L.length := by rw [hbs, ← selL_bas, selL_len]
  have hv : 128 ≤ nth L a := by
    rcases Int.lt_or_le (nth L a) 128 with h1 | h1
    · have := rank_bas ha h1
      have := h.le
      omega
    · exact h1
  obtain ⟨v, hve⟩ : ∃ v : Nat, nth L a = v := ⟨(nth L a).toNat, by omega⟩
  have hpl : Pun.cnt (pick L d) a ≤ d := by
    have := cnt_bound (pick L d) (show a ≤ L.length by omega)
    rw [h.c] at this
    exact this
  refine ⟨a, _, v, ha, hr, rfl, hpl, hve, by omega, ?_, ?_⟩
  · rcases h.last with ⟨_, h2, _⟩ | ⟨a0, h1, h2, h3, h4, h5⟩
    · omega
    · have := (rank_iff h1 ha).2 (by omega)
      rw [aheadT_iff] at this
      omega
  · rcases h.last with ⟨_, _, h2⟩ | ⟨a0, h1, h2, h3, h4, h5⟩
    · omega
    · have hah := (rank_iff h1 ha).2 (by omega)
      rw [aheadT_iff] at hah
      by_cases e : v = n
      · have hlt : a0 < a := by omega
        have h6 := cnt_bound (pick L d) (show a0 + 1 ≤ a by omega)
        rw [Pun.cnt, (pick_iff L d a0).2 ⟨h1, by omega⟩] at h6
        simp at h6
        omega
      · have h6 := cnt_bound (pick L d) (show a0 + 1 ≤ L.length by omega)
        rw [h.c, Pun.cnt, (pick_iff L d a0).2 ⟨h1, by omega⟩] at h6
        simp at h6
        have h7 : 1 * (d + 1) ≤ (v - n) * (d + 1) := Nat.mul_le_mul_right _ (by omega)
        omega
/-- .. and it is put in. -/
theorem BytRel.next {L bs : List Int} {d n was : Nat} {b : Int} {t : List Int} (h : BytRel L bs d n was b t) {a p v : Nat} (N : Next L bs d n was a p v) (hb : isB (v : Int) = true)
    {x : Nat} (hx : x = (v - n) * (d + 1) + p - was) (hxt : x ≤ top) : BytRel L bs (d + 1) v (p + 1) (adapt x (d + 1) (decide (d = bs.length)) : Nat) (t ++ putL b 0 x) := by
  have hw := N.hw
  have hlen : (selL (pick L d) L).length = d := by rw [selL_len]; exact h.c
  obtain ⟨p1, p2, p3⟩ := pick_succ N.ha N.hr
  have hsel := selL_ins L N.ha p1 p2 p3
  have hst := stepD_of (s := ⟨selL (pick L d) L, n, was, b, decide (d = bs.length)⟩) (d := x) (v := v) (p := p) N.nv (by simp only [hlen]; exact N.pl) (by simp only [hlen]; omega) hb
  simp only [hlen] at hst
  have hm := Made.step h.made hxt hst
  have hle := h.le
  refine ⟨?_, ?_, by omega, .inr ⟨a, N.ha, by rw [N.hr], by have := N.hv; have := N.v0; omega, N.hv, ?_⟩⟩
  · rw [hsel, N.hv, ← N.hp, show decide (d + 1 = bs.length) = false by simp; omega]
    exact hm
  · rw [cnt_succ N.ha p1 p2 p3, h.c]
  · rw [cnt_below (Nat.le_refl _) p3, ← N.hp]
theorem BytRel.done {L bs : List Int} {d n was : Nat} {b : Int} {t : List Int} (hbs : bs = L.filter (fun y => decide (y < 128))) (hL : ∀ x ∈ L, 0 ≤ x) (h : BytRel L bs d n was b t) (hd : ¬ d < L.length) : TextOf L (joinT bs t) := by
  have hc := h.c
  have hm := cnt_max (pick L d) L.length
  obtain rfl : d = L.length := by omega
  refine ⟨bs, _, t, fun x hx => ?_, h.made, ?_, rfl⟩
  · rw [hbs] at hx
    have hx2 := List.mem_filter.1 hx
    have h1 := hL x hx2.1
    have h2 := hx2.2
    simp at h2
    omega
  · simp only
    apply selL_all
    intro j hj
    cases hp : pick L L.length j
    · have h1 : ∃ i, i < L.length ∧ pick L L.length i = false := ⟨j, hj, hp⟩
      have h2 := cnt_lt (P := pick L L.length) (Q := fun _ => true) (k := L.length) (i := j) (fun _ _ _ => rfl) hj hp rfl
      have h3 := cnt_max (fun _ => true) L.length
      omega
    · rfl
end Pun
end Go.Proofs.Ytemgbmacdpnepaa
