/-
  Layer 10 as plain facts on lists: numbers put into a list, what a text denotes, that a list has one text. No Go text is named here; no condition.
-/
import Derived.Test.YtemgbmacdpnepaaBiaMath
import Derived.Test.YtemgbmacdpnepaaScaMath
namespace Go.Proofs.Ytemgbmacdpnepaa
namespace Pun
open Bas Bia Sca
set_option linter.unusedVariables false

/-- A number put into a list ahead of what stands at a place. -/
def insL (l : List Int) (p : Nat) (x : Int) : List Int := l.take p ++ x :: l.drop p
theorem insL_len (l : List Int) (p : Nat) (x : Int) : (insL l p x).length = l.length + 1 := by
  unfold insL; rw [List.length_append, List.length_cons, List.length_take, List.length_drop]; omega
theorem insL_nth_lt {l : List Int} {p k : Nat} (x : Int) (hp : p ≤ l.length) (h : k < p) : nth (insL l p x) k = nth l k := by
  unfold insL; rw [nth_append_left (by rw [List.length_take]; omega), nth_take h]
theorem insL_nth_eq {l : List Int} {p : Nat} (x : Int) (hp : p ≤ l.length) : nth (insL l p x) p = x := by
  unfold insL; rw [nth_append_right (by rw [List.length_take]; omega), List.length_take, Nat.min_eq_left hp, Nat.sub_self, nth_cons_zero]
theorem nth_drop (l : List Int) (p k : Nat) : nth (l.drop p) k = nth l (p + k) := by unfold nth; rw [List.getElem?_drop]
theorem insL_nth_gt {l : List Int} {p k : Nat} (x : Int) (hp : p ≤ l.length) (h : p < k) : nth (insL l p x) k = nth l (k - 1) := by
  unfold insL
  rw [nth_append_right (by rw [List.length_take]; omega), List.length_take, Nat.min_eq_left hp, show k - p = (k - 1 - p) + 1 by omega, nth_cons_succ, nth_drop, show p + (k - 1 - p) = k - 1 by omega]
theorem insL_inj {l m : List Int} {p : Nat} {x : Int} (hl : p ≤ l.length) (hm : p ≤ m.length) (h : insL l p x = insL m p x) : l = m := by
  unfold insL at h
  obtain ⟨h1, h2⟩ := List.append_inj h (by rw [List.length_take, List.length_take]; omega)
  rw [← List.take_append_drop p l, ← List.take_append_drop p m, h1, (List.cons.inj h2).2]
theorem insL_mem {l : List Int} {p : Nat} {x y : Int} (h : y ∈ insL l p x) : y = x ∨ y ∈ l := by
  unfold insL at h
  rcases List.mem_append.1 h with h | h
  · exact .inr (List.mem_of_mem_take h)
  · rcases List.mem_cons.1 h with h | h
    · exact .inl h
    · exact .inr (List.mem_of_mem_drop h)
theorem mem_nth {l : List Int} {x : Int} (h : x ∈ l) : ∃ k, k < l.length ∧ nth l k = x := by
  obtain ⟨i, hi, he⟩ := List.mem_iff_getElem.1 h
  exact ⟨i, hi, by rw [← he, nth, List.getElem?_eq_getElem hi]; rfl⟩

/-- Where putting in stands: the list, the scalar last put in, the place behind it, the bias, is the next number the first one? -/
structure PS where
  l : List Int
  n : Nat
  i : Nat
  b : Int
  one : Bool
/-- Ahead of the first number. -/
def PS.zero (bs : List Int) : PS := ⟨bs, 128, 0, 72, true⟩
/-- A number put in. -/
def stepD (s : PS) (d : Nat) : Option PS :=
  if isB ((s.n + (s.i + d) / (s.l.length + 1) : Nat) : Int) = true then
    some ⟨insL s.l ((s.i + d) % (s.l.length + 1)) ((s.n + (s.i + d) / (s.l.length + 1) : Nat) : Int), s.n + (s.i + d) / (s.l.length + 1), (s.i + d) % (s.l.length + 1) + 1, (adapt d (s.l.length + 1) s.one : Nat), false⟩
  else none
/-- .. told by the scalar and the place. -/
theorem stepD_of {s : PS} {d v p : Nat} (hv : s.n ≤ v) (hp : p ≤ s.l.length) (hd : s.i + d = (v - s.n) * (s.l.length + 1) + p) (hb : isB (v : Int) = true) :
    stepD s d = some ⟨insL s.l p v, v, p + 1, (adapt d (s.l.length + 1) s.one : Nat), false⟩ := by
  have h1 : (s.i + d) / (s.l.length + 1) = v - s.n := by
    rw [hd, Nat.add_comm, Nat.add_mul_div_right _ _ (by omega), Nat.div_eq_of_lt (by omega), Nat.zero_add]
  have h2 : (s.i + d) % (s.l.length + 1) = p := by
    rw [hd, Nat.add_comm, Nat.add_mul_mod_self_right, Nat.mod_eq_of_lt (by omega)]
  have h3 : s.n + (v - s.n) = v := by omega
  unfold stepD
  rw [h1, h2, h3, if_pos hb]
theorem stepD_none {s : PS} {d v : Nat} (hv : s.n + (s.i + d) / (s.l.length + 1) = v) (hb : isB (v : Int) = false) : stepD s d = none := by
  unfold stepD; rw [hv, hb]; simp
theorem stepD_some {s s' : PS} {d : Nat} (h : stepD s d = some s') :
    ∃ v p, s.n ≤ v ∧ p ≤ s.l.length ∧ s.i + d = (v - s.n) * (s.l.length + 1) + p ∧ isB (v : Int) = true ∧ s' = ⟨insL s.l p v, v, p + 1, (adapt d (s.l.length + 1) s.one : Nat), false⟩ := by
  unfold stepD at h
  split at h
  · rename_i hb
    refine ⟨_, _, Nat.le_add_right _ _, ?_, ?_, hb, (Option.some.inj h).symm⟩
    · have := Nat.mod_lt (s.i + d) (y := s.l.length + 1) (by omega)
      omega
    · rw [Nat.add_sub_cancel_left, Nat.mul_comm]; exact (Nat.div_add_mod _ _).symm
  · cases h

/-- The place behind a number, from any place on. -/
theorem getF_shift (b : Int) (l : List Int) : ∀ p q r n w : Nat, getF b p (q + r) n w l = ((getF b p q n w l).1, (if (getF b p q n w l).2.2 = 0 then (getF b p q n w l).2.1 + r else 0), (getF b p q n w l).2.2) := by
  induction l with
  | nil => intro p q r n w; rfl
  | cons c t ih =>
    intro p q r n w
    by_cases h1 : digI c < 0
    · rw [getF_form h1, getF_form h1]; rfl
    · obtain ⟨d, hd, -⟩ := dig_nat h1
      by_cases h2 : d * w > top - n
      · rw [getF_long hd h2, getF_long hd h2]; rfl
      · by_cases h3 : d < thr b p
        · rw [getF_last hd h2 h3, getF_last hd h2 h3]; simp; omega
        · rw [getF_more hd h2 h3, getF_more hd h2 h3, show q + r + 1 = (q + 1) + r by omega, ih]
theorem getF_place (b : Int) (l : List Int) : ∀ p q n w N e : Nat, getF b p q n w l = (N, e, 0) → q < e ∧ e ≤ q + l.length := by
  induction l with
  | nil => intro p q n w N e h; rw [getF_nil] at h; simp at h
  | cons c t ih =>
    intro p q n w N e h
    by_cases h1 : digI c < 0
    · rw [getF_form h1] at h; simp at h
    · obtain ⟨d, hd, -⟩ := dig_nat h1
      by_cases h2 : d * w > top - n
      · rw [getF_long hd h2] at h; simp at h
      · by_cases h3 : d < thr b p
        · rw [getF_last hd h2 h3] at h
          simp only [Prod.mk.injEq, and_true] at h
          simp; omega
        · rw [getF_more hd h2 h3] at h
          have := ih _ _ _ _ _ _ h
          simp; omega
/-- Great and small letters are the same. -/
theorem digI_small (c : Int) : digI (smallI c) = digI c := by
  unfold smallI digI
  split
  · repeat' split
    all_goals omega
  · rfl
theorem getF_letters (b : Int) (l : List Int) : ∀ p q n w : Nat, getF b p q n w (l.map smallI) = getF b p q n w l := by
  induction l with
  | nil => intro p q n w; rfl
  | cons c t ih =>
    intro p q n w
    rw [List.map_cons, getF, getF, digI_small, ih]

/-- What digits come to, by steps that are counted. -/
def decF : Nat → PS → List Int → Option (List Int)
  | 0, s, t => if t.length = 0 then some s.l else none
  | f + 1, s, t =>
    if t.length = 0 then some s.l
    else if (getF s.b 0 0 0 1 t).2.2 ≠ 0 then none
    else if (getF s.b 0 0 0 1 t).2.1 = 0 then none
    else match stepD s (getF s.b 0 0 0 1 t).1 with
      | none => none
      | some s' => decF f s' (t.drop (getF s.b 0 0 0 1 t).2.1)
theorem decF_fuel (f : Nat) : ∀ (g : Nat) (s : PS) (t : List Int), t.length ≤ f → t.length ≤ g → decF f s t = decF g s t := by
  induction f with
  | zero =>
    intro g s t h1 h2
    have h0 : t.length = 0 := by omega
    cases g with
    | zero => rfl
    | succ g => rw [decF, decF, if_pos h0, if_pos h0]
  | succ f ih =>
    intro g s t h1 h2
    cases g with
    | zero =>
      have h0 : t.length = 0 := by omega
      rw [decF, decF, if_pos h0, if_pos h0]
    | succ g =>
      rw [decF, decF]
      by_cases h0 : t.length = 0
      · rw [if_pos h0, if_pos h0]
      · rw [if_neg h0, if_neg h0]
        by_cases h3 : (getF s.b 0 0 0 1 t).2.2 ≠ 0
        · rw [if_pos h3, if_pos h3]
        · rw [if_neg h3, if_neg h3]
          by_cases h4 : (getF s.b 0 0 0 1 t).2.1 = 0
          · rw [if_pos h4, if_pos h4]
          · rw [if_neg h4, if_neg h4]
            cases stepD s (getF s.b 0 0 0 1 t).1 with
            | none => rfl
            | some s' => exact ih g s' _ (by rw [List.length_drop]; omega) (by rw [List.length_drop]; omega)
/-- What digits come to. -/
def decL (s : PS) (t : List Int) : Option (List Int) := decF t.length s t
theorem decL_eq (s : PS) (t : List Int) : decL s t =
    if t.length = 0 then some s.l
    else if (getF s.b 0 0 0 1 t).2.2 ≠ 0 then none
    else if (getF s.b 0 0 0 1 t).2.1 = 0 then none
    else match stepD s (getF s.b 0 0 0 1 t).1 with
      | none => none
      | some s' => decL s' (t.drop (getF s.b 0 0 0 1 t).2.1) := by
  unfold decL
  rw [decF_fuel t.length (t.length + 1) s t (Nat.le_refl _) (by omega), decF]
  by_cases h0 : t.length = 0
  · rw [if_pos h0, if_pos h0]
  · rw [if_neg h0, if_neg h0]
    by_cases h3 : (getF s.b 0 0 0 1 t).2.2 ≠ 0
    · rw [if_pos h3, if_pos h3]
    · rw [if_neg h3, if_neg h3]
      by_cases h4 : (getF s.b 0 0 0 1 t).2.1 = 0
      · rw [if_pos h4, if_pos h4]
      · rw [if_neg h4, if_neg h4]
        cases stepD s (getF s.b 0 0 0 1 t).1 with
        | none => rfl
        | some s' => exact decF_fuel _ _ s' _ (by rw [List.length_drop]; omega) (Nat.le_refl _)
theorem decL_nil (s : PS) : decL s [] = some s.l := by rw [decL_eq]; simp
theorem decL_err {s : PS} {t : List Int} (h : t ≠ []) (he : (getF s.b 0 0 0 1 t).2.2 ≠ 0) : decL s t = none := by
  have : t.length ≠ 0 := fun h0 => h (List.eq_nil_of_length_eq_zero h0)
  rw [decL_eq, if_neg this, if_pos he]
theorem decL_none {s : PS} {t : List Int} {d e : Nat} (hg : getF s.b 0 0 0 1 t = (d, e, 0)) (hs : stepD s d = none) : decL s t = none := by
  have hp := getF_place _ _ _ _ _ _ _ _ hg
  have : t.length ≠ 0 := by omega
  rw [decL_eq, if_neg this, hg, if_neg (by simp), if_neg (by simp; omega)]
  simp only [hs]
theorem decL_some {s s' : PS} {t : List Int} {d e : Nat} (hg : getF s.b 0 0 0 1 t = (d, e, 0)) (hs : stepD s d = some s') : decL s t = decL s' (t.drop e) := by
  have hp := getF_place _ _ _ _ _ _ _ _ hg
  have : t.length ≠ 0 := by omega
  rw [decL_eq, if_neg this, hg, if_neg (by simp), if_neg (by simp; omega)]
  simp only [hs]
theorem decL_letters (s : PS) (t : List Int) : decL s (t.map smallI) = decL s t := by
  obtain ⟨n, hn⟩ : ∃ n, t.length = n := ⟨_, rfl⟩
  induction n using Nat.strongRecOn generalizing s t with
  | _ n ih =>
    by_cases h0 : t = []
    · rw [h0]; rfl
    · have h0' : t.map smallI ≠ [] := by simpa using h0
      by_cases he : (getF s.b 0 0 0 1 t).2.2 ≠ 0
      · rw [decL_err h0 he, decL_err h0' (by rw [getF_letters]; exact he)]
      · obtain ⟨⟨d, e, er⟩, hg⟩ : ∃ g, getF s.b 0 0 0 1 t = g := ⟨_, rfl⟩
        rw [hg] at he
        obtain rfl : er = 0 := by simpa using he
        have hp := getF_place _ _ _ _ _ _ _ _ hg
        cases hs : stepD s d with
        | none => rw [decL_none hg hs, decL_none (by rw [getF_letters]; exact hg) hs]
        | some s' =>
          rw [decL_some hg hs, decL_some (by rw [getF_letters]; exact hg) hs, ← List.map_drop]
          exact ih _ (by rw [← hn, List.length_drop]; omega) s' (t.drop e) rfl

/-- Numbers (the last one first) put in one behind the other, and their digits with small letters. -/
def madeR (bs : List Int) : List Nat → Option (PS × List Int)
  | [] => some (PS.zero bs, [])
  | d :: r => match madeR bs r with
    | none => none
    | some x => if d ≤ top then (match stepD x.1 d with | none => none | some s' => some (s', x.2 ++ putL x.1.b 0 d)) else none
/-- .. whichever they are. -/
def Made (bs : List Int) (s : PS) (t : List Int) : Prop := ∃ ds, madeR bs ds = some (s, t)
theorem Made.base {bs : List Int} : Made bs (PS.zero bs) [] := ⟨[], rfl⟩
theorem Made.step {bs : List Int} {s s' : PS} {t : List Int} {d : Nat} (h : Made bs s t) (hd : d ≤ top) (hs : stepD s d = some s') : Made bs s' (t ++ putL s.b 0 d) := by
  obtain ⟨ds, hds⟩ := h
  refine ⟨d :: ds, ?_⟩
  rw [madeR, hds]
  simp only [hd, if_true, hs]
theorem Made.ind {bs : List Int} {motive : (s : PS) → (t : List Int) → Made bs s t → Prop} (base : motive (PS.zero bs) [] Made.base)
    (step : ∀ {s s' : PS} {t : List Int} {d : Nat} (h : Made bs s t) (hd : d ≤ top) (hs : stepD s d = some s'), motive s t h → motive s' (t ++ putL s.b 0 d) (Made.step h hd hs)) {s : PS} {t : List Int} (h : Made bs s t) : motive s t h := by
  have key : ∀ (ds : List Nat) (s : PS) (t : List Int) (h : madeR bs ds = some (s, t)), motive s t ⟨ds, h⟩ := by
    intro ds
    induction ds with
    | nil =>
      intro s t h
      rw [madeR] at h
      simp only [Option.some.injEq, Prod.mk.injEq] at h
      obtain ⟨rfl, rfl⟩ := h
      exact base
    | cons d r ih =>
      intro s t h
      have h' := h
      rw [madeR] at h'
      cases hm : madeR bs r with
      | none => rw [hm] at h'; cases h'
      | some x =>
        obtain ⟨s1, t1⟩ := x
        rw [hm] at h'
        by_cases hd : d ≤ top
        · simp only [hd, if_true] at h'
          cases hs : stepD s1 d with
          | none => rw [hs] at h'; cases h'
          | some s' =>
            rw [hs] at h'
            simp only [Option.some.injEq, Prod.mk.injEq] at h'
            obtain ⟨rfl, rfl⟩ := h'
            exact step ⟨r, hm⟩ hd hs (ih s1 t1 hm)
        · simp only [hd, if_false] at h'
          cases h'
  obtain ⟨ds, hds⟩ := h
  exact key ds s t hds
theorem Made.split {bs : List Int} {s : PS} {t : List Int} (h : Made bs s t) : (s = PS.zero bs ∧ t = []) ∨ ∃ s1 t1 d, Made bs s1 t1 ∧ d ≤ top ∧ stepD s1 d = some s ∧ t = t1 ++ putL s1.b 0 d := by
  induction h using Made.ind with
  | base => exact .inl ⟨rfl, rfl⟩
  | step h hd hs ih => exact .inr ⟨_, _, _, h, hd, hs, rfl⟩
/-- What is put in is told. -/
theorem Made.dec {bs : List Int} {s : PS} {t : List Int} (h : Made bs s t) : ∀ r, decL (PS.zero bs) (t ++ r) = decL s r := by
  induction h using Made.ind with
  | base => intro r; rfl
  | @step s s' t d h hd hs ih =>
    intro r
    rw [List.append_assoc, ih]
    have hg := get_put s.b d 0 0 0 1 r (Nat.le_refl _) (by omega)
    rw [Nat.zero_add, Nat.mul_one, Nat.zero_add] at hg
    rw [decL_some hg hs, List.drop_append_of_le_length (Nat.le_refl _), List.drop_of_length_le (Nat.le_refl _), List.nil_append]
/-- What is told was put in. -/
theorem Made.of_dec {bs : List Int} (u : List Int) : ∀ (s : PS) (t l : List Int), (∀ x ∈ u, 0 ≤ x ∧ x < 256) → Made bs s t → decL s u = some l → ∃ s', Made bs s' (t ++ u.map smallI) ∧ s'.l = l := by
  obtain ⟨n, hn⟩ : ∃ n, u.length = n := ⟨_, rfl⟩
  induction n using Nat.strongRecOn generalizing u with
  | _ n ih =>
    intro s t l hu h hd
    by_cases h0 : u = []
    · subst h0
      rw [decL_nil] at hd
      exact ⟨s, by simpa using h, Option.some.inj hd⟩
    · by_cases he : (getF s.b 0 0 0 1 u).2.2 ≠ 0
      · rw [decL_err h0 he] at hd; cases hd
      · obtain ⟨⟨d, e, er⟩, hg⟩ : ∃ g, getF s.b 0 0 0 1 u = g := ⟨_, rfl⟩
        rw [hg] at he
        obtain rfl : er = 0 := by simpa using he
        obtain ⟨m, k, h1, h2, h3, h4, h5, h6⟩ := put_get s.b u 0 0 0 1 d e hu (Nat.le_refl _) (Nat.zero_le _) hg
        rw [Nat.zero_add] at h1 h5
        rw [Nat.mul_one] at h5
        subst h1 h5
        cases hs : stepD s d with
        | none => rw [decL_none hg hs] at hd; cases hd
        | some s' =>
          rw [decL_some hg hs] at hd
          obtain ⟨s2, h7, h8⟩ := ih _ (by rw [← hn, List.length_drop]; omega) (u.drop e) rfl s' (t ++ putL s.b 0 d) l (fun x hx => hu x (List.mem_of_mem_drop hx)) (Made.step h h4 hs) hd
          refine ⟨s2, ?_, h8⟩
          rw [h6, List.append_assoc, ← List.map_append, List.take_append_drop] at h7
          exact h7

/-- What is known wherever numbers were put in. -/
structure Inv (bs : List Int) (s : PS) : Prop where
  n : 128 ≤ s.n
  i : s.i ≤ s.l.length
  le : ∀ k, k < s.l.length → nth s.l k ≤ s.n
  lt : ∀ k, s.i ≤ k → k < s.l.length → nth s.l k < s.n
theorem Inv.zero {bs : List Int} (h : ∀ x ∈ bs, x < 128) : Inv bs (PS.zero bs) :=
  ⟨by simp [PS.zero], Nat.zero_le _, fun k hk => by have := h _ (nth_mem hk); simp [PS.zero]; omega, fun k _ hk => by have := h _ (nth_mem hk); simp [PS.zero]; omega⟩
theorem Inv.next {bs : List Int} {s : PS} (h : Inv bs s) {v p : Nat} {b : Int} {o : Bool} {d : Nat} (hv : s.n ≤ v) (hp : p ≤ s.l.length) (hd : s.i + d = (v - s.n) * (s.l.length + 1) + p) : Inv bs ⟨insL s.l p v, v, p + 1, b, o⟩ := by
  have hi := h.i
  have hn := h.n
  refine ⟨by simp only; omega, by simp only [insL_len]; omega, fun k hk => ?_, fun k hk hk2 => ?_⟩
  · simp only [insL_len] at hk ⊢
    rcases Nat.lt_trichotomy k p with hlt | rfl | hgt
    · rw [insL_nth_lt _ hp hlt]
      have := h.le k (by omega)
      omega
    · rw [insL_nth_eq _ hp]; exact Int.le_refl _
    · rw [insL_nth_gt _ hp hgt]
      have := h.le (k - 1) (by omega)
      omega
  · simp only [insL_len] at hk hk2 ⊢
    rw [insL_nth_gt _ hp (by omega)]
    by_cases he : v = s.n
    · rw [he, Nat.sub_self, Nat.zero_mul, Nat.zero_add] at hd
      have := h.lt (k - 1) (by omega) (by omega)
      omega
    · have := h.le (k - 1) (by omega)
      omega
theorem Made.inv {bs : List Int} {s : PS} {t : List Int} (hb : ∀ x ∈ bs, x < 128) (h : Made bs s t) : Inv bs s := by
  induction h using Made.ind with
  | base => exact Inv.zero hb
  | step h hd hs ih =>
    obtain ⟨v, p, hv, hp, he, -, rfl⟩ := stepD_some hs
    exact ih.next hv hp he
/-- The last of the greatest numbers stands at one place. -/
theorem last_max {X : List Int} {v v' p p' : Nat} (hp : p < X.length) (hp' : p' < X.length) (h1 : nth X p = v) (h1' : nth X p' = v')
    (h2 : ∀ k, k < X.length → nth X k ≤ v) (h2' : ∀ k, k < X.length → nth X k ≤ v') (h3 : ∀ k, p < k → k < X.length → nth X k < v) (h3' : ∀ k, p' < k → k < X.length → nth X k < v') : v = v' ∧ p = p' := by
  have e : v = v' := by
    have := h2 p' hp'
    have := h2' p hp
    omega
  refine ⟨e, ?_⟩
  rcases Nat.lt_trichotomy p p' with h | h | h
  · have := h3 p' h hp'
    omega
  · exact h
  · have := h3' p h hp
    omega
theorem made_len {bs : List Int} {s : PS} {t : List Int} (h : Made bs s t) : (s.l = bs ∧ s = PS.zero bs ∧ t = []) ∨ (bs.length < s.l.length ∧ (128 : Int) ≤ s.n) := by
  induction h using Made.ind with
  | base => exact .inl ⟨rfl, rfl, rfl⟩
  | @step s s' t d h hd hs ih =>
    obtain ⟨v, p, hv, hp, he, -, rfl⟩ := stepD_some hs
    right
    simp only [insL_len]
    rcases ih with ⟨h1, h2, h3⟩ | ⟨h1, h2⟩
    · rw [h1]; refine ⟨by omega, ?_⟩
      have : s.n = 128 := by rw [h2]; rfl
      omega
    · exact ⟨by omega, by omega⟩
/-- A list has one row of digits. -/
theorem Made.one {bs : List Int} (hb : ∀ x ∈ bs, x < 128) {s : PS} {t : List Int} (h : Made bs s t) : ∀ (s' : PS) (t' : List Int), Made bs s' t' → s.l = s'.l → s = s' ∧ t = t' := by
  induction h using Made.ind with
  | base =>
    intro s' t' h' he
    rcases made_len h' with ⟨h1, h2, h3⟩ | ⟨h1, -⟩
    · exact ⟨h2.symm, h3.symm⟩
    · rw [← he] at h1; simp [PS.zero] at h1
  | @step s1 s t d h hd hs ih =>
    intro s' t' h' he
    rcases h'.split with ⟨rfl, rfl⟩ | ⟨s1', t1', d', h1, hd', hs', rfl⟩
    · rcases made_len (Made.step h hd hs) with ⟨h1, h2, h3⟩ | ⟨h1, -⟩
      · obtain ⟨v, p, hv, hp, hee, -, rfl⟩ := stepD_some hs
        exact absurd (congrArg PS.i h2) (by simp [PS.zero])
      · rw [he] at h1; simp [PS.zero] at h1
    · have I1 := h.inv hb
      have I2 := h1.inv hb
      have J1 := (Made.step h hd hs).inv hb
      have J2 := (Made.step h1 hd' hs').inv hb
      obtain ⟨v, p, hv, hp, hee, -, rfl⟩ := stepD_some hs
      obtain ⟨v', p', hv', hp', hee', -, rfl⟩ := stepD_some hs'
      simp only at he
      have hl : s1.l.length = s1'.l.length := by
        have := congrArg List.length he
        rw [insL_len, insL_len] at this
        omega
      have key := last_max (X := insL s1.l p v) (v := v) (v' := v') (p := p) (p' := p') (by rw [insL_len]; omega) (by rw [insL_len]; omega) (insL_nth_eq _ hp) (by rw [he]; exact insL_nth_eq _ hp') J1.le (by rw [he]; exact J2.le)
        (fun k hk hk2 => J1.lt k (by simp only; omega) hk2) (by rw [he]; exact fun k hk hk2 => J2.lt k (by simp only; omega) hk2)
      obtain ⟨rfl, rfl⟩ := key
      have hll : s1.l = s1'.l := insL_inj hp hp' he
      obtain ⟨rfl, rfl⟩ := ih _ _ h1 hll
      have hdd : d = d' := by
        rw [← hee'] at hee
        omega
      subst hdd
      exact ⟨rfl, rfl⟩
end Pun
end Go.Proofs.Ytemgbmacdpnepaa
