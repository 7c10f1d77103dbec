/-
  Numbers put into a list, and where each of them stands in the end: found from the last one on, by the places that are free. Plain facts on lists. No Go text is named here; no condition.
-/
import Derived.Test.YtemgbmacdpnepaaFenMath
namespace Go.Proofs.Ytemgbmacdpnepaa
namespace Fen
open Bas Pun
set_option linter.unusedVariables false

/-- What putting in comes to. -/
def builtL (bs : List Int) (es : List (Nat × Nat)) : List Int := es.foldl (fun l e => insL l e.2 e.1) bs
theorem built_snoc (bs : List Int) (es : List (Nat × Nat)) (e : Nat × Nat) : builtL bs (es ++ [e]) = insL (builtL bs es) e.2 e.1 := by unfold builtL; rw [List.foldl_append]; rfl
theorem built_len (bs : List Int) (es : List (Nat × Nat)) : (builtL bs es).length = bs.length + es.length := by
  unfold builtL
  induction es generalizing bs with
  | nil => simp
  | cons e r ih => rw [List.foldl_cons, ih, insL_len, List.length_cons]; omega
/-- The entry at a place. -/
def entA (es : List (Nat × Nat)) (k : Nat) : Nat × Nat := es[k]?.getD (0, 0)
theorem ent_take (es : List (Nat × Nat)) {k : Nat} (h : k < es.length) : es.take (k + 1) = es.take k ++ [entA es k] := by
  rw [List.take_succ_eq_append_getElem h]
  simp [entA, h]
/-- One number, found by its place among the free ones. -/
theorem fil_step {L M : List Int} {P : Nat → Bool} {p a : Nat} {v : Int} (hs : selL P L = insL M p v) (hp : p ≤ M.length) (ha : a < L.length) (hP : P a = true) (hc : cnt P a = p) : nth L a = v ∧ selL (del P a) L = M := by
  have h1 := selL_ins L (P := del P a) (Q := P) ha (del_at P a) hP (fun j hj => (del_ne hj).symm)
  have h2 : cnt (del P a) a = p := by
    rw [← hc]; exact cnt_congr (fun j hj => del_ne (by omega))
  rw [h2] at h1
  have h3 : (selL (del P a) L).length = M.length := by
    have := congrArg List.length (h1.symm.trans hs)
    rw [insL_len, insL_len] at this
    omega
  have h4 := h1.symm.trans hs
  have h5 : nth L a = v := by
    have : nth (insL (selL (del P a) L) p (nth L a)) p = nth (insL M p v) p := by rw [h4]
    rw [insL_nth_eq _ (by omega), insL_nth_eq _ hp] at this
    exact this
  rw [h5] at h4
  exact ⟨h5, insL_inj (by omega) hp h4⟩
/-- Where filling stands: M is what is still to be put in. -/
structure FilRel (L M : List Int) (P : Nat → Bool) (o : List Int) : Prop where
  len : o.length = L.length
  sel : selL P L = M
  out : ∀ j, j < L.length → P j = false → nth o j = nth L j
theorem FilRel.zero {L o : List Int} (h : o.length = L.length) : FilRel L L (fun _ => true) o :=
  ⟨h, selL_all L (fun _ _ => rfl), fun j _ hj => by cases hj⟩
theorem FilRel.find {L M M' : List Int} {P : Nat → Bool} {o : List Int} {p : Nat} {v : Int} (h : FilRel L M P o) (hM : M = insL M' p v) (hp : p ≤ M'.length) :
    ∃ a, a < L.length ∧ P a = true ∧ cnt P a = p ∧ FilRel L M' (del P a) (o.set a v) := by
  have hc : cnt P L.length = M.length := by rw [← selL_len, h.sel]
  have hl : M.length = M'.length + 1 := by rw [hM, insL_len]
  obtain ⟨a, ha, hPa, hca⟩ := cnt_find (P := P) (N := L.length) (h := p) (by omega)
  have hs := h.sel
  rw [hM] at hs
  obtain ⟨h1, h2⟩ := fil_step hs hp ha hPa hca
  refine ⟨a, ha, hPa, hca, by simpa using h.len, h2, fun j hj hd => ?_⟩
  rw [nth_set _ _ _ _ (by rw [h.len]; exact ha)]
  by_cases e : j = a
  · rw [if_pos e, e, h1]
  · rw [if_neg e]
    rw [del_ne e] at hd
    exact h.out j hj hd
theorem nth_ext {l m : List Int} (hl : l.length = m.length) (h : ∀ j, j < m.length → nth l j = nth m j) : l = m := by
  apply List.ext_getElem hl
  intro i h1 h2
  have := h i h2
  simp [nth, h1, h2] at this
  exact this
theorem FilRel.done {L : List Int} {P : Nat → Bool} {o : List Int} (h : FilRel L [] P o) : o = L := by
  refine nth_ext h.len (fun j hj => h.out j hj ?_)
  have hc : cnt P L.length = 0 := by rw [← selL_len, h.sel]; rfl
  cases hp : P j
  · rfl
  · have := (cnt_lt_iff hp).1 hj
    omega
/-- The entries that a text's digits come to. -/
structure EntRel (R : Option (List Int)) (bs T : List Int) (s : PS) (at_ : Nat) (es : List (Nat × Nat)) : Prop where
  eq : R = decL s (T.drop at_)
  l : s.l = builtL bs es
  pl : ∀ k, k < es.length → (entA es k).2 ≤ bs.length + k
  val : ∀ k, k < es.length → (entA es k).1 ≤ 1114111
  n : s.n ≤ 1114111
  i : s.i ≤ s.l.length
  at_ : es.length ≤ at_ ∧ at_ ≤ T.length
theorem EntRel.zero (bs T : List Int) : EntRel (decL (PS.zero bs) T) bs T (PS.zero bs) 0 [] :=
  ⟨by simp, rfl, fun k hk => by simp at hk, fun k hk => by simp at hk, by simp [PS.zero], Nat.zero_le _, by simp⟩
theorem EntRel.done {R : Option (List Int)} {bs T : List Int} {s : PS} {at_ : Nat} {es : List (Nat × Nat)} (h : EntRel R bs T s at_ es) (ha : ¬ at_ < T.length) : R = some (builtL bs es) := by
  have := h.at_
  rw [h.eq, List.drop_of_length_le (by omega), decL_nil, h.l]
theorem EntRel.err {R : Option (List Int)} {bs T : List Int} {s : PS} {at_ : Nat} {es : List (Nat × Nat)} (h : EntRel R bs T s at_ es) (ha : at_ < T.length) {d e er : Nat} (hg : Bia.getF s.b 0 at_ 0 1 (T.drop at_) = (d, e, er)) (he : er ≠ 0) : R = none := by
  have h1 := getF_shift s.b (T.drop at_) 0 0 at_ 0 1
  rw [Nat.zero_add, hg] at h1
  simp only [Prod.mk.injEq] at h1
  rw [h.eq]
  exact decL_err (by intro e; have := congrArg List.length e; rw [List.length_drop, List.length_nil] at this; omega) (by rw [← h1.2.2]; exact he)
theorem EntRel.get {R : Option (List Int)} {bs T : List Int} {s : PS} {at_ : Nat} {es : List (Nat × Nat)} (h : EntRel R bs T s at_ es) {d e : Nat} (hg : Bia.getF s.b 0 at_ 0 1 (T.drop at_) = (d, e, 0)) : Bia.getF s.b 0 0 0 1 (T.drop at_) = (d, e - at_, 0) ∧ at_ < e ∧ e ≤ T.length := by
  have h1 := getF_shift s.b (T.drop at_) 0 0 at_ 0 1
  rw [Nat.zero_add, hg] at h1
  simp only [Prod.mk.injEq] at h1
  have h2 := getF_place s.b (T.drop at_) 0 at_ 0 1 d e hg
  rw [List.length_drop] at h2
  have ha := h.at_
  refine ⟨?_, h2.1, by omega⟩
  obtain ⟨⟨a1, a2, a3⟩, g2⟩ : ∃ g1, Bia.getF s.b 0 0 0 1 (T.drop at_) = g1 := ⟨_, rfl⟩
  rw [g2] at h1 ⊢
  simp only at h1
  obtain ⟨h3, h4, h5⟩ := h1
  subst h5
  rw [if_pos rfl] at h4
  rw [h3, show e - at_ = a2 by omega]
theorem EntRel.bad {R : Option (List Int)} {bs T : List Int} {s : PS} {at_ : Nat} {es : List (Nat × Nat)} (h : EntRel R bs T s at_ es) {d e : Nat} (hg : Bia.getF s.b 0 at_ 0 1 (T.drop at_) = (d, e, 0))
    (hb : Sca.isB ((s.n + (s.i + d) / (s.l.length + 1) : Nat) : Int) = false) : R = none := by
  rw [h.eq]
  exact decL_none (h.get hg).1 (stepD_none rfl hb)
theorem EntRel.next {R : Option (List Int)} {bs T : List Int} {s : PS} {at_ : Nat} {es : List (Nat × Nat)} (h : EntRel R bs T s at_ es) {d e : Nat} (hg : Bia.getF s.b 0 at_ 0 1 (T.drop at_) = (d, e, 0))
    (hb : Sca.isB ((s.n + (s.i + d) / (s.l.length + 1) : Nat) : Int) = true) :
    EntRel R bs T ⟨insL s.l ((s.i + d) % (s.l.length + 1)) ((s.n + (s.i + d) / (s.l.length + 1) : Nat) : Int), s.n + (s.i + d) / (s.l.length + 1), (s.i + d) % (s.l.length + 1) + 1, (Bia.adapt d (s.l.length + 1) s.one : Nat), false⟩ e
      (es ++ [(s.n + (s.i + d) / (s.l.length + 1), (s.i + d) % (s.l.length + 1))]) := by
  obtain ⟨g1, g2, g3⟩ := h.get hg
  have hst : stepD s d = some ⟨insL s.l ((s.i + d) % (s.l.length + 1)) ((s.n + (s.i + d) / (s.l.length + 1) : Nat) : Int), s.n + (s.i + d) / (s.l.length + 1), (s.i + d) % (s.l.length + 1) + 1, (Bia.adapt d (s.l.length + 1) s.one : Nat), false⟩ := by
    unfold stepD; rw [if_pos hb]
  have hm := Nat.mod_lt (s.i + d) (y := s.l.length + 1) (by omega)
  have hbl := built_len bs es
  have hsl : s.l.length = bs.length + es.length := by rw [h.l, hbl]
  have ha := h.at_
  have htop := (Sca.isB_iff.1 hb).1
  have hlast : ∀ x, entA (es ++ [x]) es.length = x := fun x => by simp [entA]
  have hold : ∀ x k, k < es.length → entA (es ++ [x]) k = entA es k := fun x k hk => by simp [entA, List.getElem?_append_left hk]
  refine ⟨?_, ?_, fun k hk => ?_, fun k hk => ?_, by simp only; omega, by simp only [insL_len]; omega, by simp; omega⟩
  · rw [h.eq, decL_some g1 hst, List.drop_drop, show at_ + (e - at_) = e by omega]
  · simp only; rw [built_snoc, ← h.l]
  · by_cases e2 : k = es.length
    · rw [e2, hlast]; simp only; omega
    · simp at hk; rw [hold _ _ (by omega)]; exact h.pl k (by omega)
  · by_cases e2 : k = es.length
    · rw [e2, hlast]; simp only; omega
    · simp at hk; rw [hold _ _ (by omega)]; exact h.val k (by omega)
end Fen
end Go.Proofs.Ytemgbmacdpnepaa
