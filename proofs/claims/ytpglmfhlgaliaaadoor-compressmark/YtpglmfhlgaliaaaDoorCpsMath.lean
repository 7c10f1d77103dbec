/-
  Layer 15's encoder as a machine that eats scalars: it keeps one, whose bytes hang on the next one. Plain facts; no Go text is named here; no condition.
-/
import Derived.Test.YtpglmfhlgaliaaaDoorCmpMath
import Derived.Test.YtpglmfhlgaliaaaDoorEncS
namespace Go.Proofs.YtpglmfhlgaliaaaDoor.Cps
open Bas Scn Sca Win Exp Cmp
set_option linter.unusedVariables false
set_option linter.unusedSimpArgs false

/-- Where a text stands, were a scalar's bytes made, and the scalar that waits; 1114112: none does. -/
structure CS where
  es : Cmp.ES
  beg : Bool
  wait : Int
def cs0 : CS := ⟨es0, false, 1114112⟩
def optI (d : Int) : Option Int := if d = 1114112 then none else some d
/-- A scalar that waited, by the one behind it. -/
def spellC (plain : Bool) (s : Cmp.ES) (beg : Bool) (c d : Int) : List Int × Cmp.ES := if beg = false ∧ c = 65279 then ([14, 254, 255], s) else oneC plain s c (optI d)
def folB (plain : Bool) (s : CS) (d : Int) : List Int := if s.wait = 1114112 then [] else (spellC plain s.es s.beg s.wait d).1
def folS (plain : Bool) (s : CS) (d : Int) : CS := if s.wait = 1114112 then ⟨s.es, s.beg, d⟩ else ⟨(spellC plain s.es s.beg s.wait d).2, true, d⟩
def GoodC (plain : Bool) (s : CS) : Prop := InvE plain s.es ∧ (s.wait = 1114112 ∨ (0 ≤ s.wait ∧ isB s.wait = true))
theorem goodC_0 (plain : Bool) : GoodC plain cs0 := ⟨inv_0 plain, .inl rfl⟩
theorem sc_ne {c : Int} (h : isB c = true) : ¬ c = 1114112 := by have := isB_iff.1 h; omega
theorem optI_none : optI 1114112 = none := by unfold optI; rw [if_pos rfl]
theorem optI_some {d : Int} (h : isB d = true) : optI d = some d := by unfold optI; rw [if_neg (sc_ne h)]
theorem spell_good {plain : Bool} {s : Cmp.ES} (h : InvE plain s) (beg : Bool) {c : Int} (h0 : 0 ≤ c) (hb : isB c = true) (d : Int) : InvE plain (spellC plain s beg c d).2 := by
  unfold spellC
  split
  · exact h
  · exact (one_rd h h0 hb (optI d) []).2
theorem folS_good {plain : Bool} {s : CS} (h : GoodC plain s) {d : Int} (hd : d = 1114112 ∨ (0 ≤ d ∧ isB d = true)) : GoodC plain (folS plain s d) := by
  unfold folS
  split
  · exact ⟨h.1, hd⟩
  · rename_i hw
    have := h.2.resolve_left hw
    exact ⟨spell_good h.1 s.beg this.1 this.2 d, hd⟩
/-! ### Bytes, and how many -/
theorem units_max (c : Int) (q : Bool) : (unitsC c q).length ≤ 4 := by
  unfold unitsC big16 tagC
  simp only [decide_eq_true_eq]
  by_cases h : c < 65536
  · rw [if_pos h]; split <;> simp
  · rw [if_neg h, if_neg (by omega)]; simp
theorem easi_max {s : Cmp.ES} {c : Int} {l : List Int} (h : easiC s c = some l) : l.length ≤ 2 := by
  unfold easiC at h
  repeat' split at h
  all_goals first | (simp only [Option.some.injEq] at h; subst h; simp) | cases h
theorem lay_max (s : Cmp.ES) (c x y : Int) : (layC s c x y).1.length ≤ 4 := by
  unfold layC; simp only []; split <;> simp
theorem one_max (plain : Bool) (s : Cmp.ES) (c : Int) (d : Option Int) : (oneC plain s c d).1.length ≤ 5 := by
  unfold oneC
  split
  · unfold plainC
    have := units_max c true
    repeat' split
    all_goals (simp only [List.length_cons, List.length_nil]; omega)
  · split
    · unfold doubC
      have := units_max c true
      split
      · have : ∀ o : Option (List Int), (∀ l, o = some l → l.length ≤ 2) → (o.getD []).length ≤ 2 := by
          intro o ho
          cases o with
          | none => simp
          | some l => exact ho l rfl
        have := this (easiC ⟨s.wins, s.used, false, if 0 ≤ findL s.wins c then (findL s.wins c).toNat else s.act⟩ c) (fun l hl => easi_max hl)
        simp only [List.length_cons]; omega
      · split
        · have := lay_max s c 232 241; omega
        · simp only []; omega
    · unfold singC
      have := units_max c false
      cases he : easiC s c with
      | some l => have := easi_max he; simp only []; omega
      | none =>
        simp only []
        repeat' split
        all_goals first | (simp only [List.length_cons, List.length_nil]; omega) | (have := lay_max s c 24 11; omega)
theorem folB_max (plain : Bool) (s : CS) (d : Int) : (folB plain s d).length ≤ 5 := by
  unfold folB spellC
  repeat' split
  · simp
  · simp
  · exact one_max plain s.es s.wait (optI d)
theorem units_byte {c : Int} (h0 : 0 ≤ c) (hb : isB c = true) (q : Bool) : ∀ x ∈ unitsC c q, 0 ≤ x ∧ x < 256 := by
  have hi := isB_iff.1 hb
  intro x hx
  unfold unitsC at hx
  rw [List.mem_append] at hx
  rcases hx with hx | hx
  · split at hx
    · simp at hx; omega
    · cases hx
  · unfold big16 at hx
    split at hx
    · simp only [List.mem_cons, List.not_mem_nil, or_false] at hx; omega
    · simp only [List.mem_cons, List.not_mem_nil, or_false] at hx; omega
theorem easi_byte {s : Cmp.ES} {c : Int} {l : List Int} (h0 : 0 ≤ c) (h : easiC s c = some l) : ∀ x ∈ l, 0 ≤ x ∧ x < 256 := by
  unfold easiC at h
  split at h
  · rename_i hp
    have := pass_iff.1 hp
    simp only [Option.some.injEq] at h; subst h
    intro x hx; simp only [List.mem_cons, List.not_mem_nil, or_false] at hx; omega
  · split at h
    · simp only [Option.some.injEq] at h; subst h
      intro x hx; simp only [List.mem_cons, List.not_mem_nil, or_false] at hx; omega
    · split at h
      · rename_i hp
        have := has_iff.1 hp
        simp only [Option.some.injEq] at h; subst h
        intro x hx; simp only [List.mem_cons, List.not_mem_nil, or_false] at hx; omega
      · cases h
theorem lay_byte {s : Cmp.ES} (hs : GoodE s) {c : Int} (h0 : 0 ≤ c) (hb : isB c = true) (hw : (∃ d, twinsC c (some d) = true) ∨ 65535 < c) {x y : Int} (hx : 0 ≤ x ∧ x ≤ 248) (hy : 0 ≤ y ∧ y < 256) : ∀ z ∈ (layC s c x y).1, 0 ≤ z ∧ z < 256 := by
  have hi := isB_iff.1 hb
  obtain ⟨n0, n1⟩ := hs.old
  obtain ⟨o0, ok, oh, oc⟩ : 0 ≤ ownO c ∧ offOK (ownO c) ∧ hasI (ownO c) c = true ∧ (65535 < c ∨ (c ≤ 65535 ∧ ¬ offI (idxI c) < 0 ∧ ownO c = offI (idxI c))) := by
    rcases hw with ⟨d, e⟩ | e
    · exact own_sc h0 hb (.inl e)
    · exact own_sc (d := 0) h0 hb (.inr e)
  have ohh := has_iff.1 oh
  intro z hz
  unfold layC at hz
  simp only [List.mem_append, List.mem_cons, List.not_mem_nil, or_false] at hz
  rcases hz with hz | hz
  · split at hz
    · rename_i h65
      simp only [List.mem_cons, List.not_mem_nil, or_false] at hz
      unfold pairH pairL at hz
      omega
    · rename_i h65
      simp only [List.mem_cons, List.not_mem_nil, or_false] at hz
      have hidx : idxI c = -1 ∨ (1 ≤ idxI c ∧ idxI c ≤ 255) := by
        rcases idx_has c with e | ⟨e1, e2, -, -⟩
        · exact .inl e
        · exact .inr ⟨e1, e2⟩
      rcases hz with hz | hz
      · omega
      · rcases hidx with e | e
        · exfalso
          rcases oc with e2 | ⟨-, e3, -⟩
          · omega
          · apply e3
            rw [e]
            decide
        · omega
  · omega
theorem one_byte {plain : Bool} {s : Cmp.ES} (hs : InvE plain s) {c : Int} (h0 : 0 ≤ c) (hb : isB c = true) (d : Option Int) : ∀ x ∈ (oneC plain s c d).1, 0 ≤ x ∧ x < 256 := by
  have hi := isB_iff.1 hb
  have hE := hs.1
  have htw : twinsC c d = true → ∃ d, twinsC c (some d) = true := by
    intro h
    cases d with
    | none => simp [twinsC] at h
    | some d => exact ⟨d, h⟩
  have hcons : ∀ (a : Int) (l : List Int), (0 ≤ a ∧ a < 256) → (∀ x ∈ l, 0 ≤ x ∧ x < 256) → ∀ x ∈ a :: l, 0 ≤ x ∧ x < 256 := by
    intro a l ha hl x hx
    rcases List.mem_cons.1 hx with rfl | hx
    · exact ha
    · exact hl x hx
  have hnil : ∀ x ∈ ([] : List Int), 0 ≤ x ∧ x < 256 := fun x hx => by cases hx
  unfold oneC
  split
  · unfold plainC
    split
    · exact units_byte h0 hb true
    · split
      · rename_i h
        have := h
        rw [pass_iff] at this
        exact hcons _ _ (by omega) hnil
      · split
        · exact hcons _ _ (by omega) (hcons _ _ (by omega) hnil)
        · exact hcons _ _ (by omega) (units_byte h0 hb true)
  · split
    · unfold doubC
      split
      · refine hcons _ _ ?_ ?_
        · have h1 := find_rng s.wins c hE.len
          have h2 := hE.act
          split <;> omega
        · intro x hx
          cases he : easiC ⟨s.wins, s.used, false, if 0 ≤ findL s.wins c then (findL s.wins c).toNat else s.act⟩ c with
          | none => rw [he] at hx; cases hx
          | some l => rw [he] at hx; exact easi_byte h0 he x hx
      · split
        · rename_i h
          exact lay_byte hE h0 hb (.inl (htw h)) (by omega) (by omega)
        · exact units_byte h0 hb true
    · unfold singC
      cases he : easiC s c with
      | some l => exact easi_byte h0 he
      | none =>
        simp only []
        split
        · rename_i hf
          have h1 := find_has hE.len hf
          have h2 := has_iff.1 h1.2
          split
          · exact hcons _ _ (by omega) (hcons _ _ (by omega) hnil)
          · exact hcons _ _ (by omega) (hcons _ _ (by omega) hnil)
        · split
          · rename_i h
            have h1 := stat_has h.1
            have h2 := has_iff.1 h1.2
            exact hcons _ _ (by omega) (hcons _ _ (by omega) hnil)
          · split
            · rename_i h
              refine lay_byte hE h0 hb ?_ (by omega) (by omega)
              rcases h with h | h
              · exact .inl (htw h)
              · exact .inr h.1
            · split
              · exact hcons _ _ (by omega) (units_byte h0 hb false)
              · exact hcons _ _ (by omega) (units_byte h0 hb false)
theorem folB_byte {plain : Bool} {s : CS} (h : GoodC plain s) (d : Int) : ∀ x ∈ folB plain s d, 0 ≤ x ∧ x < 256 := by
  unfold folB
  split
  · intro x hx; cases hx
  · rename_i hw
    have hc := h.2.resolve_left hw
    unfold spellC
    split
    · intro x hx; simp only [List.mem_cons, List.not_mem_nil, or_false] at hx; omega
    · exact one_byte h.1 hc.1 hc.2 (optI d)
/-! ### All of it -/
theorem fol_rest {plain : Bool} (l : List Int) (h : ∀ c ∈ l, isB c = true) : ∀ (s : Cmp.ES) (beg : Bool) (c : Int), isB c = true → (beg = true ∨ ¬ c = 65279) → allS (folB plain) (folS plain) ⟨s, beg, c⟩ l ++ folB plain (stS (folS plain) ⟨s, beg, c⟩ l) 1114112 = restC plain s (c :: l) := by
  induction l with
  | nil =>
    intro s beg c hc hb
    have e : spellC plain s beg c 1114112 = oneC plain s c none := by
      unfold spellC; rw [if_neg (by rintro ⟨e1, e2⟩; rcases hb with hb | hb; rw [hb] at e1; cases e1; exact hb e2), optI_none]
    simp only [allS, stS, folB, restC, if_neg (sc_ne hc), e, List.head?_nil, List.nil_append, List.append_nil]
  | cons d r ih =>
    intro s beg c hc hb
    have hd := h d (by simp)
    have e : spellC plain s beg c d = oneC plain s c (some d) := by
      unfold spellC; rw [if_neg (by rintro ⟨e1, e2⟩; rcases hb with hb | hb; rw [hb] at e1; cases e1; exact hb e2), optI_some hd]
    have e1 : folB plain ⟨s, beg, c⟩ d = (oneC plain s c (some d)).1 := by unfold folB; rw [if_neg (sc_ne hc), e]
    have e2 : folS plain ⟨s, beg, c⟩ d = ⟨(oneC plain s c (some d)).2, true, d⟩ := by unfold folS; rw [if_neg (sc_ne hc), e]
    have := ih (fun x hx => h x (List.mem_cons_of_mem _ hx)) (oneC plain s c (some d)).2 true d hd (.inl rfl)
    simp only [allS, stS, if_pos hd, e1, e2]
    rw [List.append_assoc, this]
    rfl
/-- What is told of a list, in all. -/
theorem fol_text {plain : Bool} (l : List Int) (h : ∀ c ∈ l, isB c = true) : allS (folB plain) (folS plain) cs0 l ++ folB plain (stS (folS plain) cs0 l) 1114112 = textC plain l := by
  cases l with
  | nil => rfl
  | cons c r =>
    have hc := h c (by simp)
    have hr : ∀ x ∈ r, isB x = true := fun x hx => h x (List.mem_cons_of_mem _ hx)
    have e1 : folB plain cs0 c = [] := rfl
    have e2 : folS plain cs0 c = ⟨es0, false, c⟩ := rfl
    simp only [allS, stS, if_pos hc, e1, e2, textC, List.nil_append]
    by_cases hf : c = 65279
    · subst hf
      rw [if_pos rfl]
      have f0 : ∀ d, spellC plain es0 false 65279 d = ([14, 254, 255], es0) := fun d => by unfold spellC; rw [if_pos ⟨rfl, rfl⟩]
      cases r with
      | nil => simp only [allS, stS, folB, f0, restC]; rfl
      | cons d r =>
        have hd := hr d (by simp)
        have g1 : folB plain ⟨es0, false, 65279⟩ d = [14, 254, 255] := by unfold folB; rw [if_neg (show ¬ (65279 : Int) = 1114112 by decide), f0]
        have g2 : folS plain ⟨es0, false, 65279⟩ d = ⟨es0, true, d⟩ := by unfold folS; rw [if_neg (show ¬ (65279 : Int) = 1114112 by decide), f0]
        have := fol_rest (plain := plain) r (fun x hx => hr x (List.mem_cons_of_mem _ hx)) es0 true d hd (.inl rfl)
        simp only [allS, stS, if_pos hd, g1, g2]
        rw [List.append_assoc, this]
    · rw [if_neg hf]
      exact fol_rest r hr es0 false c hc (.inr hf)
/-- What is told from a state on, of scalars, to the end. -/
def tailC (plain : Bool) (s : CS) (l : List Int) : List Int := allS (folB plain) (folS plain) s l ++ folB plain (stS (folS plain) s l) 1114112
theorem tail_text {plain : Bool} {l : List Int} (h : ∀ c ∈ l, isB c = true) : tailC plain cs0 l = textC plain l := fol_text l h
theorem tail_nil (plain : Bool) (s : CS) : tailC plain s [] = folB plain s 1114112 := rfl
theorem tail_cons (plain : Bool) (s : CS) {c : Int} (h : isB c = true) (r : List Int) : tailC plain s (c :: r) = folB plain s c ++ tailC plain (folS plain s c) r := by
  simp only [tailC, allS, stS, if_pos h, List.append_assoc]
/-- Nothing is lost, nothing comes twice. -/
theorem enc_tail (plain : Bool) (room : Int) (l : List Int) (h : ∀ c ∈ l, isB c = true) : ∀ (s : CS) (told K : List Int),
    (encS (folB plain) (folS plain) room s told K l).told ++ (encS (folB plain) (folS plain) room s told K l).kept ++ tailC plain (encS (folB plain) (folS plain) room s told K l).st (l.drop (encS (folB plain) (folS plain) room s told K l).eaten) = told ++ K ++ tailC plain s l ∧
    (encS (folB plain) (folS plain) room s told K l).bad = false := by
  induction l with
  | nil => intro s told K; exact ⟨rfl, rfl⟩
  | cons c r ih =>
    intro s told K
    by_cases hK : K = []
    · subst hK
      have hc := h c (by simp)
      rw [encS_one _ hc]
      obtain ⟨h1, h2⟩ := ih (fun x hx => h x (List.mem_cons_of_mem _ hx)) (folS plain s c) (told ++ (folB plain s c).take (frontR (room - told.length) (folB plain s c).length)) ((folB plain s c).drop (frontR (room - told.length) (folB plain s c).length))
      simp only [SRes.plus]
      rw [show ∀ n, 1 + n = n + 1 by intro n; omega, List.drop_succ_cons]
      refine ⟨?_, h2⟩
      rw [h1, tail_cons _ _ hc]
      simp
    · rw [encS_kept _ hK]
      exact ⟨rfl, rfl⟩
theorem tail_max (plain : Bool) (l : List Int) : ∀ s : CS, (tailC plain s l).length ≤ 5 * l.length + 5 := by
  intro s
  have h1 := allS_le (folB plain) (folS plain) 5 (fun s c => folB_max plain s c) l s
  have h2 := folB_max plain (stS (folS plain) s l) 1114112
  unfold tailC
  rw [List.length_append]
  omega
end Go.Proofs.YtpglmfhlgaliaaaDoor.Cps
