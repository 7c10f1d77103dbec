/-
  A scalar's bytes, by either profile, in either mode: contracts of layer 15's calls, as walks over the translated text. The condition: its memory is there and may be written; the tables are as the program's text lays them.
-/
import Derived.Test.YtpglmfhlgaliaaaDoorCP3
namespace Go.Proofs.YtpglmfhlgaliaaaDoor
open Go.ChangeShapes Go.WideShapes Go.ChangeAt Go.RowKit
namespace CP
open Bas Sca Stp Scn Cod Win Exp Cmp Cps
set_option linter.unusedVariables false
set_option linter.unusedSimpArgs false

/-- What a call leaves that tells R. -/
def SpQ (D d : Nat) (R : List Int × Cmp.ES) (w : World) (e : Ending) (w' : World) : Prop := e = .returned (.string (Stp.strOf R.1)) ∧ SpW w' D d R.2 ∧ Chg (footP D d) w w'
theorem es_uni {s : Cmp.ES} {u : Bool} (h : s.uni = u) : (⟨s.wins, s.used, u, s.act⟩ : Cmp.ES) = s := by rw [← h]
theorem plain_uni {s : Cmp.ES} (h : s.uni = true) (c : Int) : plainC s c = (unitsC c true, s) := by unfold plainC; rw [if_pos h]
theorem plain_some {s : Cmp.ES} (hp : s.wins = firstL8 ∧ s.act = 0) (h : s.uni = false) {c : Int} {l : List Int} (he : easiC s c = some l) : plainC s c = (l, s) := by
  unfold plainC
  rw [if_neg (by rw [h]; simp)]
  unfold easiC at he
  rw [hp.1, hp.2] at he
  by_cases h1 : passC c = true
  · rw [if_pos h1] at he
    rw [if_pos (.inl h1)]
    cases he; rfl
  · rw [if_neg h1] at he
    by_cases h2 : c < 32
    · rw [if_pos h2] at he
      rw [if_neg (by rintro (e | e); exact h1 e; omega), if_pos h2]
      cases he; rfl
    · rw [if_neg h2] at he
      have e0 : nth firstL8 0 = 128 := rfl
      rw [e0] at he
      split at he
      · rename_i hh
        have := has_iff.1 hh
        rw [if_pos (.inr (by omega))]
        simp only [Option.some.injEq] at he
        rw [← he, show 128 + (c - 128) = c by omega]
      · cases he
theorem plain_none {s : Cmp.ES} (hp : s.wins = firstL8 ∧ s.act = 0) (h : s.uni = false) {c : Int} (he : easiC s c = none) : plainC s c = ([15] ++ unitsC c true, ⟨s.wins, s.used, true, s.act⟩) := by
  unfold plainC
  rw [if_neg (by rw [h]; simp)]
  unfold easiC at he
  rw [hp.1, hp.2] at he
  have e0 : nth firstL8 0 = 128 := rfl
  rw [e0] at he
  by_cases h1 : passC c = true
  · rw [if_pos h1] at he; cases he
  · rw [if_neg h1] at he
    by_cases h2 : c < 32
    · rw [if_pos h2] at he; cases he
    · rw [if_neg h2] at he
      split at he
      · cases he
      · rename_i hh
        have : ¬ (128 ≤ c ∧ c ≤ 255) := fun e => hh (has_iff.2 (by omega))
        rw [if_neg (by rintro (e | e); exact h1 e; exact this e), if_neg h2]
        rfl
/-- The units behind a scalar that is told by none of the other ways. -/
theorem units_q (D d : Nat) (s : Cmp.ES) (c : Int) (w : World) (h : SpW w D d s) (c0 : 0 ≤ c) (c1 : c < 1114112) {R : List Int × Cmp.ES} (hR : R = ((if s.uni = true then [] else [15]) ++ unitsC c true, ⟨s.wins, s.used, true, s.act⟩)) :
    Calls Tryd.prog 57 #[.pointer (some ⟨D, 0, none⟩), .int .u32 c] w fun e w' => SpQ D d R w e w' := by
  subst hR
  exact units_any D d s c w h c0 c1
theorem SpQ.out {D d : Nat} {R : List Int × Cmp.ES} {w w' : World} {e : Ending} (h : SpQ D d R w e w') : e = .returned (.string (Stp.strOf R.1)) ∧ SpW w' D d R.2 ∧ Chg (footP D d) w w' := h
set_option maxHeartbeats 4000000 in
set_option maxRecDepth 100000 in
theorem spellPlain_any (D d : Nat) (s : Cmp.ES) (c : Int) (w : World) (h : SpW w D d s) (hp : s.wins = firstL8 ∧ s.act = 0) (c0 : 0 ≤ c) (c1 : c < 1114112) :
    Calls Tryd.prog 52 #[.pointer (some ⟨D, 0, none⟩), .int .u32 c] w fun e w' => SpQ D d (plainC s c) w e w' := by
  obtain ⟨R, hR⟩ : ∃ R, plainC s c = R := ⟨_, rfl⟩
  have HR : Hid (plainC s c = R) := hR
  rw [hR]
  clear hR
  have H : Hid (SpW w D d s ∧ s.wins = firstL8 ∧ s.act = 0) := ⟨h, hp⟩
  have h7 := h.un
  clear h hp
  cases hu : s.uni with
  | true =>
    have HU := units_q D d s c w H.out.1 c0 c1 (R := R) (by rw [← HR.out, plain_uni hu, if_pos hu, es_uni hu]; rfl)
    rw [hu] at h7
    clear hu
    go_enter Tryd.func52, Tryd.ntmps52
    go_wp2_with fail
    refine HU.mono ?_
    rintro e w1 ⟨rfl, q⟩
    go_wp2
    go_ret
    exact ⟨rfl, q⟩
  | false =>
    have HS := short_any D d s c w H.out.1 c0 c1
    have HB : Hid (s.uni = false) := hu
    rw [hu] at h7
    clear hu
    cases he : easiC s c with
    | some l =>
      have e1 : shV s c = l ∧ shB s c = true := by unfold shV shB; rw [he]; exact ⟨rfl, rfl⟩
      have HL : Hid (R = (l, s)) := by show _ = _; rw [← HR.out, plain_some H.out.2 HB.out he]
      rw [e1.1, e1.2] at HS
      clear he e1
      go_enter Tryd.func52, Tryd.ntmps52
      go_wp2_with fail
      refine HS.mono ?_
      rintro e w1 ⟨rfl, b1⟩
      go_wp2
      go_ret
      rw [HL.out]
      exact ⟨rfl, H.out.1.below b1, chg_of_below b1 (Nat.le_refl _) _⟩
    | none =>
      have e1 : shV s c = [] ∧ shB s c = false := by unfold shV shB; rw [he]; exact ⟨rfl, rfl⟩
      have HL : Hid (R = ((if s.uni = true then [] else [15]) ++ unitsC c true, ⟨s.wins, s.used, true, s.act⟩)) := by show _ = _; rw [← HR.out, plain_none H.out.2 HB.out he, if_neg (by rw [HB.out]; simp)]
      rw [e1.1, e1.2] at HS
      clear he e1
      go_enter Tryd.func52, Tryd.ntmps52
      go_wp2_with fail
      refine HS.mono ?_
      rintro e w1 ⟨rfl, b1⟩
      have HU := units_q D d s c w1 (H.out.1.below b1) c0 c1 HL.out
      have HB1 : Hid (Below w.heap.size w w1) := b1
      clear b1
      go_wp2_with fail
      refine HU.mono ?_
      rintro e w2 ⟨rfl, q1, q2⟩
      go_wp2
      go_ret
      exact ⟨rfl, q1, (chg_of_below HB1.out (Nat.le_refl _) _).trans q2⟩
theorem tw_some {c x : Int} (h : twinsC c (optI x) = true) : ∃ d, twinsC c (some d) = true := by
  unfold optI at h
  split at h
  · simp [twinsC] at h
  · exact ⟨x, h⟩
theorem lay_q (D d : Nat) (s : Cmp.ES) (c : Int) (w : World) (h : SpW w D d s) (c0 : 0 ≤ c) (hb : isB c = true) (hw : (∃ d, twinsC c (some d) = true) ∨ 65535 < c) {R : List Int × Cmp.ES} (hR : R = layC s c (if s.uni = true then 232 else 24) (if s.uni = true then 241 else 11)) :
    Calls Tryd.prog 64 #[.pointer (some ⟨D, 0, none⟩), .int .u32 c] w fun e w' => SpQ D d R w e w' := by
  subst hR
  exact lay_any D d s c w h c0 hb hw
set_option maxHeartbeats 8000000 in
set_option maxRecDepth 100000 in
theorem spellUnicode_any (D d : Nat) (s : Cmp.ES) (c x : Int) (w : World) (h : SpW w D d s) (hu : s.uni = true) (c0 : 0 ≤ c) (hb : isB c = true) (x0 : 0 ≤ x) (x1 : x ≤ 1114112) :
    Calls Tryd.prog 53 #[.pointer (some ⟨D, 0, none⟩), .int .u32 c, .int .u32 x] w fun e w' => SpQ D d (doubC s c (optI x)) w e w' := by
  have hi := isB_iff.1 hb
  obtain ⟨R, hR⟩ : ∃ R, doubC s c (optI x) = R := ⟨_, rfl⟩
  have HR : Hid (doubC s c (optI x) = R) := hR
  rw [hR]
  clear hR
  have H : Hid (SpW w D d s ∧ s.uni = true ∧ isB c = true) := ⟨h, hu, hb⟩
  have h5 := h.dy
  have h6 := h.ac
  have hea := easy_any D d s c w h c0 (by omega)
  have hso := soft_any D d s x w h x0 x1
  have htw := twins_any c x w h.tabs.win c0 hi.1 x0 (by omega)
  have hfi := find_any d 0 c s.wins s.used w h.win c0 (by omega)
  clear h hu hb
  by_cases h1 : easyC s c = true ∧ softC s (optI x) = true
  · obtain ⟨m, hm⟩ : ∃ m : Nat, (if 0 ≤ findL s.wins c then (findL s.wins c).toNat else s.act) = m := ⟨_, rfl⟩
    have hm8 : m < 8 := by
      rw [← hm]
      split
      · rename_i hf; have := (find_has H.out.1.good.len hf).1; omega
      · exact H.out.1.good.act
    have hmi : (if 0 ≤ findL s.wins c then findL s.wins c else (s.act : Int)) = (m : Int) := by
      rw [← hm]; split <;> omega
    have HD : Hid (R = ((224 + (m : Int)) :: shV ⟨s.wins, touchL s.used m, false, m⟩ c, ⟨s.wins, touchL s.used m, false, m⟩)) := by
      show _ = _
      rw [← HR.out]
      unfold doubC
      rw [if_pos h1, hmi, hm]
      rfl
    rw [h1.1] at hea
    rw [h1.2] at hso
    have hlen : (shV ⟨s.wins, touchL s.used m, false, m⟩ c).length ≤ 2 := by
      unfold shV
      cases he : easiC ⟨s.wins, touchL s.used m, false, m⟩ c with
      | none => simp
      | some l => exact easi_max he
    have HN : Hid ((0 ≤ findL s.wins c → findL s.wins c = (m : Int)) ∧ (¬ 0 ≤ findL s.wins c → s.act = m)) := ⟨fun e => by rw [← hmi, if_pos e], fun e => by rw [← hm, if_neg e]⟩
    clear h1 hm hmi HR htw
    by_cases hf : 0 ≤ findL s.wins c
    · have hv := idx_yes hf
      rw [hv.1, hv.2, HN.out.1 hf] at hfi
      clear hv hf HN
      go_enter Tryd.func53, Tryd.ntmps53
      go_wp2_with fail
      refine hea.mono ?_
      rintro e w1 ⟨rfl, hw⟩
      rw [hw]
      clear hw w1 hea
      go_wp2_with fail
      refine hso.mono ?_
      rintro e w1 ⟨rfl, hw⟩
      rw [hw]
      clear hw w1 hso
      go_wp2_with fail
      refine hfi.mono ?_
      rintro e w1 ⟨rfl, hw⟩
      rw [hw]
      clear hw w1 hfi
      go_wp2_with fail
      refine (choose_any D d s m w H.out.1 hm8).mono ?_
      rintro e w1 ⟨rfl, S1, C1⟩
      have HS1 : Hid (SpW w1 D d ⟨s.wins, touchL s.used m, false, m⟩ ∧ Chg (footP D d) w w1) := ⟨S1, C1⟩
      clear S1 C1 h5 h6
      go_wp2_with fail
      refine (short_any D d _ c w1 HS1.out.1 c0 (by omega)).mono ?_
      rintro e w2 ⟨rfl, b2⟩
      have HB2 : Hid (Below w1.heap.size w1 w2) := b2
      clear b2
      obtain ⟨S, hS⟩ : ∃ S, shV ⟨s.wins, touchL s.used m, false, m⟩ c = S := ⟨_, rfl⟩
      rw [hS] at HD hlen ⊢
      clear hS
      have g1 := no_more [224 + (m : Int)] S (by simp; omega)
      go_wp2_with fail
      refine (numbered_any 224 (m : Int) w2 (by omega) (by omega) (by omega) (by omega)).mono ?_
      rintro e w3 ⟨rfl, b3⟩
      have HB3 : Hid (Below w1.heap.size w1 w3) := below_two HB2.out b3
      clear b3
      go_wp2
      go_ret
      rw [HD.out]
      exact ⟨ret_str (by rw [← strOf_append]; rfl), HS1.out.1.below HB3.out, HS1.out.2.trans (chg_of_below HB3.out (Nat.le_refl _) _)⟩
    · have hv := idx_not (x := findL s.wins c) (by rcases find_rng s.wins c H.out.1.good.len with e | e; exact e; omega)
      rw [hv.1, hv.2] at hfi
      rw [HN.out.2 hf] at h6
      clear hv hf HN
      go_enter Tryd.func53, Tryd.ntmps53
      go_wp2_with fail
      refine hea.mono ?_
      rintro e w1 ⟨rfl, hw⟩
      rw [hw]
      clear hw w1 hea
      go_wp2_with fail
      refine hso.mono ?_
      rintro e w1 ⟨rfl, hw⟩
      rw [hw]
      clear hw w1 hso
      go_wp2_with fail
      refine hfi.mono ?_
      rintro e w1 ⟨rfl, hw⟩
      rw [hw]
      clear hw w1 hfi
      go_wp2_with fail
      refine (choose_any D d s m w H.out.1 hm8).mono ?_
      rintro e w1 ⟨rfl, S1, C1⟩
      have HS1 : Hid (SpW w1 D d ⟨s.wins, touchL s.used m, false, m⟩ ∧ Chg (footP D d) w w1) := ⟨S1, C1⟩
      clear S1 C1 h5 h6
      go_wp2_with fail
      refine (short_any D d _ c w1 HS1.out.1 c0 (by omega)).mono ?_
      rintro e w2 ⟨rfl, b2⟩
      have HB2 : Hid (Below w1.heap.size w1 w2) := b2
      clear b2
      obtain ⟨S, hS⟩ : ∃ S, shV ⟨s.wins, touchL s.used m, false, m⟩ c = S := ⟨_, rfl⟩
      rw [hS] at HD hlen ⊢
      clear hS
      have g1 := no_more [224 + (m : Int)] S (by simp; omega)
      go_wp2_with fail
      refine (numbered_any 224 (m : Int) w2 (by omega) (by omega) (by omega) (by omega)).mono ?_
      rintro e w3 ⟨rfl, b3⟩
      have HB3 : Hid (Below w1.heap.size w1 w3) := below_two HB2.out b3
      clear b3
      go_wp2
      go_ret
      rw [HD.out]
      exact ⟨ret_str (by rw [← strOf_append]; rfl), HS1.out.1.below HB3.out, HS1.out.2.trans (chg_of_below HB3.out (Nat.le_refl _) _)⟩
  · have HD : Hid (R = if twinsC c (optI x) = true then layC s c 232 241 else (unitsC c true, s)) := by
      show _ = _
      rw [← HR.out]
      unfold doubC
      rw [if_neg h1]
    clear HR hfi
    have HF : Hid (∀ w1 : World, SpW w1 D d s → Chg (footP D d) w w1 → True) := fun _ _ _ => trivial
    clear HF
    have hgo : easyC s c = false ∨ (easyC s c = true ∧ softC s (optI x) = false) := by
      cases he : easyC s c with
      | false => exact .inl rfl
      | true =>
        right
        refine ⟨rfl, ?_⟩
        cases hs : softC s (optI x) with
        | false => rfl
        | true => exact absurd ⟨he, hs⟩ h1
    clear h1
    cases ht : twinsC c (optI x) with
    | true =>
      have HL := lay_q D d s c w H.out.1 c0 H.out.2.2 (.inl (tw_some ht)) (R := R) (by rw [HD.out, if_pos ht, H.out.2.1]; rfl)
      rw [ht] at htw
      clear HD ht
      rcases hgo with e | ⟨e1, e2⟩
      · rw [e] at hea
        clear e
        go_enter Tryd.func53, Tryd.ntmps53
        go_wp2_with fail
        refine hea.mono ?_
        rintro e w1 ⟨rfl, hw⟩
        rw [hw]
        clear hw w1 hea
        go_wp2_with fail
        refine htw.mono ?_
        rintro e w1 ⟨rfl, hw⟩
        rw [hw]
        clear hw w1 htw
        go_wp2_with fail
        refine HL.mono ?_
        rintro e w1 ⟨rfl, q⟩
        go_wp2
        go_ret
        exact ⟨rfl, q⟩
      · rw [e1] at hea
        rw [e2] at hso
        clear e1 e2
        go_enter Tryd.func53, Tryd.ntmps53
        go_wp2_with fail
        refine hea.mono ?_
        rintro e w1 ⟨rfl, hw⟩
        rw [hw]
        clear hw w1 hea
        go_wp2_with fail
        refine hso.mono ?_
        rintro e w1 ⟨rfl, hw⟩
        rw [hw]
        clear hw w1 hso
        go_wp2_with fail
        refine htw.mono ?_
        rintro e w1 ⟨rfl, hw⟩
        rw [hw]
        clear hw w1 htw
        go_wp2_with fail
        refine HL.mono ?_
        rintro e w1 ⟨rfl, q⟩
        go_wp2
        go_ret
        exact ⟨rfl, q⟩
    | false =>
      have HL := units_q D d s c w H.out.1 c0 (by omega) (R := R) (by rw [HD.out, if_neg (by rw [ht]; simp), H.out.2.1, if_pos rfl, es_uni H.out.2.1]; rfl)
      rw [ht] at htw
      clear HD ht
      rcases hgo with e | ⟨e1, e2⟩
      · rw [e] at hea
        clear e
        go_enter Tryd.func53, Tryd.ntmps53
        go_wp2_with fail
        refine hea.mono ?_
        rintro e w1 ⟨rfl, hw⟩
        rw [hw]
        clear hw w1 hea
        go_wp2_with fail
        refine htw.mono ?_
        rintro e w1 ⟨rfl, hw⟩
        rw [hw]
        clear hw w1 htw
        go_wp2_with fail
        refine HL.mono ?_
        rintro e w1 ⟨rfl, q⟩
        go_wp2
        go_ret
        exact ⟨rfl, q⟩
      · rw [e1] at hea
        rw [e2] at hso
        clear e1 e2
        go_enter Tryd.func53, Tryd.ntmps53
        go_wp2_with fail
        refine hea.mono ?_
        rintro e w1 ⟨rfl, hw⟩
        rw [hw]
        clear hw w1 hea
        go_wp2_with fail
        refine hso.mono ?_
        rintro e w1 ⟨rfl, hw⟩
        rw [hw]
        clear hw w1 hso
        go_wp2_with fail
        refine htw.mono ?_
        rintro e w1 ⟨rfl, hw⟩
        rw [hw]
        clear hw w1 htw
        go_wp2_with fail
        refine HL.mono ?_
        rintro e w1 ⟨rfl, q⟩
        go_wp2
        go_ret
        exact ⟨rfl, q⟩
/-- What single comes to, case by case. -/
theorem sing_some {s : Cmp.ES} {c : Int} {d : Option Int} {l : List Int} (h : easiC s c = some l) : singC s c d = (l, s) := by unfold singC; rw [h]
theorem sing_vis {s : Cmp.ES} (hu : s.uni = false) {c : Int} {d : Option Int} (h : easiC s c = none) {n : Nat} (hf : findL s.wins c = (n : Int)) : singC s c d = visC s n c d := by
  unfold singC visC
  rw [h]
  simp only []
  rw [if_pos (by omega), hf, Int.toNat_natCast, hu]
theorem sing_lay {s : Cmp.ES} {c : Int} {d : Option Int} (h : easiC s c = none) (hf : ¬ 0 ≤ findL s.wins c) (ht : twinsC c d = true) : singC s c d = layC s c 24 11 := by
  unfold singC
  rw [h]
  simp only []
  rw [if_neg hf, if_neg (by rw [ht]; simp), if_pos (.inl ht)]
theorem sing_stat {s : Cmp.ES} {c : Int} {d : Option Int} (h : easiC s c = none) (hf : ¬ 0 ≤ findL s.wins c) (ht : twinsC c d = false) (hs : 0 < statC c) : singC s c d = ([1 + (statC c : Int), c - nth statL (statC c)], s) := by
  unfold singC
  rw [h]
  simp only []
  rw [if_neg hf, if_pos ⟨hs, ht⟩]
theorem sing_rest {s : Cmp.ES} {c : Int} {d : Option Int} (h : easiC s c = none) (hf : ¬ 0 ≤ findL s.wins c) (ht : twinsC c d = false) (hs : ¬ 0 < statC c) :
    singC s c d = if 65535 < c ∧ softC s d = true then layC s c 24 11 else if c < 65536 ∧ (softC s d = true ∨ tagC c = true) then (14 :: unitsC c false, s) else (15 :: unitsC c false, ⟨s.wins, s.used, true, s.act⟩) := by
  unfold singC
  rw [h]
  simp only []
  rw [if_neg hf, if_neg (by omega), ht]
  simp only [Bool.false_eq_true, false_or]
set_option maxHeartbeats 8000000 in
set_option maxRecDepth 100000 in
theorem spellSingle_any (D d : Nat) (s : Cmp.ES) (c x : Int) (w : World) (h : SpW w D d s) (hu : s.uni = false) (c0 : 0 ≤ c) (hb : isB c = true) (x0 : 0 ≤ x) (x1 : x ≤ 1114112) :
    Calls Tryd.prog 54 #[.pointer (some ⟨D, 0, none⟩), .int .u32 c, .int .u32 x] w fun e w' => SpQ D d (singC s c (optI x)) w e w' := by
  have hi := isB_iff.1 hb
  obtain ⟨R, hR⟩ : ∃ R, singC s c (optI x) = R := ⟨_, rfl⟩
  have HR : Hid (singC s c (optI x) = R) := hR
  rw [hR]
  clear hR
  have H : Hid (SpW w D d s ∧ s.uni = false ∧ isB c = true) := ⟨h, hu, hb⟩
  have hsh := short_any D d s c w h c0 (by omega)
  clear h hu hb
  cases he : easiC s c with
  | some l =>
    have e1 : shV s c = l ∧ shB s c = true := by unfold shV shB; rw [he]; exact ⟨rfl, rfl⟩
    have HL : Hid (R = (l, s)) := by show _ = _; rw [← HR.out, sing_some he]
    rw [e1.1, e1.2] at hsh
    clear he e1
    go_enter Tryd.func54, Tryd.ntmps54
    go_wp2_with fail
    refine hsh.mono ?_
    rintro e w1 ⟨rfl, b1⟩
    go_wp2
    go_ret
    rw [HL.out]
    exact ⟨rfl, H.out.1.below b1, chg_of_below b1 (Nat.le_refl _) _⟩
  | none =>
    have e1 : shV s c = [] ∧ shB s c = false := by unfold shV shB; rw [he]; exact ⟨rfl, rfl⟩
    have HE : Hid (easiC s c = none) := he
    rw [e1.1, e1.2] at hsh
    clear he e1
    go_enter Tryd.func54, Tryd.ntmps54
    go_wp2_with fail
    refine hsh.mono ?_
    rintro e w1 ⟨rfl, b1⟩
    have HS1 : Hid (SpW w1 D d s ∧ Chg (footP D d) w w1) := ⟨H.out.1.below b1, chg_of_below b1 (Nat.le_refl _) _⟩
    clear b1
    have h5 := HS1.out.1.dy
    have hfi := find_any d 0 c s.wins s.used w1 HS1.out.1.win c0 (by omega)
    by_cases hf : 0 ≤ findL s.wins c
    · have hv := idx_yes hf
      rw [hv.1, hv.2] at hfi
      have hh := find_has H.out.1.good.len hf
      obtain ⟨n, hn⟩ := Int.eq_ofNat_of_zero_le hf
      rw [hn] at hfi hh
      rw [Int.toNat_natCast] at hh
      have HV := visit_any D d s n c x w1 HS1.out.1 (by omega) c0 hh.2 x0 x1
      rw [← sing_vis H.out.2.1 HE.out hn, HR.out] at HV
      clear hv hf hh hn
      go_wp2_with fail
      refine hfi.mono ?_
      rintro e w2 ⟨rfl, hw⟩
      rw [hw]
      clear hw w2 hfi
      go_wp2_with fail
      refine HV.mono ?_
      rintro e w2 ⟨rfl, q1, q2⟩
      go_wp2
      go_ret
      exact ⟨rfl, q1, HS1.out.2.trans q2⟩
    · have hv := idx_not (x := findL s.wins c) (by rcases find_rng s.wins c H.out.1.good.len with e | e; exact e; omega)
      rw [hv.1, hv.2] at hfi
      have HNF : Hid (¬ 0 ≤ findL s.wins c) := hf
      have htw := twins_any c x w1 HS1.out.1.tabs.win c0 hi.1 x0 (by omega)
      clear hv hf
      go_wp2_with fail
      refine hfi.mono ?_
      rintro e w2 ⟨rfl, hw⟩
      rw [hw]
      clear hw w2 hfi
      go_wp2_with fail
      refine htw.mono ?_
      rintro e w2 ⟨rfl, hw⟩
      rw [hw]
      clear hw w2 htw
      cases ht : twinsC c (optI x) with
      | true =>
        have HL := lay_q D d s c w1 HS1.out.1 c0 H.out.2.2 (.inl (tw_some ht)) (R := R) (by rw [← HR.out, sing_lay HE.out (by have := HNF.out; omega) ht, H.out.2.1]; rfl)
        clear ht
        go_wp2_with fail
        refine HL.mono ?_
        rintro e w2 ⟨rfl, q1, q2⟩
        go_wp2
        go_ret
        exact ⟨rfl, q1, HS1.out.2.trans q2⟩
      | false =>
        have HTW : Hid (twinsC c (optI x) = false) := ht
        clear ht
        have hst := static1_any c w1 HS1.out.1.tabs.win c0 (by omega)
        by_cases hs : 0 < statC c
        · have hv : stV c = ((statC c : Int), nth statL (statC c), true) := by unfold stV; rw [if_pos hs]
          rw [hv] at hst
          have hh := stat_has hs
          have hhi := has_iff.1 hh.2
          have hbd := stat_bd (k := statC c) (by omega)
          have HL : Hid (R = ([1 + (statC c : Int), c - nth statL (statC c)], s)) := by show _ = _; rw [← HR.out, sing_stat HE.out (by have := HNF.out; omega) HTW.out hs]
          generalize nth statL (statC c) = o at *
          generalize statC c = k at *
          have e1 : IntKind.u32.wrap (c - o) = c - o := by rw [IntKind.wrap_u32]; omega
          have e2 : IntKind.u8.wrap (c - o) = c - o := by rw [IntKind.wrap_u8]; omega
          have hk : k ≤ 7 := hh.1
          have g1 := no_more [1 + (k : Int)] [c - o] (by simp)
          clear hv hs hh
          go_wp2_with fail
          refine hst.mono ?_
          rintro e w2 ⟨rfl, hw⟩
          rw [hw]
          clear hw w2 hst
          go_wp2_with fail
          refine (numbered_any 1 (k : Int) w1 (by omega) (by omega) (by omega) (by omega)).mono ?_
          rintro e w2 ⟨rfl, b2⟩
          go_wp2_with fail
          refine (one_any (c - o) w2).mono ?_
          rintro e w3 ⟨rfl, b3⟩
          have HB3 : Hid (Below w1.heap.size w1 w3) := below_two b2 b3
          clear b2 b3
          go_wp2
          rw [str_two]
          go_ret
          rw [HL.out]
          exact ⟨rfl, HS1.out.1.below HB3.out, HS1.out.2.trans (chg_of_below HB3.out (Nat.le_refl _) _)⟩
        · have hv : stV c = (0, 0, false) := by unfold stV; rw [if_neg hs]
          rw [hv] at hst
          have HL : R = if 65535 < c ∧ softC s (optI x) = true then layC s c 24 11 else if c < 65536 ∧ (softC s (optI x) = true ∨ tagC c = true) then (14 :: unitsC c false, s) else (15 :: unitsC c false, ⟨s.wins, s.used, true, s.act⟩) := HR.out.symm.trans (sing_rest HE.out (by have := HNF.out; omega) HTW.out hs)
          have hso := soft_any D d s x w1 HS1.out.1 x0 x1
          have hcl := clashes_any c w1
          clear hv hs HR
          by_cases h65 : c < 65536
          · have hub : unitsC c false = [c / 256, c % 256] := by unfold unitsC; rw [if_neg (by simp), unit_small h65]; rfl
            have g1 := no_more [14] [c / 256, c % 256] (by simp)
            cases hsf : softC s (optI x) with
            | true =>
              have HL2 : Hid (R = ([14] ++ [c / 256, c % 256], s)) := by show _ = _; rw [HL, if_neg (by omega), if_pos ⟨h65, .inl hsf⟩, hub]; rfl
              rw [hsf] at hso
              clear HL hsf hub hcl
              go_wp2_with fail
              refine hst.mono ?_
              rintro e w2 ⟨rfl, hw⟩
              rw [hw]
              clear hw w2 hst
              go_wp2_with fail
              refine hso.mono ?_
              rintro e w2 ⟨rfl, hw⟩
              rw [hw]
              clear hw w2 hso
              go_wp2_with fail
              refine (one_any 14 w1).mono ?_
              rintro e w2 ⟨rfl, b2⟩
              go_wp2_with fail
              refine (unit_any c w2 c0 h65).mono ?_
              rintro e w3 ⟨rfl, b3⟩
              have HB3 : Hid (Below w1.heap.size w1 w3) := below_two b2 b3
              clear b2 b3
              go_wp2
              go_ret
              rw [HL2.out]
              exact ⟨ret_str (by rw [← strOf_append]), HS1.out.1.below HB3.out, HS1.out.2.trans (chg_of_below HB3.out (Nat.le_refl _) _)⟩
            | false =>
              rw [hsf] at hso
              cases htg : tagC c with
              | true =>
                have HL2 : Hid (R = ([14] ++ [c / 256, c % 256], s)) := by show _ = _; rw [HL, if_neg (by omega), if_pos ⟨h65, .inr htg⟩, hub]; rfl
                rw [htg] at hcl
                clear HL hsf hub htg
                go_wp2_with fail
                refine hst.mono ?_
                rintro e w2 ⟨rfl, hw⟩
                rw [hw]
                clear hw w2 hst
                go_wp2_with fail
                refine hso.mono ?_
                rintro e w2 ⟨rfl, hw⟩
                rw [hw]
                clear hw w2 hso
                go_wp2_with fail
                refine hcl.mono ?_
                rintro e w2 ⟨rfl, hw⟩
                rw [hw]
                clear hw w2 hcl
                go_wp2_with fail
                refine (one_any 14 w1).mono ?_
                rintro e w2 ⟨rfl, b2⟩
                go_wp2_with fail
                refine (unit_any c w2 c0 h65).mono ?_
                rintro e w3 ⟨rfl, b3⟩
                have HB3 : Hid (Below w1.heap.size w1 w3) := below_two b2 b3
                clear b2 b3
                go_wp2
                go_ret
                rw [HL2.out]
                exact ⟨ret_str (by rw [← strOf_append]), HS1.out.1.below HB3.out, HS1.out.2.trans (chg_of_below HB3.out (Nat.le_refl _) _)⟩
              | false =>
                have HU := units_q D d s c w1 HS1.out.1 c0 (by omega) (R := R) (by
                  rw [HL, if_neg (by omega), if_neg (by rintro ⟨-, e | e⟩; rw [hsf] at e; cases e; rw [htg] at e; cases e), H.out.2.1, if_neg (by simp)]
                  unfold unitsC
                  rw [if_neg (by simp), if_neg (by rw [htg]; simp)]; rfl)
                rw [htg] at hcl
                clear HL hsf hub htg
                go_wp2_with fail
                refine hst.mono ?_
                rintro e w2 ⟨rfl, hw⟩
                rw [hw]
                clear hw w2 hst
                go_wp2_with fail
                refine hso.mono ?_
                rintro e w2 ⟨rfl, hw⟩
                rw [hw]
                clear hw w2 hso
                go_wp2_with fail
                refine hcl.mono ?_
                rintro e w2 ⟨rfl, hw⟩
                rw [hw]
                clear hw w2 hcl
                go_wp2_with fail
                refine HU.mono ?_
                rintro e w2 ⟨rfl, q1, q2⟩
                go_wp2
                go_ret
                exact ⟨rfl, q1, HS1.out.2.trans q2⟩
          · cases hsf : softC s (optI x) with
            | true =>
              have HU := lay_q D d s c w1 HS1.out.1 c0 H.out.2.2 (.inr (by omega)) (R := R) (by rw [HL, if_pos ⟨by omega, hsf⟩, H.out.2.1]; rfl)
              rw [hsf] at hso
              clear HL hsf hcl
              go_wp2_with fail
              refine hst.mono ?_
              rintro e w2 ⟨rfl, hw⟩
              rw [hw]
              clear hw w2 hst
              go_wp2_with fail
              refine hso.mono ?_
              rintro e w2 ⟨rfl, hw⟩
              rw [hw]
              clear hw w2 hso
              go_wp2_with fail
              refine HU.mono ?_
              rintro e w2 ⟨rfl, q1, q2⟩
              go_wp2
              go_ret
              exact ⟨rfl, q1, HS1.out.2.trans q2⟩
            | false =>
              have HU := units_q D d s c w1 HS1.out.1 c0 (by omega) (R := R) (by
                rw [HL, if_neg (by rintro ⟨-, e⟩; rw [hsf] at e; cases e), if_neg (by rintro ⟨e, -⟩; exact h65 e), H.out.2.1, if_neg (by simp)]
                unfold unitsC
                rw [if_neg (by simp), if_neg (by rintro ⟨-, e⟩; unfold tagC at e; simp only [decide_eq_true_eq] at e; omega)]; rfl)
              rw [hsf] at hso
              clear HL hsf hcl
              go_wp2_with fail
              refine hst.mono ?_
              rintro e w2 ⟨rfl, hw⟩
              rw [hw]
              clear hw w2 hst
              go_wp2_with fail
              refine hso.mono ?_
              rintro e w2 ⟨rfl, hw⟩
              rw [hw]
              clear hw w2 hso
              go_wp2_with fail
              refine HU.mono ?_
              rintro e w2 ⟨rfl, q1, q2⟩
              go_wp2
              go_ret
              exact ⟨rfl, q1, HS1.out.2.trans q2⟩
end CP
end Go.Proofs.YtpglmfhlgaliaaaDoor
