/-
  Plain facts on layer 15: what a scalar is written as, by either profile, in a state; that it is read as it was; sizes; plain texts; a first FEFF. No Go text is named here; no condition.
-/
import Derived.Test.YtpglmfhlgaliaaaDoorExpMat2
namespace Go.Proofs.YtpglmfhlgaliaaaDoor.Cmp
open Bas Scn Sca Win Exp
set_option linter.unusedVariables false
set_option linter.unusedSimpArgs false

/-- Where a text stands: the windows, the order of their use, the mode, the active window. -/
structure ES where
  wins : List Int
  used : List Int
  uni : Bool
  act : Nat
def es0 : ES := ⟨firstL8, used0, false, 0⟩
def passC (c : Int) : Bool := decide (c = 0 ∨ c = 9 ∨ c = 10 ∨ c = 13 ∨ (32 ≤ c ∧ c ≤ 127))
def easyC (s : ES) (c : Int) : Bool := passC c || decide (c < 32) || decide (0 ≤ findL s.wins c)
def softC (s : ES) (d : Option Int) : Bool := match d with | none => true | some d => easyC s d
/-- The offset of a scalar's own window; -1: none. -/
def ownO (c : Int) : Int := if 65535 < c then c / 128 * 128 else if idxI c < 0 then -1 else offI (idxI c)
def twinsC (c : Int) (d : Option Int) : Bool := match d with | none => false | some d => decide (0 ≤ ownO c) && hasI (ownO c) d
/-- A window holds the one behind, too. -/
def bothC (o : Int) (d : Option Int) : Bool := match d with | none => false | some d => hasI o d
def tagC (c : Int) : Bool := decide (57344 ≤ c ∧ c ≤ 62207)
def unitsC (c : Int) (q : Bool) : List Int := (if q = true ∧ tagC c = true then [240] else []) ++ big16 c
/-- A window is laid. -/
def layC (s : ES) (c idx pr : Int) : List Int × ES :=
  ((if 65535 < c then [pr, pairH (nth s.used 0) c, pairL c] else [idx + nth s.used 0, idxI c]) ++ [128 + (c - ownO c)],
   ⟨s.wins.set (nth s.used 0).toNat (ownO c), touchL s.used (nth s.used 0), false, (nth s.used 0).toNat⟩)
/-- 2 to 4 of the single mode. -/
def easiC (s : ES) (c : Int) : Option (List Int) :=
  if passC c = true then some [c] else if c < 32 then some [1, c] else if hasI (nth s.wins s.act) c = true then some [128 + (c - nth s.wins s.act)] else none
/-- The first static window from 1 on that holds a scalar; 0: none. -/
def statC (c : Int) : Nat := if hasI 128 c = true then 1 else if hasI 256 c = true then 2 else if hasI 768 c = true then 3 else if hasI 8192 c = true then 4 else if hasI 8320 c = true then 5 else if hasI 8448 c = true then 6 else if hasI 12288 c = true then 7 else 0
def singC (s : ES) (c : Int) (d : Option Int) : List Int × ES :=
  match easiC s c with
  | some l => (l, s)
  | none =>
    if 0 ≤ findL s.wins c then
      (if bothC (nth s.wins (findL s.wins c).toNat) d = true
        then ([16 + findL s.wins c, 128 + (c - nth s.wins (findL s.wins c).toNat)], ⟨s.wins, touchL s.used (findL s.wins c), s.uni, (findL s.wins c).toNat⟩)
        else ([1 + findL s.wins c, 128 + (c - nth s.wins (findL s.wins c).toNat)], ⟨s.wins, touchL s.used (findL s.wins c), s.uni, s.act⟩))
    else if 0 < statC c ∧ twinsC c d = false then ([1 + (statC c : Int), c - nth statL (statC c)], s)
    else if twinsC c d = true ∨ (65535 < c ∧ softC s d = true) then layC s c 24 11
    else if c < 65536 ∧ (softC s d = true ∨ tagC c = true) then (14 :: unitsC c false, s)
    else (15 :: unitsC c false, ⟨s.wins, s.used, true, s.act⟩)
def doubC (s : ES) (c : Int) (d : Option Int) : List Int × ES :=
  if easyC s c = true ∧ softC s d = true then
    ((224 + (if 0 ≤ findL s.wins c then findL s.wins c else (s.act : Int))) :: (easiC ⟨s.wins, s.used, false, if 0 ≤ findL s.wins c then (findL s.wins c).toNat else s.act⟩ c).getD [],
     ⟨s.wins, touchL s.used (if 0 ≤ findL s.wins c then findL s.wins c else (s.act : Int)), false, if 0 ≤ findL s.wins c then (findL s.wins c).toNat else s.act⟩)
  else if twinsC c d = true then layC s c 232 241
  else (unitsC c true, s)
def plainC (s : ES) (c : Int) : List Int × ES :=
  if s.uni = true then (unitsC c true, s)
  else if passC c = true ∨ (128 ≤ c ∧ c ≤ 255) then ([c], s)
  else if c < 32 then ([1, c], s)
  else (15 :: unitsC c true, ⟨s.wins, s.used, true, s.act⟩)
/-- A scalar, and the one behind it. -/
def oneC (plain : Bool) (s : ES) (c : Int) (d : Option Int) : List Int × ES := if plain = true then plainC s c else if s.uni = true then doubC s c d else singC s c d
/-- Scalars behind the first one. -/
def restC (plain : Bool) : ES → List Int → List Int
  | _, [] => []
  | s, c :: r => (oneC plain s c r.head?).1 ++ restC plain (oneC plain s c r.head?).2 r
/-- The text of a list. -/
def textC (plain : Bool) (l : List Int) : List Int := match l with
  | [] => []
  | c :: r => if c = 65279 then [14, 254, 255] ++ restC plain es0 r else restC plain es0 (c :: r)
/-- What holds all the time. -/
structure GoodE (s : ES) : Prop where
  len : s.wins.length = 8
  act : s.act < 8
  used : Eight s.used
  wins : ∀ o ∈ s.wins, offOK o
theorem goodE_0 : GoodE es0 := ⟨rfl, by decide, eight_0, good_0.wins⟩
/-- The decoder that reads it. -/
def decE (s : ES) : Exp.St := ⟨s.uni, s.act, s.wins, 0, []⟩
theorem GoodE.dec {s : ES} (h : GoodE s) : Exp.Good (decE s) := ⟨h.len, h.act, .inl rfl, h.wins, trivial⟩
theorem GoodE.old {s : ES} (h : GoodE s) : 0 ≤ nth s.used 0 ∧ nth s.used 0 ≤ 7 := (h.used.2.2 _).1 (nth_mem (by rw [h.used.1]; decide))
theorem own_cases {c : Int} (h0 : 0 ≤ c) (h1 : c ≤ 1114111) : ownO c = -1 ∨ (offOK (ownO c) ∧ hasI (ownO c) c = true ∧ ((65535 < c) ∨ (c ≤ 65535 ∧ 1 ≤ idxI c ∧ idxI c ≤ 255 ∧ ownO c = offI (idxI c) ∧ ¬ offI (idxI c) < 0))) := by
  unfold ownO
  by_cases h : 65535 < c
  · rw [if_pos h]
    right
    refine ⟨by unfold offOK; omega, by rw [has_iff]; omega, .inl h⟩
  · rw [if_neg h]
    rcases idx_has c with e | ⟨e1, e2, e3, e4⟩
    · rw [if_pos (by omega)]; exact .inl rfl
    · rw [if_neg (by omega)]
      right
      exact ⟨off_ok (by omega), e4, .inr ⟨by omega, e1, e2, rfl, by omega⟩⟩
theorem find_has {offs : List Int} {c : Int} (hl : offs.length = 8) (h : 0 ≤ findL offs c) : findL offs c ≤ 7 ∧ hasI (nth offs (findL offs c).toNat) c = true := by
  rcases find_rng offs c hl with e | ⟨e1, e2⟩
  · omega
  · refine ⟨e2, ?_⟩
    have hgo : ∀ (l : List Int) (k : Nat), 0 ≤ findA c k l → hasI (nth l ((findA c k l).toNat - k)) c = true ∧ (k : Int) ≤ findA c k l := by
      intro l
      induction l with
      | nil => intro k hk; simp [findA] at hk
      | cons o r ih =>
        intro k hk
        simp only [findA] at hk ⊢
        split
        · rename_i ho
          refine ⟨?_, by omega⟩
          rw [Int.toNat_natCast, Nat.sub_self]; exact ho
        · rename_i ho
          rw [if_neg ho] at hk
          obtain ⟨i1, i2⟩ := ih (k + 1) hk
          refine ⟨?_, by omega⟩
          have : (findA c (k + 1) r).toNat - k = (findA c (k + 1) r).toNat - (k + 1) + 1 := by omega
          rw [this, nth_cons_succ]; exact i1
    have := (hgo offs 0 h).1
    rwa [Nat.sub_zero] at this
theorem pass_iff {c : Int} : passC c = true ↔ c = 0 ∨ c = 9 ∨ c = 10 ∨ c = 13 ∨ (32 ≤ c ∧ c ≤ 127) := by unfold passC; simp
theorem stat_has {c : Int} (h : 0 < statC c) : statC c ≤ 7 ∧ hasI (nth statL (statC c)) c = true := by
  unfold statC at h ⊢
  repeat' split
  all_goals first | exact ⟨by decide, by assumption⟩ | skip
  simp_all
/-! ### What is read -/
theorem sc_one {s : Exp.St} {z : Exp.St × List Int} {b : Int} (h : stepX s b = some z) (r : List Int) : scan stepX s (b :: r) = (scan stepX z.1 r).pre z.2 1 := scan_some _ h
theorem k9 {c : Int} (h : passC c = true) : kindP false c = 9 := by
  have := pass_iff.1 h
  unfold kindP; rw [if_neg (by simp)]
  rw [if_neg (by omega), if_neg (by omega), if_neg (by omega), if_neg (by omega), if_neg (by omega), if_neg (by omega), if_neg (by omega), if_neg (by omega)]
theorem rd_pass {a : Nat} {w : List Int} {c : Int} (h : passC c = true) (r : List Int) : scan stepX ⟨false, a, w, 0, []⟩ (c :: r) = (scan stepX ⟨false, a, w, 0, []⟩ r).pre [c] 1 := sc_one (e0_9 (k9 h) (by omega)) r
theorem rd_ctl {a : Nat} {w : List Int} {c : Int} (h0 : 0 ≤ c) (h : c < 32) (r : List Int) : scan stepX ⟨false, a, w, 0, []⟩ (1 :: c :: r) = (scan stepX ⟨false, a, w, 0, []⟩ r).pre [c] 2 := by
  rw [sc_one (e0_b (by decide) (by decide) (by omega)), sc_one (e1_3 rfl), Res.pre_pre]
  rw [if_pos (by omega)]
  have : nth statL (1 - 1 : Int).toNat + c = c := by
    have : nth statL (1 - 1 : Int).toNat = 0 := rfl
    omega
  rw [this]; rfl
theorem rd_win {a : Nat} {w : List Int} {c : Int} (h : hasI (nth w a) c = true) (r : List Int) : scan stepX ⟨false, a, w, 0, []⟩ ((128 + (c - nth w a)) :: r) = (scan stepX ⟨false, a, w, 0, []⟩ r).pre [c] 1 := by
  have hh := has_iff.1 h
  rw [sc_one (e0_8 (k_up (by omega)) (by omega))]
  have : nth w a + (128 + (c - nth w a)) - 128 = c := by omega
  rw [this]
theorem rd_easi {s : ES} {c : Int} {l : List Int} (h : easiC s c = some l) (hu : s.uni = false) (h0 : 0 ≤ c) (r : List Int) : scan stepX (decE s) (l ++ r) = (scan stepX (decE s) r).pre [c] l.length := by
  obtain ⟨w, us, u, a⟩ := s
  simp only [] at hu
  subst hu
  unfold easiC at h
  split at h
  · rename_i hp; simp only [Option.some.injEq] at h; subst h; exact rd_pass hp r
  · split at h
    · rename_i hp; simp only [Option.some.injEq] at h; subst h; exact rd_ctl h0 hp r
    · split at h
      · rename_i hp; simp only [Option.some.injEq] at h; subst h; exact rd_win hp r
      · cases h
theorem easi_some {s : ES} {c : Int} (h : passC c = true ∨ c < 32 ∨ hasI (nth s.wins s.act) c = true) : ∃ l, easiC s c = some l ∧ 1 ≤ l.length ∧ l.length ≤ 2 := by
  unfold easiC
  by_cases h1 : passC c = true
  · rw [if_pos h1]; exact ⟨_, rfl, by simp, by simp⟩
  · rw [if_neg h1]
    by_cases h2 : c < 32
    · rw [if_pos h2]; exact ⟨_, rfl, by simp, by simp⟩
    · rw [if_neg h2, if_pos (by rcases h with h | h | h; exact absurd h h1; exact absurd h h2; exact h)]
      exact ⟨_, rfl, by simp, by simp⟩
/-- A scalar's units, in the Unicode mode. -/
theorem rd_units {a : Nat} {w : List Int} {c : Int} (q : Bool) (hq : q = true ∨ tagC c = false) (h0 : 0 ≤ c) (hc : isB c = true) (r : List Int) :
    scan stepX ⟨true, a, w, 0, []⟩ (unitsC c q ++ r) = (scan stepX ⟨true, a, w, 0, []⟩ r).pre [c] (unitsC c q).length := by
  have hi := isB_iff.1 hc
  unfold unitsC
  by_cases h : c < 65536
  · have hb : big16 c = [c / 256, c % 256] := by unfold big16; rw [if_pos h]
    have hqq : (if q = true ∧ tagC c = true then [240] else ([] : List Int)) = quotB (c / 256) := by
      unfold quotB
      by_cases ht : tagC c = true
      · have hq1 : q = true := by
          rcases hq with e | e
          · exact e
          · rw [e] at ht; cases ht
        rw [if_pos ⟨hq1, ht⟩]
        unfold tagC at ht
        simp only [decide_eq_true_eq] at ht
        rw [if_pos (by omega)]
      · rw [if_neg (fun e => ht e.2)]
        unfold tagC at ht
        simp only [decide_eq_true_eq] at ht
        rw [if_neg (by omega)]
    rw [hb, hqq, List.append_assoc]
    have hl : lowB (c / 256) = decide ((0 : Int) < 0) := by
      rw [decide_eq_false (by omega)]; unfold lowB; rw [decide_eq_false]; omega
    rw [List.cons_append, List.cons_append, List.nil_append, unit_plain (by omega) hl, unit_one (by omega) (by omega)]
    have e : c / 256 * 256 + c % 256 = c := by omega
    simp only [e, List.length_append, List.length_cons, List.length_nil]
  · have ht : tagC c = false := by unfold tagC; rw [decide_eq_false]; omega
    rw [if_neg (by rw [ht]; simp), List.nil_append]
    unfold big16
    rw [if_neg h]
    obtain ⟨x1, e1⟩ : ∃ x, (55296 + (c - 65536) / 1024) / 256 = x := ⟨_, rfl⟩
    obtain ⟨y1, f1⟩ : ∃ x, (55296 + (c - 65536) / 1024) % 256 = x := ⟨_, rfl⟩
    obtain ⟨x2, e2⟩ : ∃ x, (56320 + (c - 65536) % 1024) / 256 = x := ⟨_, rfl⟩
    obtain ⟨y2, f2⟩ : ∃ x, (56320 + (c - 65536) % 1024) % 256 = x := ⟨_, rfl⟩
    rw [e1, f1, e2, f2]
    have hl : lowB x1 = decide ((0 : Int) < 0) := by
      rw [decide_eq_false (by omega)]; unfold lowB; rw [decide_eq_false]; omega
    have hl2 : lowB x2 = decide (0 < x1 * 256 + y1) := by
      rw [decide_eq_true (by omega)]; rw [low_iff2]; omega
    have k1 : kindP true x1 = 2 := k_two (by omega)
    have k2 : kindP true x2 = 2 := k_two (by omega)
    simp only [List.cons_append, List.nil_append]
    rw [sc_one (e0_2 k1 hl), sc_one (e1_2 k1), unit_high (by omega) (by omega)]
    simp only []
    rw [sc_one (e0_2 k2 hl2), sc_one (e1_2 k2), unit_low (by rw [low_iff2]; omega)]
    have e : 65536 + (x1 * 256 + y1 - 55296) * 1024 + (x2 * 256 + y2) - 56320 = c := by omega
    simp only [Res.pre_pre, e, List.nil_append, List.append_nil, List.length_cons, List.length_nil]
theorem own_sc {c d : Int} (h0 : 0 ≤ c) (hb : isB c = true) (h : twinsC c (some d) = true ∨ 65535 < c) : 0 ≤ ownO c ∧ offOK (ownO c) ∧ hasI (ownO c) c = true ∧ (65535 < c ∨ (c ≤ 65535 ∧ ¬ offI (idxI c) < 0 ∧ ownO c = offI (idxI c))) := by
  have hi := isB_iff.1 hb
  rcases own_cases (c := c) (by omega) (by omega) with e | ⟨e1, e2, e3⟩
  · exfalso
    rcases h with h | h
    · unfold twinsC at h
      simp only [Bool.and_eq_true, decide_eq_true_eq] at h
      omega
    · unfold ownO at e
      rw [if_pos h] at e
      omega
  · refine ⟨by unfold offOK at e1; omega, e1, e2, ?_⟩
    rcases e3 with e | ⟨f1, f2, f3, f4, f5⟩
    · exact .inl e
    · exact .inr ⟨f1, f5, f4⟩
theorem k_11 : kindP false 11 = 4 := rfl
theorem k_241 : kindP true 241 = 4 := rfl
theorem pair_own {n c : Int} (h0 : 0 ≤ n) (h1 : n ≤ 7) (c0 : 65535 < c) (c1 : c ≤ 1114111) : (extN (pairH n c)).toNat = n.toNat ∧ extO (pairH n c) (pairL c) = ownO c := by
  refine ⟨by rw [(pair_ext h0 h1 (by omega) c1).1], ?_⟩
  unfold ownO extO pairH pairL
  rw [if_pos c0]
  omega
/-- A laid window, and what stands behind it. -/
theorem rd_lay {s : ES} (hs : GoodE s) {c : Int} (h0 : 0 ≤ c) (hb : isB c = true) (hw : (∃ d, twinsC c (some d) = true) ∨ 65535 < c) (r : List Int) :
    scan stepX (decE s) ((layC s c (if s.uni = true then 232 else 24) (if s.uni = true then 241 else 11)).1 ++ r) = (scan stepX (decE (layC s c (if s.uni = true then 232 else 24) (if s.uni = true then 241 else 11)).2) r).pre [c] (layC s c (if s.uni = true then 232 else 24) (if s.uni = true then 241 else 11)).1.length := by
  have hi := isB_iff.1 hb
  obtain ⟨n0, n1⟩ := hs.old
  have hlen := hs.len
  obtain ⟨w, us, u, a⟩ := s
  simp only [] at n0 n1 hlen
  obtain ⟨n, hn⟩ : ∃ n, nth us 0 = n := ⟨_, rfl⟩
  rw [hn] at n0 n1
  have how : 0 ≤ ownO c ∧ offOK (ownO c) ∧ hasI (ownO c) c = true ∧ (65535 < c ∨ (c ≤ 65535 ∧ ¬ offI (idxI c) < 0 ∧ ownO c = offI (idxI c))) := by
    rcases hw with ⟨d, e⟩ | e
    · exact own_sc h0 hb (.inl e)
    · exact own_sc (d := 0) h0 hb (.inr e)
  obtain ⟨o0, ok, oh, oc⟩ := how
  have ohh := has_iff.1 oh
  have hset : nth (w.set n.toNat (ownO c)) n.toNat = ownO c := nth_set_is w n.toNat (ownO c) (by omega)
  have hlast : scan stepX ⟨false, n.toNat, w.set n.toNat (ownO c), 0, []⟩ ((128 + (c - ownO c)) :: r) = (scan stepX ⟨false, n.toNat, w.set n.toNat (ownO c), 0, []⟩ r).pre [c] 1 := by
    have := rd_win (a := n.toNat) (w := w.set n.toNat (ownO c)) (c := c) (by rw [hset]; exact oh) r
    rwa [hset] at this
  obtain ⟨d1, d2, d3, d4⟩ := k_def n0 n1
  unfold layC decE
  simp only [hn]
  by_cases hbig : 65535 < c
  · rw [if_pos hbig]
    obtain ⟨p1, p2⟩ := pair_own (c := c) n0 n1 hbig (by omega)
    cases u
    · simp only [Bool.false_eq_true, if_false, List.cons_append, List.nil_append]
      rw [sc_one (e0_b (by rw [k_11]; decide) (by rw [k_11]; decide) (by omega)), sc_one (e1_4 k_11), sc_one (e2_4 k_11)]
      simp only [layE, p1, p2]
      rw [hlast]
      simp only [Res.pre_pre, List.nil_append, List.length_cons, List.length_nil]
    · simp only [if_true, List.cons_append, List.nil_append]
      rw [sc_one (e0_b (by rw [k_241]; decide) (by rw [k_241]; decide) (by omega)), sc_one (e1_4 k_241), sc_one (e2_4 k_241)]
      simp only [layE, p1, p2]
      rw [hlast]
      simp only [Res.pre_pre, List.nil_append, List.length_cons, List.length_nil]
  · rw [if_neg hbig]
    rcases oc with e | ⟨-, oc1, oc2⟩
    · exact absurd e hbig
    cases u
    · simp only [Bool.false_eq_true, if_false, List.cons_append, List.nil_append]
      rw [sc_one (e0_b (by omega) (by omega) (by omega)), sc_one (e1_5 d1 oc1)]
      simp only [layE, d2, ← oc2]
      rw [hlast]
      simp only [Res.pre_pre, List.nil_append, List.length_cons, List.length_nil]
    · simp only [if_true, List.cons_append, List.nil_append]
      rw [sc_one (e0_b (by omega) (by omega) (by omega)), sc_one (e1_5 d3 oc1)]
      simp only [layE, d4, ← oc2]
      rw [hlast]
      simp only [Res.pre_pre, List.nil_append, List.length_cons, List.length_nil]
theorem good_layC {s : ES} (hs : GoodE s) {c : Int} (h0 : 0 ≤ c) (hb : isB c = true) (hw : (∃ d, twinsC c (some d) = true) ∨ 65535 < c) (x y : Int) : GoodE (layC s c x y).2 ∧ (layC s c x y).1.length ≤ (if 65535 < c then 4 else 3) := by
  have how : 0 ≤ ownO c ∧ offOK (ownO c) ∧ hasI (ownO c) c = true ∧ (65535 < c ∨ (c ≤ 65535 ∧ ¬ offI (idxI c) < 0 ∧ ownO c = offI (idxI c))) := by
    rcases hw with ⟨d, e⟩ | e
    · exact own_sc h0 hb (.inl e)
    · exact own_sc (d := 0) h0 hb (.inr e)
  obtain ⟨n0, n1⟩ := hs.old
  unfold layC
  refine ⟨⟨by simp only [List.length_set]; exact hs.len, by simp only []; omega, touch_eight hs.used _, set_ok hs.wins how.2.1⟩, ?_⟩
  split <;> simp
theorem good_act {s : ES} (hs : GoodE s) {n : Int} (h0 : 0 ≤ n) (h1 : n ≤ 7) (u : Bool) : GoodE ⟨s.wins, touchL s.used n, u, n.toNat⟩ ∧ GoodE ⟨s.wins, touchL s.used n, u, s.act⟩ :=
  ⟨⟨hs.len, by simp only []; omega, touch_eight hs.used _, hs.wins⟩, ⟨hs.len, hs.act, touch_eight hs.used _, hs.wins⟩⟩
theorem rd_14 {a : Nat} {w : List Int} {c : Int} (h0 : 0 ≤ c) (hb : isB c = true) (h : c < 65536) (r : List Int) : scan stepX ⟨false, a, w, 0, []⟩ (14 :: unitsC c false ++ r) = (scan stepX ⟨false, a, w, 0, []⟩ r).pre [c] 3 := by
  have hi := isB_iff.1 hb
  have hl : lowB (c / 256) = decide ((0 : Int) < 0) := by
    rw [decide_eq_false (by omega)]; unfold lowB; rw [decide_eq_false]; omega
  have hu : unitsC c false = [c / 256, c % 256] := by
    unfold unitsC big16; rw [if_pos h]; simp
  rw [hu]
  simp only [List.cons_append, List.nil_append]
  rw [sc_one (e0_1 k_14), sc_one (e1_1 k_14 hl), sc_one (e2_1 k_14), unit_one (by omega) (by omega)]
  have e : c / 256 * 256 + c % 256 = c := by omega
  simp only [Res.pre_pre, e, List.nil_append]
theorem units_len {c : Int} (q : Bool) : (unitsC c q).length = (if q = true ∧ tagC c = true then 1 else 0) + (if c < 65536 then 2 else 4) := by
  unfold unitsC big16
  rw [List.length_append]
  split <;> split <;> simp
/-- The single mode: what is written is read, and all holds as before. -/
theorem sing_rd {s : ES} (hs : GoodE s) (hu : s.uni = false) {c : Int} (h0 : 0 ≤ c) (hb : isB c = true) (d : Option Int) (r : List Int) :
    (scan stepX (decE s) ((singC s c d).1 ++ r) = (scan stepX (decE (singC s c d).2) r).pre [c] (singC s c d).1.length) ∧ GoodE (singC s c d).2 := by
  have hi := isB_iff.1 hb
  unfold singC
  cases he : easiC s c with
  | some l => exact ⟨rd_easi he hu h0 r, hs⟩
  | none =>
    simp only []
    by_cases hf : 0 ≤ findL s.wins c
    · rw [if_pos hf]
      obtain ⟨f1, f2⟩ := find_has hs.len hf
      obtain ⟨n, hn⟩ : ∃ n, findL s.wins c = n := ⟨_, rfl⟩
      rw [hn] at hf f1 f2 ⊢
      obtain ⟨g1, g2, -, -, g5⟩ := k_chg hf f1
      obtain ⟨a1, a2⟩ := good_act hs hf f1 s.uni
      have ff := has_iff.1 f2
      obtain ⟨w, us, u, a⟩ := s
      simp only [] at hu
      subst hu
      simp only [] at a1 a2 f2 ff ⊢
      by_cases hq : bothC (nth w n.toNat) d = true
      · rw [if_pos hq]
        refine ⟨?_, a1⟩
        simp only [List.cons_append, List.nil_append, decE]
        rw [sc_one (e0_6 g1 (by omega)), g2, rd_win f2]
        simp only [Res.pre_pre, List.nil_append, List.length_cons, List.length_nil]
      · rw [if_neg hq]
        refine ⟨?_, a2⟩
        simp only [List.cons_append, List.nil_append, decE]
        rw [sc_one (e0_b (by omega) (by omega) (by omega)), sc_one (e1_3 g5), if_neg (by omega)]
        have e2 : (1 + n - 1).toNat = n.toNat := by congr 1; omega
        have e3 : nth w n.toNat + (128 + (c - nth w n.toNat)) - 128 = c := by omega
        simp only [Res.pre_pre, e2, e3, List.nil_append, List.length_cons, List.length_nil]
    · rw [if_neg hf]
      by_cases h6 : 0 < statC c ∧ twinsC c d = false
      · rw [if_pos h6]
        obtain ⟨t1, t2⟩ := stat_has h6.1
        have tt := has_iff.1 t2
        obtain ⟨-, -, -, -, g5⟩ := k_chg (n := (statC c : Int)) (by omega) (by omega)
        refine ⟨?_, hs⟩
        obtain ⟨w, us, u, a⟩ := s
        simp only [] at hu
        subst hu
        simp only [List.cons_append, List.nil_append, decE]
        rw [sc_one (e0_b (by omega) (by omega) (by omega)), sc_one (e1_3 g5), if_pos (by omega)]
        have e2 : (1 + (statC c : Int) - 1).toNat = statC c := by omega
        have e3 : nth statL (statC c) + (c - nth statL (statC c)) = c := by omega
        simp only [Res.pre_pre, e2, e3, List.nil_append, List.length_cons, List.length_nil]
      · rw [if_neg h6]
        by_cases h7 : twinsC c d = true ∨ (65535 < c ∧ softC s d = true)
        · rw [if_pos h7]
          have hw : (∃ d, twinsC c (some d) = true) ∨ 65535 < c := by
            rcases h7 with e | e
            · cases d with
              | none => simp [twinsC] at e
              | some d => exact .inl ⟨d, e⟩
            · exact .inr e.1
          have := rd_lay hs h0 hb hw r
          rw [hu] at this
          simp only [Bool.false_eq_true, if_false] at this
          exact ⟨this, (good_layC hs h0 hb hw 24 11).1⟩
        · rw [if_neg h7]
          by_cases h8 : c < 65536 ∧ (softC s d = true ∨ tagC c = true)
          · rw [if_pos h8]
            refine ⟨?_, hs⟩
            obtain ⟨w, us, u, a⟩ := s
            simp only [] at hu
            subst hu
            have := rd_14 (a := a) (w := w) h0 hb h8.1 r
            simp only [decE]
            rw [this, List.length_cons, units_len, if_neg (by simp), if_pos h8.1]
          · rw [if_neg h8]
            refine ⟨?_, ⟨hs.len, hs.act, hs.used, hs.wins⟩⟩
            obtain ⟨w, us, u, a⟩ := s
            simp only [] at hu
            subst hu
            have ht : tagC c = false := by
              by_cases hc : c < 65536
              · cases ht : tagC c with
                | false => rfl
                | true => exact absurd ⟨hc, .inr ht⟩ h8
              · unfold tagC; rw [decide_eq_false]; omega
            simp only [List.cons_append, decE]
            rw [sc_one (e0_7 rfl (by omega)), rd_units false (.inr ht) h0 hb]
            simp only [Res.pre_pre, List.nil_append, List.length_cons]
            rw [Nat.add_comm]
/-- The Unicode mode. -/
theorem doub_rd {s : ES} (hs : GoodE s) (hu : s.uni = true) {c : Int} (h0 : 0 ≤ c) (hb : isB c = true) (d : Option Int) (r : List Int) :
    (scan stepX (decE s) ((doubC s c d).1 ++ r) = (scan stepX (decE (doubC s c d).2) r).pre [c] (doubC s c d).1.length) ∧ GoodE (doubC s c d).2 := by
  have hi := isB_iff.1 hb
  unfold doubC
  by_cases h1 : easyC s c = true ∧ softC s d = true
  · rw [if_pos h1]
    obtain ⟨n, hn⟩ : ∃ n : Int, (if 0 ≤ findL s.wins c then findL s.wins c else (s.act : Int)) = n := ⟨_, rfl⟩
    have hn2 : (if 0 ≤ findL s.wins c then (findL s.wins c).toNat else s.act) = n.toNat := by
      rw [← hn]; split <;> simp
    rw [hn, hn2]
    have hnr : 0 ≤ n ∧ n ≤ 7 := by
      rw [← hn]
      have := hs.act
      split
      · rename_i hf
        exact ⟨hf, (find_has hs.len hf).1⟩
      · omega
    obtain ⟨-, -, g3, g4, -⟩ := k_chg hnr.1 hnr.2
    obtain ⟨a1, -⟩ := good_act hs hnr.1 hnr.2 false
    refine ⟨?_, a1⟩
    obtain ⟨w, us, u, a⟩ := s
    simp only [] at hu
    subst hu
    obtain ⟨l, hl, -, -⟩ := easi_some (s := ⟨w, us, false, n.toNat⟩) (c := c) (by
      unfold easyC at h1
      simp only [Bool.or_eq_true, decide_eq_true_eq] at h1
      rcases h1.1 with (e | e) | e
      · exact .inl e
      · exact .inr (.inl e)
      · refine .inr (.inr ?_)
        have := (find_has hs.len e).2
        rw [if_pos e] at hn
        rw [← hn]; exact this)
    simp only [hl, Option.getD_some, List.cons_append, decE]
    rw [sc_one (e0_6 g3 (by omega)), g4]
    have := rd_easi hl rfl h0 r
    simp only [decE] at this
    rw [this]
    simp only [Res.pre_pre, List.nil_append, List.length_cons]
    rw [Nat.add_comm]
  · rw [if_neg h1]
    by_cases h2 : twinsC c d = true
    · rw [if_pos h2]
      have hw : (∃ d, twinsC c (some d) = true) ∨ 65535 < c := by
        cases d with
        | none => simp [twinsC] at h2
        | some d => exact .inl ⟨d, h2⟩
      have := rd_lay hs h0 hb hw r
      rw [hu] at this
      simp only [if_true] at this
      exact ⟨this, (good_layC hs h0 hb hw 232 241).1⟩
    · rw [if_neg h2]
      refine ⟨?_, hs⟩
      obtain ⟨w, us, u, a⟩ := s
      simp only [] at hu
      subst hu
      exact rd_units true (.inl rfl) h0 hb r
/-- The plain profile. -/
theorem plain_rd {s : ES} (hs : GoodE s) (hp : s.wins = firstL8 ∧ s.act = 0) {c : Int} (h0 : 0 ≤ c) (hb : isB c = true) (r : List Int) :
    (scan stepX (decE s) ((plainC s c).1 ++ r) = (scan stepX (decE (plainC s c).2) r).pre [c] (plainC s c).1.length) ∧ GoodE (plainC s c).2 ∧ (plainC s c).2.wins = firstL8 ∧ (plainC s c).2.act = 0 := by
  obtain ⟨w, us, u, a⟩ := s
  obtain ⟨rfl, rfl⟩ := hp
  unfold plainC
  cases u
  · rw [if_neg (by simp)]
    by_cases h2 : passC c = true ∨ (128 ≤ c ∧ c ≤ 255)
    · rw [if_pos h2]
      refine ⟨?_, hs, rfl, rfl⟩
      rcases h2 with e | e
      · exact rd_pass e r
      · have := rd_win (a := 0) (w := firstL8) (c := c) (by rw [has_iff]; show 128 ≤ c ∧ c < 128 + 128; omega) r
        have e2 : 128 + (c - nth firstL8 0) = c := by show 128 + (c - 128) = c; omega
        rw [e2] at this
        exact this
    · rw [if_neg h2]
      by_cases h3 : c < 32
      · rw [if_pos h3]; exact ⟨rd_ctl h0 h3 r, hs, rfl, rfl⟩
      · rw [if_neg h3]
        refine ⟨?_, ⟨hs.len, hs.act, hs.used, hs.wins⟩, rfl, rfl⟩
        simp only [List.cons_append, decE]
        rw [sc_one (e0_7 rfl (by omega)), rd_units true (.inl rfl) h0 hb]
        simp only [Res.pre_pre, List.nil_append, List.length_cons]
        rw [Nat.add_comm]
  · rw [if_pos rfl]
    exact ⟨rd_units true (.inl rfl) h0 hb r, hs, rfl, rfl⟩
/-- What holds all the time, by profile. -/
def InvE (plain : Bool) (s : ES) : Prop := GoodE s ∧ (plain = true → s.wins = firstL8 ∧ s.act = 0)
theorem inv_0 (plain : Bool) : InvE plain es0 := ⟨goodE_0, fun _ => ⟨rfl, rfl⟩⟩
theorem one_rd {plain : Bool} {s : ES} (hs : InvE plain s) {c : Int} (h0 : 0 ≤ c) (hb : isB c = true) (d : Option Int) (r : List Int) :
    (scan stepX (decE s) ((oneC plain s c d).1 ++ r) = (scan stepX (decE (oneC plain s c d).2) r).pre [c] (oneC plain s c d).1.length) ∧ InvE plain (oneC plain s c d).2 := by
  unfold oneC
  cases plain
  · simp only [Bool.false_eq_true, if_false]
    cases hu : s.uni
    · simp only [Bool.false_eq_true, if_false]
      obtain ⟨e1, e2⟩ := sing_rd hs.1 hu h0 hb d r
      exact ⟨e1, e2, by intro e; cases e⟩
    · simp only [if_true]
      obtain ⟨e1, e2⟩ := doub_rd hs.1 hu h0 hb d r
      exact ⟨e1, e2, by intro e; cases e⟩
  · simp only [if_true]
    obtain ⟨e1, e2, e3⟩ := plain_rd hs.1 (hs.2 rfl) h0 hb r
    exact ⟨e1, e2, fun _ => e3⟩
/-- Text back, from any state: all is read, and the state that stands at last is one of rest. -/
theorem rest_rd {plain : Bool} (l : List Int) (h : ∀ c ∈ l, isB c = true ∧ 0 ≤ c) : ∀ s, InvE plain s → ∃ z, InvE plain z ∧ scan stepX (decE s) (restC plain s l) = ⟨l, (restC plain s l).length, decE z, false⟩ := by
  induction l with
  | nil => intro s hs; exact ⟨s, hs, rfl⟩
  | cons c r ih =>
    intro s hs
    obtain ⟨hb, h0⟩ := h c (by simp)
    obtain ⟨e1, e2⟩ := one_rd hs h0 hb r.head? (restC plain (oneC plain s c r.head?).2 r)
    obtain ⟨z, z1, z2⟩ := ih (fun x hx => h x (List.mem_cons_of_mem _ hx)) _ e2
    refine ⟨z, z1, ?_⟩
    simp only [restC]
    rw [e1, z2]
    simp [Res.pre]
/-- A first FEFF is read, too. -/
theorem text_rd {plain : Bool} (l : List Int) (h : ∀ c ∈ l, isB c = true ∧ 0 ≤ c) : ∃ z, InvE plain z ∧ scan stepX Exp.st0 (textC plain l) = ⟨l, (textC plain l).length, decE z, false⟩ := by
  cases l with
  | nil => exact ⟨es0, inv_0 plain, rfl⟩
  | cons c r =>
    simp only [textC]
    by_cases hf : c = 65279
    · subst hf
      rw [if_pos rfl]
      obtain ⟨z, z1, z2⟩ := rest_rd r (fun x hx => h x (List.mem_cons_of_mem _ hx)) es0 (inv_0 plain)
      refine ⟨z, z1, ?_⟩
      have := rd_14 (a := 0) (w := firstL8) (c := 65279) (by decide) (by decide) (by decide) (restC plain es0 r)
      have e : (14 : Int) :: unitsC 65279 false = [14, 254, 255] := by decide
      rw [e] at this
      have e2 : (⟨false, 0, firstL8, 0, []⟩ : Exp.St) = decE es0 := rfl
      rw [e2] at this
      have e3 : Exp.st0 = decE es0 := rfl
      rw [e3, this, z2]
      simp [Res.pre]
      omega
    · rw [if_neg hf]
      exact rest_rd (c :: r) h es0 (inv_0 plain)
/-- Behind a first FEFF, the text is what it is without it, unless FEFF comes again. -/
theorem text_mark {plain : Bool} (l : List Int) (h : l.head? ≠ some 65279) : textC plain (65279 :: l) = [14, 254, 255] ++ textC plain l := by
  simp only [textC, if_true]
  cases l with
  | nil => rfl
  | cons c r =>
    simp only [List.head?_cons, ne_eq, Option.some.injEq] at h
    simp only []
    rw [if_neg h]
/-! ### Sizes -/
def unN (c : Int) : Nat := if c < 65536 then 1 else 2
def tgN (c : Int) : Nat := if tagC c = true then 1 else 0
def unL : List Int → Nat
  | [] => 0
  | c :: r => unN c + unL r
def tgL : List Int → Nat
  | [] => 0
  | c :: r => tgN c + tgL r
theorem tag_small {c : Int} (h : ¬ c < 65536) : tagC c = false := by unfold tagC; rw [decide_eq_false]; omega
theorem units_true (c : Int) : (unitsC c true).length = 2 * unN c + tgN c := by
  rw [units_len]
  unfold unN tgN
  by_cases h : c < 65536
  · simp only [if_pos h, true_and]; split <;> omega
  · rw [tag_small h]; simp [h]
theorem units_false (c : Int) : (unitsC c false).length = 2 * unN c := by
  rw [units_len, if_neg (by simp)]
  unfold unN
  split <;> omega
theorem sing_len {s : ES} (hs : GoodE s) {c : Int} (h0 : 0 ≤ c) (hb : isB c = true) (d : Option Int) : (singC s c d).1.length ≤ 3 * unN c := by
  have h1 : 1 ≤ unN c := by unfold unN; split <;> omega
  unfold singC
  cases he : easiC s c with
  | some l =>
    have : l.length ≤ 2 := by
      unfold easiC at he
      repeat' split at he
      all_goals first | (simp only [Option.some.injEq] at he; subst he; simp) | cases he
    simp only []; omega
  | none =>
    simp only []
    split
    · split <;> simp <;> omega
    · split
      · simp; omega
      · split
        · rename_i h7
          have hw : (∃ d, twinsC c (some d) = true) ∨ 65535 < c := by
            rcases h7 with e | e
            · cases d with
              | none => simp [twinsC] at e
              | some d => exact .inl ⟨d, e⟩
            · exact .inr e.1
          have := (good_layC hs h0 hb hw 24 11).2
          unfold unN
          split at this <;> split <;> omega
        · split
          · simp only [List.length_cons, units_false]; omega
          · simp only [List.length_cons, units_false]; omega
theorem doub_len {s : ES} (hs : GoodE s) {c : Int} (h0 : 0 ≤ c) (hb : isB c = true) (d : Option Int) : (doubC s c d).1.length ≤ 3 * unN c := by
  have h1 : 1 ≤ unN c := by unfold unN; split <;> omega
  unfold doubC
  split
  · have : ∀ z : ES, ((easiC z c).getD []).length ≤ 2 := by
      intro z
      unfold easiC
      repeat' split
      all_goals simp
    have := this ⟨s.wins, s.used, false, if 0 ≤ findL s.wins c then (findL s.wins c).toNat else s.act⟩
    simp only [List.length_cons]; omega
  · split
    · rename_i h7
      have hw : (∃ d, twinsC c (some d) = true) ∨ 65535 < c := by
        cases d with
        | none => simp [twinsC] at h7
        | some d => exact .inl ⟨d, h7⟩
      have := (good_layC hs h0 hb hw 232 241).2
      unfold unN
      split at this <;> split <;> omega
    · simp only [units_true]
      unfold unN tgN
      split
      · split <;> omega
      · rename_i h
        rw [tag_small h, if_neg (by simp)]; omega
theorem one_len {s : ES} (hs : GoodE s) {c : Int} (h0 : 0 ≤ c) (hb : isB c = true) (d : Option Int) : (oneC false s c d).1.length ≤ 3 * unN c := by
  unfold oneC
  rw [if_neg (by simp)]
  split
  · exact doub_len hs h0 hb d
  · exact sing_len hs h0 hb d
theorem rest_len (l : List Int) (h : ∀ c ∈ l, isB c = true ∧ 0 ≤ c) : ∀ s, InvE false s → (restC false s l).length ≤ 3 * unL l := by
  induction l with
  | nil => intro s hs; simp [restC]
  | cons c r ih =>
    intro s hs
    obtain ⟨hb, h0⟩ := h c (by simp)
    have e1 := one_len hs.1 h0 hb r.head?
    have e2 := (one_rd hs h0 hb r.head? []).2
    have e3 := ih (fun x hx => h x (List.mem_cons_of_mem _ hx)) _ e2
    simp only [restC, List.length_append, unL]
    omega
theorem text_len (l : List Int) (h : ∀ c ∈ l, isB c = true ∧ 0 ≤ c) : (textC false l).length ≤ 3 * unL l := by
  cases l with
  | nil => simp [textC]
  | cons c r =>
    simp only [textC]
    split
    · rename_i hf
      subst hf
      have := rest_len r (fun x hx => h x (List.mem_cons_of_mem _ hx)) es0 (inv_0 false)
      simp only [List.length_append, List.length_cons, List.length_nil, unL]
      have e : unN 65279 = 1 := rfl
      omega
    · exact rest_len (c :: r) h es0 (inv_0 false)
/-- The plain profile, behind the first scalar above FF: two for each unit, one more for a tag. -/
theorem rest_uni (l : List Int) : ∀ s : ES, s.uni = true → (restC true s l).length = 2 * unL l + tgL l := by
  induction l with
  | nil => intro s hs; simp [restC, unL, tgL]
  | cons c r ih =>
    intro s hs
    have e : oneC true s c r.head? = (unitsC c true, s) := by unfold oneC plainC; rw [if_pos rfl, if_pos hs]
    have := ih s hs
    simp only [restC, e, List.length_append, units_true, unL, tgL]
    omega
theorem rest_plain (l : List Int) : ∀ s : ES, (restC true s l).length ≤ 2 * unL l + tgL l + 1 := by
  induction l with
  | nil => intro s; simp [restC]
  | cons c r ih =>
    intro s
    have h1 : 1 ≤ unN c := by unfold unN; split <;> omega
    by_cases hu : s.uni = true
    · have := rest_uni (c :: r) s hu
      omega
    · have e0 : oneC true s c r.head? = plainC s c := by unfold oneC; rw [if_pos rfl]
      simp only [restC, e0, List.length_append, unL, tgL]
      unfold plainC
      rw [if_neg hu]
      split
      · have := ih s; simp only [List.length_cons, List.length_nil]; omega
      · split
        · have := ih s; simp only [List.length_cons, List.length_nil]; omega
        · have := rest_uni r ⟨s.wins, s.used, true, s.act⟩ rfl
          simp only [List.length_cons, units_true]; omega
theorem text_plain (l : List Int) : (textC true l).length ≤ 2 * unL l + tgL l + 2 := by
  cases l with
  | nil => simp [textC]
  | cons c r =>
    simp only [textC]
    split
    · rename_i hf
      subst hf
      have := rest_plain r es0
      simp only [List.length_append, List.length_cons, List.length_nil, unL, tgL]
      have e : unN 65279 = 1 := rfl
      omega
    · have := rest_plain (c :: r) es0
      omega
/-! ### Latin, and the plain profile's parts -/
theorem es0_sing {c : Int} (h : passC c = true ∨ (128 ≤ c ∧ c ≤ 255)) (d : Option Int) : singC es0 c d = ([c], es0) := by
  have : easiC es0 c = some [c] := by
    unfold easiC
    by_cases hp : passC c = true
    · rw [if_pos hp]
    · have hc : 128 ≤ c ∧ c ≤ 255 := h.resolve_left hp
      rw [if_neg hp, if_neg (by omega)]
      have e : nth es0.wins es0.act = 128 := rfl
      rw [e, if_pos (by rw [has_iff]; omega)]
      congr 1; congr 1; omega
  unfold singC
  rw [this]
theorem es0_one (plain : Bool) {c : Int} (h : passC c = true ∨ (128 ≤ c ∧ c ≤ 255)) (d : Option Int) : oneC plain es0 c d = ([c], es0) := by
  unfold oneC
  cases plain
  · rw [if_neg (by simp), if_neg (by decide)]; exact es0_sing h d
  · rw [if_pos rfl]; unfold plainC; rw [if_neg (by decide), if_pos h]
theorem rest_latin (plain : Bool) (l : List Int) (h : ∀ c ∈ l, passC c = true ∨ (128 ≤ c ∧ c ≤ 255)) : restC plain es0 l = l := by
  induction l with
  | nil => rfl
  | cons c r ih =>
    simp only [restC, es0_one plain (h c (by simp))]
    rw [ih (fun x hx => h x (List.mem_cons_of_mem _ hx))]
    rfl
theorem text_latin (plain : Bool) (l : List Int) (h : ∀ c ∈ l, passC c = true ∨ (128 ≤ c ∧ c ≤ 255)) : textC plain l = l := by
  cases l with
  | nil => rfl
  | cons c r =>
    simp only [textC]
    have := h c (by simp)
    rw [if_neg (by rintro rfl; rcases this with e | e; exact absurd e (by decide); omega)]
    exact rest_latin plain (c :: r) h
/-- The plain profile, up to a place ahead of which no scalar is above FF: nothing that stands behind it matters. -/
theorem rest_cut (a b : List Int) (h : ∀ c ∈ a, 0 ≤ c ∧ c ≤ 255) : restC true es0 (a ++ b) = restC true es0 a ++ restC true es0 b := by
  induction a with
  | nil => rfl
  | cons c r ih =>
    have hc := h c (by simp)
    have e : ∀ d, (oneC true es0 c d).2 = es0 ∧ (oneC true es0 c d).1 = (plainC es0 c).1 := by
      intro d
      unfold oneC
      rw [if_pos rfl]
      refine ⟨?_, rfl⟩
      unfold plainC
      rw [if_neg (by decide)]
      by_cases h2 : passC c = true ∨ (128 ≤ c ∧ c ≤ 255)
      · rw [if_pos h2]
      · rw [if_neg h2]
        have : c < 32 := by
          by_cases h3 : c < 32
          · exact h3
          · exfalso; apply h2
            by_cases h4 : c ≤ 127
            · left; rw [pass_iff]; omega
            · right; omega
        rw [if_pos this]
    simp only [List.cons_append, restC, (e _).1, (e _).2]
    rw [ih (fun x hx => h x (List.mem_cons_of_mem _ hx)), List.append_assoc]
/-- .. and from the first one above FF on: 0F, and its units. -/
theorem rest_from {c : Int} (h : 255 < c) (r : List Int) : ∃ m, restC true es0 (c :: r) = 15 :: m ∧ m.length = 2 * unL (c :: r) + tgL (c :: r) := by
  have e : oneC true es0 c r.head? = (15 :: unitsC c true, ⟨firstL8, used0, true, 0⟩) := by
    unfold oneC plainC
    rw [if_pos rfl, if_neg (by decide)]
    have : ¬ (passC c = true ∨ (128 ≤ c ∧ c ≤ 255)) := by
      rw [pass_iff]; omega
    rw [if_neg this, if_neg (by omega)]
    rfl
  refine ⟨unitsC c true ++ restC true ⟨firstL8, used0, true, 0⟩ r, ?_, ?_⟩
  · simp only [restC, e, List.cons_append]
  · have := rest_uni r ⟨firstL8, used0, true, 0⟩ rfl
    simp only [List.length_append, units_true, unL, tgL]
    omega
end Go.Proofs.YtpglmfhlgaliaaaDoor.Cmp
