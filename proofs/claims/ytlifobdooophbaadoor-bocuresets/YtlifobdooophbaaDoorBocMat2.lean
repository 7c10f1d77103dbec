/-
  Plain facts on layer 12: the machine that reads, byte by byte, and the bytes that are written; there and back, either way; their order; the bytes that are kept. No Go text is named here; no condition.
-/
import Derived.Test.YtlifobdooophbaaDoorBocMath
namespace Go.Proofs.YtlifobdooophbaaDoor.Boc
open Bas Sca Scn Dif
set_option linter.unusedVariables false
set_option linter.unusedSimpArgs false

/-- The least scalar above 32 of a span; -1: there is none. -/
def leastS (lo hi : Int) : Int :=
  if lo < 33 then (if 33 ≤ hi then 33 else -1)
  else if 55296 ≤ lo ∧ lo ≤ 57343 then (if 57344 ≤ hi then 57344 else -1)
  else if lo ≤ hi ∧ lo ≤ 1114111 then lo else -1
theorem least_is {lo hi : Int} (h : 0 ≤ leastS lo hi) : lo ≤ leastS lo hi ∧ leastS lo hi ≤ hi ∧ 33 ≤ leastS lo hi ∧ isB (leastS lo hi) = true := by
  rw [isB_iff]
  unfold leastS at h ⊢; repeat' split at h
  all_goals simp (disch := omega) only [if_pos, if_neg]
  all_goals omega
theorem least_some {lo hi c : Int} (h1 : lo ≤ c) (h2 : c ≤ hi) (h3 : 33 ≤ c) (hc : isB c = true) : 0 ≤ leastS lo hi := by
  have hi' := isB_iff.1 hc
  unfold leastS; repeat' split
  all_goals omega
theorem least_one {c : Int} (h3 : 33 ≤ c) (hc : isB c = true) : leastS c c = c := by
  have hi' := isB_iff.1 hc
  unfold leastS; repeat' split
  all_goals omega
/-- What the next scalar is held against, and what has begun. -/
structure St where
  ag : Int
  beg : List Int
def nxtB (ag c : Int) : Int := if c ≤ 32 then (if c = 32 then ag else 64) else prevI c
def oneB (ag c : Int) : List Int := if c ≤ 32 then [c] else packL (c - ag)
/-- A byte more. -/
def stepB (s : St) (b : Int) : Option (St × List Int) :=
  if s.beg = [] ∧ b = 255 then some (⟨64, []⟩, [])
  else if s.beg = [] ∧ b ≤ 32 then some (⟨nxtB s.ag b, []⟩, [b])
  else match rngL (s.beg ++ [b]) with
    | none => none
    | some (lo, hi, n) => if leastS (s.ag + lo) (s.ag + hi) < 0 then none
      else if s.beg.length + 1 = n then some (⟨prevI (leastS (s.ag + lo) (s.ag + hi)), []⟩, [leastS (s.ag + lo) (s.ag + hi)])
      else some (⟨s.ag, s.beg ++ [b]⟩, [])
def st0 : St := ⟨64, []⟩
/-- What a scalar may be held against. -/
def GA (ag : Int) : Prop := 64 ≤ ag ∧ ag ≤ 1114048
theorem ga_64 : GA 64 := ⟨by omega, by omega⟩
theorem ga_prev {c : Int} (h : 33 ≤ c) (hc : isB c = true) : GA (prevI c) := by
  have hi := isB_iff.1 hc
  unfold GA prevI; repeat' split
  all_goals omega
theorem ga_nxt {ag c : Int} (h : GA ag) (h0 : 0 ≤ c) (hc : isB c = true) : GA (nxtB ag c) := by
  unfold nxtB; repeat' split
  · exact h
  · exact ga_64
  · exact ga_prev (by omega) hc
theorem ga_inR {ag c : Int} (h : GA ag) (h1 : 33 ≤ c) (h2 : c ≤ 1114111) : inR (c - ag) := by
  unfold GA at h; unfold inR; omega
/-- A beginning that is no whole. -/
def Good (s : St) : Prop := GA s.ag ∧ (s.beg ≠ [] → ∃ lo hi n, rngL s.beg = some (lo, hi, n) ∧ s.beg.length < n ∧ 0 ≤ leastS (s.ag + lo) (s.ag + hi))
theorem good_nil {ag : Int} (h : GA ag) : Good ⟨ag, []⟩ := ⟨h, fun e => absurd rfl e⟩
theorem good_0 : Good st0 := good_nil ga_64
theorem Good.len {s : St} (h : Good s) : s.beg.length ≤ 3 := by
  by_cases e : s.beg = []
  · rw [e]; decide
  · obtain ⟨lo, hi, n, h1, h2, -⟩ := h.2 e
    have := rng_le h1
    omega
theorem step_ff {s : St} (h : s.beg = []) : stepB s 255 = some (⟨64, []⟩, []) := by unfold stepB; rw [if_pos ⟨h, rfl⟩]
theorem step_small {s : St} {b : Int} (h : s.beg = []) (hb : b ≤ 32) : stepB s b = some (⟨nxtB s.ag b, []⟩, [b]) := by
  unfold stepB; rw [if_neg (by intro e; omega), if_pos ⟨h, hb⟩]
/-- Neither a reset nor a small one. -/
def plain (s : St) (b : Int) : Prop := s.beg ≠ [] ∨ (b ≠ 255 ∧ 32 < b)
theorem plain_no {s : St} {b : Int} (h : plain s b) : ¬ (s.beg = [] ∧ b = 255) ∧ ¬ (s.beg = [] ∧ b ≤ 32) := by
  rcases h with h | h
  · exact ⟨fun e => h e.1, fun e => h e.1⟩
  · exact ⟨fun e => h.1 e.2, fun e => by omega⟩
theorem step_none {s : St} {b : Int} (h : plain s b) (hr : rngL (s.beg ++ [b]) = none) : stepB s b = none := by
  unfold stepB; rw [if_neg (plain_no h).1, if_neg (plain_no h).2, hr]
theorem step_far {s : St} {b lo hi : Int} {n : Nat} (h : plain s b) (hr : rngL (s.beg ++ [b]) = some (lo, hi, n)) (hl : leastS (s.ag + lo) (s.ag + hi) < 0) : stepB s b = none := by
  unfold stepB; rw [if_neg (plain_no h).1, if_neg (plain_no h).2, hr]; simp only []; rw [if_pos hl]
theorem step_whole {s : St} {b lo hi : Int} {n : Nat} (h : plain s b) (hr : rngL (s.beg ++ [b]) = some (lo, hi, n)) (hl : ¬ leastS (s.ag + lo) (s.ag + hi) < 0) (hn : s.beg.length + 1 = n) :
    stepB s b = some (⟨prevI (leastS (s.ag + lo) (s.ag + hi)), []⟩, [leastS (s.ag + lo) (s.ag + hi)]) := by
  unfold stepB; rw [if_neg (plain_no h).1, if_neg (plain_no h).2, hr]; simp only []; rw [if_neg hl, if_pos hn]
theorem step_more {s : St} {b lo hi : Int} {n : Nat} (h : plain s b) (hr : rngL (s.beg ++ [b]) = some (lo, hi, n)) (hl : ¬ leastS (s.ag + lo) (s.ag + hi) < 0) (hn : s.beg.length + 1 ≠ n) :
    stepB s b = some (⟨s.ag, s.beg ++ [b]⟩, []) := by
  unfold stepB; rw [if_neg (plain_no h).1, if_neg (plain_no h).2, hr]; simp only []; rw [if_neg hl, if_neg hn]
theorem step_one (s : St) (b : Int) (x : St × List Int) (h : stepB s b = some x) : x.2.length ≤ 1 := by
  unfold stepB at h
  repeat' split at h
  all_goals first | (simp only [Option.some.injEq] at h; subst h; simp) | (simp at h)
/-- What a byte more makes. -/
theorem step_cases {s : St} {b : Int} {x : St × List Int} (hg : Good s) (h0 : 0 ≤ b) (h : stepB s b = some x) :
    (s.beg = [] ∧ b = 255 ∧ x = (⟨64, []⟩, [])) ∨ (s.beg = [] ∧ b ≤ 32 ∧ x = (⟨nxtB s.ag b, []⟩, [b])) ∨
    (plain s b ∧ x = (⟨s.ag, s.beg ++ [b]⟩, []) ∧ Good ⟨s.ag, s.beg ++ [b]⟩) ∨
    (plain s b ∧ ∃ c, x = (⟨prevI c, []⟩, [c]) ∧ packL (c - s.ag) = s.beg ++ [b] ∧ isB c = true ∧ 33 ≤ c) := by
  by_cases h1 : s.beg = [] ∧ b = 255
  · rw [h1.2, step_ff h1.1] at h
    exact .inl ⟨h1.1, h1.2, (Option.some.inj h).symm⟩
  · by_cases h2 : s.beg = [] ∧ b ≤ 32
    · rw [step_small h2.1 h2.2] at h
      exact .inr (.inl ⟨h2.1, h2.2, (Option.some.inj h).symm⟩)
    · have hp : plain s b := by
        by_cases e : s.beg = []
        · exact .inr ⟨fun e2 => h1 ⟨e, e2⟩, by have : ¬ b ≤ 32 := fun e2 => h2 ⟨e, e2⟩; omega⟩
        · exact .inl e
      cases hr : rngL (s.beg ++ [b]) with
      | none => rw [step_none hp hr] at h; cases h
      | some z =>
        obtain ⟨lo, hi, n⟩ := z
        by_cases hl : leastS (s.ag + lo) (s.ag + hi) < 0
        · rw [step_far hp hr hl] at h; cases h
        · have hle := rng_le hr
          by_cases hn : s.beg.length + 1 = n
          · rw [step_whole hp hr hl hn] at h
            have hc := least_is (lo := s.ag + lo) (hi := s.ag + hi) (by omega)
            have heq := rng_one hr (by simp; omega)
            have hci := isB_iff.1 hc.2.2.2
            have hin := ga_inR hg.1 hc.2.2.1 hci.1
            have ht := rng_take hr (d := leastS (s.ag + lo) (s.ag + hi) - s.ag) (by omega) (by omega) hin
            refine .inr (.inr (.inr ⟨hp, _, (Option.some.inj h).symm, ?_, hc.2.2.2, hc.2.2.1⟩))
            rw [← ht.1, List.take_of_length_le]
            rw [ht.2.1]; simp; omega
          · rw [step_more hp hr hl hn] at h
            refine .inr (.inr (.inl ⟨hp, (Option.some.inj h).symm, hg.1, fun _ => ⟨lo, hi, n, hr, ?_, Int.not_lt.1 hl⟩⟩))
            have := hle.2.2.2.2.1
            simp at this ⊢; omega
theorem step_good {s : St} {b : Int} {x : St × List Int} (hg : Good s) (h0 : 0 ≤ b) (h : stepB s b = some x) : Good x.1 := by
  rcases step_cases hg h0 h with ⟨_, _, rfl⟩ | ⟨_, h2, rfl⟩ | ⟨_, rfl, h3⟩ | ⟨_, c, rfl, _, hc, h33⟩
  · exact good_0
  · exact good_nil (ga_nxt hg.1 h0 (isB_iff.2 (by omega)))
  · exact h3
  · exact good_nil (ga_prev h33 hc)
/-- The bytes of a difference, one by one. -/
theorem scan_pack {ag c : Int} (hg : GA ag) (h33 : 33 ≤ c) (hc : isB c = true) (r : List Int) (k : Nat) (hk : k < (packL (c - ag)).length) :
    scan stepB ⟨ag, (packL (c - ag)).take k⟩ ((packL (c - ag)).drop k ++ r) = (scan stepB ⟨prevI c, []⟩ r).pre [c] ((packL (c - ag)).length - k) := by
  have hci := isB_iff.1 hc
  have hin := ga_inR hg h33 hci.1
  obtain ⟨m, hm⟩ : ∃ m, (packL (c - ag)).length - k = m + 1 := ⟨(packL (c - ag)).length - k - 1, by omega⟩
  induction m generalizing k with
  | zero =>
    have hkl : k + 1 = (packL (c - ag)).length := by omega
    obtain ⟨lo, hi, hr, h1, h2, h3⟩ := rng_pack hin (k + 1) (by omega) (by omega)
    obtain ⟨rfl, rfl⟩ := h3 hkl
    rw [drop_at _ _ hk, List.drop_of_length_le (by omega)]
    have hls : leastS (ag + (c - ag)) (ag + (c - ag)) = c := by rw [show ag + (c - ag) = c by omega]; exact least_one h33 hc
    rw [take_snoc _ _ hk] at hr
    have hp : plain ⟨ag, (packL (c - ag)).take k⟩ (nth (packL (c - ag)) k) := by
      by_cases e : k = 0
      · subst e
        have := first_rng hin
        right
        have e2 : nth (packL (c - ag)) 0 = firstB (c - ag) := rfl
        rw [e2]; omega
      · left
        intro e2
        have := congrArg List.length e2
        simp only [List.length_take, List.length_nil] at this
        omega
    have hst := step_whole (s := ⟨ag, (packL (c - ag)).take k⟩) hp hr (by simp only []; rw [hls]; omega) (by simp only [List.length_take]; omega)
    simp only [] at hst
    rw [hls] at hst
    rw [List.cons_append, List.nil_append, scan_some _ hst, hm]
  | succ m ih =>
    obtain ⟨lo, hi, hr, h1, h2, -⟩ := rng_pack hin (k + 1) (by omega) (by omega)
    rw [drop_at _ _ hk]
    rw [take_snoc _ _ hk] at hr
    have hls : 0 ≤ leastS (ag + lo) (ag + hi) := least_some (c := c) (by omega) (by omega) h33 hc
    have hp : plain ⟨ag, (packL (c - ag)).take k⟩ (nth (packL (c - ag)) k) := by
      by_cases e : k = 0
      · subst e
        have := first_rng hin
        right
        have e2 : nth (packL (c - ag)) 0 = firstB (c - ag) := rfl
        rw [e2]; omega
      · left
        intro e2
        have := congrArg List.length e2
        simp only [List.length_take, List.length_nil] at this
        omega
    have hst := step_more (s := ⟨ag, (packL (c - ag)).take k⟩) hp hr (by simp only []; omega) (by simp only [List.length_take]; omega)
    simp only [] at hst
    rw [← take_snoc _ _ hk] at hst
    rw [List.cons_append, scan_some _ hst, ih (k + 1) (by omega) (by omega), Res.pre_pre]
    rw [List.nil_append, show 1 + ((packL (c - ag)).length - (k + 1)) = (packL (c - ag)).length - k by omega]
/-- A scalar's bytes are told as it. -/
theorem scan_one {ag c : Int} (hg : GA ag) (h0 : 0 ≤ c) (hc : isB c = true) (r : List Int) : scan stepB ⟨ag, []⟩ (oneB ag c ++ r) = (scan stepB ⟨nxtB ag c, []⟩ r).pre [c] (oneB ag c).length := by
  unfold oneB
  by_cases h : c ≤ 32
  · rw [if_pos h, List.cons_append, List.nil_append, scan_some _ (step_small (s := ⟨ag, []⟩) rfl h)]
    rfl
  · rw [if_neg h]
    have := scan_pack hg (by omega) hc r 0 (by rw [pack_len]; omega)
    rw [List.take_zero, List.drop_zero, Nat.sub_zero] at this
    rw [this]
    unfold nxtB
    rw [if_neg h]
theorem allS_cons {ag c : Int} {r : List Int} (hc : isB c = true) : allS oneB nxtB ag (c :: r) = oneB ag c ++ allS oneB nxtB (nxtB ag c) r := by
  simp only [allS]; rw [if_pos hc]
theorem scan_back {ag : Int} (hg : GA ag) (l : List Int) (h : ∀ c ∈ l, isB c = true ∧ 0 ≤ c) : scan stepB ⟨ag, []⟩ (allS oneB nxtB ag l) = ⟨l, (allS oneB nxtB ag l).length, ⟨stS nxtB ag l, []⟩, false⟩ := by
  induction l generalizing ag with
  | nil => rfl
  | cons c r ih =>
    have hc := h c (by simp)
    rw [allS_cons hc.1, scan_one hg hc.2 hc.1, ih (ga_nxt hg hc.2 hc.1) (fun x hx => h x (by simp [hx]))]
    simp [Res.pre, stS, hc.1]
/-- What was told and what has begun are what was eaten, if no byte is FF; all that is told are scalars. -/
theorem scan_facts (l : List Int) : ∀ (s : St), Good s → (∀ x ∈ l, 0 ≤ x ∧ x < 255) →
    allS oneB nxtB s.ag (scan stepB s l).told ++ (scan stepB s l).st.beg = s.beg ++ l.take (scan stepB s l).eaten ∧ (∀ c ∈ (scan stepB s l).told, isB c = true ∧ 0 ≤ c) := by
  induction l with
  | nil => intro s hg hl; simp [scan, allS]
  | cons b r ih =>
    intro s hg hl
    have hb := hl b (by simp)
    have hr : ∀ x ∈ r, 0 ≤ x ∧ x < 255 := fun x hx => hl x (by simp [hx])
    cases h : stepB s b with
    | none => rw [scan_none _ h]; simp [allS]
    | some x =>
      rw [scan_some _ h]
      simp only [Res.pre]
      rw [show 1 + (scan stepB x.1 r).eaten = (scan stepB x.1 r).eaten + 1 by omega, List.take_succ_cons]
      rcases step_cases hg hb.1 h with ⟨_, h255, _⟩ | ⟨he, h32, rfl⟩ | ⟨_, rfl, h3⟩ | ⟨_, c, rfl, hpk, hc, h33⟩
      · omega
      · have hbB : isB b = true := isB_iff.2 (by omega)
        obtain ⟨i1, i2⟩ := ih ⟨nxtB s.ag b, []⟩ (good_nil (ga_nxt hg.1 hb.1 hbB)) hr
        simp only [] at i1 i2 ⊢
        refine ⟨?_, fun d hd => ?_⟩
        · rw [List.cons_append, List.nil_append, allS_cons hbB, List.append_assoc, i1, he]
          unfold oneB; rw [if_pos h32]; rfl
        · rcases List.mem_cons.1 hd with rfl | hd
          · exact ⟨hbB, hb.1⟩
          · exact i2 d hd
      · obtain ⟨i1, i2⟩ := ih ⟨s.ag, s.beg ++ [b]⟩ h3 hr
        simp only [] at i1 i2 ⊢
        refine ⟨?_, fun d hd => i2 d (by simpa using hd)⟩
        rw [List.nil_append, i1, List.append_assoc]; rfl
      · obtain ⟨i1, i2⟩ := ih ⟨prevI c, []⟩ (good_nil (ga_prev h33 hc)) hr
        simp only [] at i1 i2 ⊢
        refine ⟨?_, fun d hd => ?_⟩
        · rw [List.cons_append, List.nil_append, allS_cons hc, List.append_assoc]
          have e1 : nxtB s.ag c = prevI c := by unfold nxtB; rw [if_neg (by omega)]
          have e2 : oneB s.ag c = s.beg ++ [b] := by unfold oneB; rw [if_neg (by omega)]; exact hpk
          rw [e1, e2, i1, List.append_assoc]; rfl
        · rcases List.mem_cons.1 hd with rfl | hd
          · exact ⟨hc, by omega⟩
          · exact i2 d hd
/-- All that is told are scalars, whatever the bytes. -/
theorem scan_scalars (l : List Int) : ∀ (s : St), Good s → (∀ x ∈ l, 0 ≤ x ∧ x < 256) → (∀ c ∈ (scan stepB s l).told, isB c = true ∧ 0 ≤ c) ∧ Good (scan stepB s l).st := by
  induction l with
  | nil => intro s hg hl; exact ⟨by simp [scan], hg⟩
  | cons b r ih =>
    intro s hg hl
    have hb := hl b (by simp)
    cases h : stepB s b with
    | none => rw [scan_none _ h]; exact ⟨by simp, hg⟩
    | some x =>
      rw [scan_some _ h]
      simp only [Res.pre]
      obtain ⟨i2, i3⟩ := ih x.1 (step_good hg hb.1 h) (fun y hy => hl y (by simp [hy]))
      refine ⟨fun d hd => ?_, i3⟩
      rcases List.mem_append.1 hd with hd | hd
      · rcases step_cases hg hb.1 h with ⟨_, _, rfl⟩ | ⟨_, h32, rfl⟩ | ⟨_, rfl, _⟩ | ⟨_, c, rfl, _, hc, h33⟩
        · simp at hd
        · simp at hd; subst hd; exact ⟨isB_iff.2 (by omega), hb.1⟩
        · simp at hd
        · simp at hd; subst hd; exact ⟨hc, by omega⟩
      · exact i2 d hd
/-! ### The order of texts, the bytes that are kept -/
theorem cmp_parts {l m : List Int} (h : Parts l m) (x y : List Int) : cmpL (l ++ x) (m ++ y) = -1 := by
  obtain ⟨p, a, b, r, s, rfl, rfl, hab⟩ := h
  rw [List.append_assoc, List.append_assoc, cmpL_front]
  simp [cmpL, hab]
theorem one_parts {ag c d : Int} (hg : GA ag) (h0 : 0 ≤ c) (h : c < d) (hd : isB d = true) : Parts (oneB ag c) (oneB ag d) := by
  have hdi := isB_iff.1 hd
  unfold oneB
  by_cases h1 : c ≤ 32
  · rw [if_pos h1]
    by_cases h2 : d ≤ 32
    · rw [if_pos h2]; exact ⟨[], c, d, [], [], rfl, rfl, h⟩
    · rw [if_neg h2]
      have := first_rng (ga_inR hg (by omega) hdi.1)
      exact ⟨[], c, firstB (d - ag), [], _, rfl, rfl, by omega⟩
  · rw [if_neg h1, if_neg (by omega)]
    exact pack_parts (ga_inR hg (by omega) (by omega)) (ga_inR hg (by omega) hdi.1) (by omega)
theorem one_ne (ag c : Int) : 1 ≤ (oneB ag c).length ∧ (oneB ag c).length ≤ 4 := by
  unfold oneB; split
  · simp
  · rw [pack_len]; have := trN_le (rowD (c - ag)); omega
/-- Texts compare as their lists do. -/
theorem cmp_texts (l : List Int) : ∀ (m : List Int) (ag : Int), GA ag → (∀ c ∈ l, isB c = true ∧ 0 ≤ c) → (∀ c ∈ m, isB c = true ∧ 0 ≤ c) → cmpL (allS oneB nxtB ag l) (allS oneB nxtB ag m) = cmpL l m := by
  induction l with
  | nil =>
    intro m ag hg hl hm
    cases m with
    | nil => rfl
    | cons d s =>
      rw [allS_cons (hm d (by simp)).1]
      have h1 := one_ne ag d
      cases ho : oneB ag d with
      | nil => rw [ho] at h1; simp at h1
      | cons a r => simp [allS, cmpL]
  | cons c r ih =>
    intro m ag hg hl hm
    cases m with
    | nil =>
      rw [allS_cons (hl c (by simp)).1]
      have h1 := one_ne ag c
      cases ho : oneB ag c with
      | nil => rw [ho] at h1; simp at h1
      | cons a r => simp [allS, cmpL]
    | cons d s =>
      have hc := hl c (by simp); have hd := hm d (by simp)
      rw [allS_cons hc.1, allS_cons hd.1]
      rcases Int.lt_trichotomy c d with h | rfl | h
      · rw [cmp_parts (one_parts hg hc.2 h hd.1)]; simp [cmpL, h]
      · rw [cmpL_front, ih s _ (ga_nxt hg hc.2 hc.1) (fun x hx => hl x (by simp [hx])) (fun x hx => hm x (by simp [hx]))]
        simp [cmpL]
      · rw [cmpL_turn, cmp_parts (one_parts hg hd.2 h hc.1)]
        have : ¬ c < d := by omega
        simp [cmpL, this, h]
/-- How often a number is in a list. -/
def cntL (l : List Int) (b : Int) : Nat := (l.filter fun x => decide (x = b)).length
theorem cntL_append (l m : List Int) (b : Int) : cntL (l ++ m) b = cntL l b + cntL m b := by unfold cntL; rw [List.filter_append, List.length_append]
/-- A byte that is kept stands just where its scalar does. -/
theorem cnt_one {ag c b : Int} (hg : GA ag) (h0 : 0 ≤ c) (hc : isB c = true) (hb : b ≤ 32) (hw : wor b < 0) : cntL (oneB ag c) b = cntL [c] b := by
  have hci := isB_iff.1 hc
  unfold oneB
  by_cases h : c ≤ 32
  · rw [if_pos h]
  · rw [if_neg h]
    have h1 : cntL (packL (c - ag)) b = 0 := by
      unfold cntL
      rw [List.length_eq_zero_iff, List.filter_eq_nil_iff]
      intro x hx
      have := pack_byte (ga_inR hg (by omega) hci.1) x hx
      simp only [decide_eq_true_eq]
      intro e; subst e; omega
    have h2 : cntL [c] b = 0 := by
      unfold cntL
      have : ¬ c = b := by omega
      simp [this]
    rw [h1, h2]
theorem cnt_all {b : Int} (hb : b ≤ 32) (hw : wor b < 0) (l : List Int) : ∀ ag, GA ag → (∀ c ∈ l, isB c = true ∧ 0 ≤ c) → cntL (allS oneB nxtB ag l) b = cntL l b := by
  induction l with
  | nil => intro ag _ _; rfl
  | cons c r ih =>
    intro ag hg hl
    have hc := hl c (by simp)
    rw [allS_cons hc.1, cntL_append, cnt_one hg hc.2 hc.1 hb hw, ih _ (ga_nxt hg hc.2 hc.1) (fun x hx => hl x (by simp [hx]))]
    rw [← cntL_append]; rfl
theorem all_len (l : List Int) : ∀ ag, (∀ c ∈ l, isB c = true) → l.length ≤ (allS oneB nxtB ag l).length ∧ (allS oneB nxtB ag l).length ≤ 4 * l.length := by
  induction l with
  | nil => intro ag _; simp [allS]
  | cons c r ih =>
    intro ag hl
    rw [allS_cons (hl c (by simp)), List.length_append, List.length_cons]
    have := one_ne ag c
    have := ih (nxtB ag c) (fun x hx => hl x (by simp [hx]))
    omega
/-! ### What goes on, and what begins anew -/
/-- Bytes with which a beginning goes on to a text that denotes something. -/
def restB (s : St) : List Int := if s.beg = [] then [] else match rngL s.beg with
  | none => []
  | some (lo, hi, n) => (packL (leastS (s.ag + lo) (s.ag + hi) - s.ag)).drop s.beg.length
/-- .. and so it is read. -/
theorem rest_goes {s : St} (hg : Good s) : (s.beg = [] ∧ restB s = []) ∨ (s.beg ≠ [] ∧ ∃ c, isB c = true ∧ 33 ≤ c ∧ scan stepB s (restB s) = ⟨[c], (restB s).length, ⟨prevI c, []⟩, false⟩) := by
  by_cases e : s.beg = []
  · left; exact ⟨e, by unfold restB; rw [if_pos e]⟩
  · right
    obtain ⟨lo, hi, n, h1, h2, h3⟩ := hg.2 e
    have hc := least_is h3
    have hci := isB_iff.1 hc.2.2.2
    obtain ⟨c, hce⟩ : ∃ c, leastS (s.ag + lo) (s.ag + hi) = c := ⟨_, rfl⟩
    rw [hce] at hc hci
    have hin := ga_inR hg.1 hc.2.2.1 hci.1
    have ht := rng_take h1 (d := c - s.ag) (by omega) (by omega) hin
    have er : restB s = (packL (c - s.ag)).drop s.beg.length := by
      unfold restB; rw [if_neg e, h1]; simp only []; rw [hce]
    refine ⟨e, c, hc.2.2.2, hc.2.2.1, ?_⟩
    have hp := scan_pack hg.1 hc.2.2.1 hc.2.2.2 [] s.beg.length (by rw [ht.2.1]; exact h2)
    rw [ht.1, List.append_nil] at hp
    rw [er]
    have es : (⟨s.ag, s.beg⟩ : St) = s := rfl
    rw [es] at hp
    rw [hp, List.length_drop]
    simp [scan, Res.pre]
/-- The last scalar told below 32, and nothing begun: the state is the first one. -/
theorem last_ctl (l : List Int) : ∀ (s : St), Good s → (∀ x ∈ l, 0 ≤ x ∧ x < 256) → (∀ c, (scan stepB s l).told.getLast? = some c → c < 32 → (scan stepB s l).st.beg = [] → (scan stepB s l).st.ag = 64) := by
  induction l with
  | nil => intro s hg hl c h; simp [scan] at h
  | cons b r ih =>
    intro s hg hl c hlast hc hbeg
    have hb := hl b (by simp)
    have hr : ∀ x ∈ r, 0 ≤ x ∧ x < 256 := fun y hy => hl y (by simp [hy])
    cases h : stepB s b with
    | none => rw [scan_none _ h] at hlast; simp at hlast
    | some x =>
      rw [scan_some _ h] at hlast hbeg ⊢
      simp only [Res.pre] at hlast hbeg ⊢
      have hgx := step_good hg hb.1 h
      cases hT : (scan stepB x.1 r).told with
      | cons y ys =>
        refine ih x.1 hgx hr c ?_ hc hbeg
        rw [hT] at hlast ⊢
        rw [← hlast]
        rw [List.getLast?_append]
        simp [List.getLast?_cons]
      | nil =>
        rw [hT, List.append_nil] at hlast
        have hkeep : ∀ (l : List Int) (s : St), Good s → (∀ x ∈ l, 0 ≤ x ∧ x < 256) → (scan stepB s l).told = [] → (scan stepB s l).st.beg = [] → s.ag = 64 → (scan stepB s l).st.ag = 64 := by
          intro l
          induction l with
          | nil => intro s _ _ _ _ h; exact h
          | cons b r ih =>
            intro s hg hl ht hbg h64
            have hb := hl b (by simp)
            cases h : stepB s b with
            | none => rw [scan_none _ h]; exact h64
            | some x =>
              rw [scan_some _ h] at ht hbg ⊢
              simp only [Res.pre] at ht hbg ⊢
              have hx := List.append_eq_nil_iff.1 ht
              refine ih x.1 (step_good hg hb.1 h) (fun y hy => hl y (by simp [hy])) hx.2 hbg ?_
              rcases step_cases hg hb.1 h with ⟨_, _, rfl⟩ | ⟨_, _, rfl⟩ | ⟨_, rfl, _⟩ | ⟨_, c, rfl, _, _, _⟩
              · rfl
              · simp at hx
              · exact h64
              · simp at hx
        refine hkeep r x.1 hgx hr hT hbeg ?_
        rcases step_cases hg hb.1 h with ⟨_, _, rfl⟩ | ⟨_, _, rfl⟩ | ⟨_, rfl, _⟩ | ⟨_, d, rfl, _, _, h33⟩
        · simp at hlast
        · simp at hlast
          subst hlast
          simp only [nxtB]
          rw [if_pos (by omega), if_neg (by omega)]
        · simp at hlast
        · simp at hlast; omega
end Go.Proofs.YtlifobdooophbaaDoor.Boc
