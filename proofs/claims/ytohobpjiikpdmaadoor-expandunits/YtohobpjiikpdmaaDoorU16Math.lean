/-
  UTF-16 as plain functions on numbers and lists: a scalar's bytes in either order, which byte may stand behind what has begun, the scalar that bytes make. No Go text is named here; no condition.
-/
import Derived.Test.YtohobpjiikpdmaaDoorScan
import Derived.Test.YtohobpjiikpdmaaDoorScaMath
namespace Go.Proofs.YtohobpjiikpdmaaDoor.U16
open Bas Scn Sca

/-- Big, or little. -/
abbrev Par := Bool
/-- What has begun. -/
abbrev St := List Int
/-- A unit's bytes. -/
def unitB (π : Par) (u : Int) : List Int := if π = true then [u / 256, u % 256] else [u % 256, u / 256]
/-- Two bytes' unit. -/
def unitN (π : Par) (a b : Int) : Int := if π = true then a * 256 + b else b * 256 + a
/-- A scalar's bytes. -/
def oneN (π : Par) (c : Int) : List Int := if c < 65536 then unitB π c else unitB π (55296 + (c - 65536) / 1024) ++ unitB π (56320 + (c - 65536) % 1024)
theorem unitB_length (π : Par) (u : Int) : (unitB π u).length = 2 := by unfold unitB; split <;> rfl
theorem oneN_max (π : Par) (c : Int) : (oneN π c).length ≤ 4 := by
  unfold oneN; split
  · rw [unitB_length]; omega
  · rw [List.length_append, unitB_length, unitB_length]; omega
theorem oneN_pos (π : Par) (c : Int) : 1 ≤ (oneN π c).length := by
  unfold oneN; split
  · rw [unitB_length]; omega
  · rw [List.length_append, unitB_length, unitB_length]; omega
/-- The second unit of two; the first one. -/
def isLo (u : Int) : Bool := decide (56320 ≤ u ∧ u ≤ 57343)
def isUp (u : Int) : Bool := decide (55296 ≤ u ∧ u ≤ 56319)
/-- Is the byte at this place the higher one of its unit? -/
def hiAt (π : Par) (n : Nat) : Bool := decide (n % 2 = 0) == π
/-- May this byte stand behind what has begun? -/
def fitsN (π : Par) (s : List Int) (b : Int) : Bool := !hiAt π s.length || (isLo (b * 256) == decide (2 ≤ s.length))
/-- The scalar that is complete. -/
def wholeN (π : Par) : List Int → Option Int
  | [a, b] => if isUp (unitN π a b) = true then none else some (unitN π a b)
  | [a, b, c, d] => some (65536 + unitN π a b % 1024 * 1024 + unitN π c d % 1024)
  | _ => none
/-- A byte more. -/
def stepU (π : Par) (s : St) (b : Int) : Option (St × List Int) :=
  if fitsN π s b = true then match wholeN π (s ++ [b]) with | some c => some ([], [c]) | none => some (s ++ [b], []) else none
/-- The beginning, and is nothing begun? -/
def st0 (_ : Par) : St := []
def rest (s : St) : Bool := s.isEmpty
/-- A beginning that is no whole. -/
def Good (π : Par) : St → Prop
  | [] => True
  | [a] => π = true → isLo (a * 256) = false
  | [a, b] => isUp (unitN π a b) = true
  | [a, b, c] => isUp (unitN π a b) = true ∧ (π = true → isLo (c * 256) = true)
  | _ => False
theorem good_nil (π : Par) : Good π [] := trivial
theorem Good.len {π : Par} {s : St} (h : Good π s) : s.length ≤ 3 := by
  match s, h with
  | [], _ => simp
  | [a], _ => simp
  | [a, b], _ => simp
  | [a, b, c], _ => simp
theorem step_one (π : Par) (s : St) (b : Int) (x : St × List Int) (h : stepU π s b = some x) : x.2.length ≤ 1 := by
  unfold stepU at h
  split at h
  · split at h
    · simp at h; rw [← h]; simp
    · simp at h; rw [← h]; simp
  · simp at h
theorem isLo_iff {u : Int} : isLo u = true ↔ 56320 ≤ u ∧ u ≤ 57343 := by simp [isLo]
theorem isUp_iff {u : Int} : isUp u = true ↔ 55296 ≤ u ∧ u ≤ 56319 := by simp [isUp]
theorem isLo_no {u : Int} : isLo u = false ↔ ¬ (56320 ≤ u ∧ u ≤ 57343) := by simp only [isLo, decide_eq_false_iff_not]
theorem isUp_no {u : Int} : isUp u = false ↔ ¬ (55296 ≤ u ∧ u ≤ 56319) := by simp only [isUp, decide_eq_false_iff_not]
theorem unit_back {π : Par} {a b : Int} (ha : 0 ≤ a ∧ a < 256) (hb : 0 ≤ b ∧ b < 256) : unitB π (unitN π a b) = [a, b] ∧ 0 ≤ unitN π a b ∧ unitN π a b < 65536 := by
  unfold unitB unitN
  cases π
  · refine ⟨?_, by simp; omega, by simp; omega⟩
    simp only [Bool.false_eq_true, if_false, List.cons.injEq, and_true]
    omega
  · refine ⟨?_, by simp; omega, by simp; omega⟩
    simp only [if_true, List.cons.injEq, and_true]
    omega
theorem fits0 {π : Par} {b : Int} : fitsN π [] b = true ↔ (π = true → isLo (b * 256) = false) := by
  cases π <;> simp [fitsN, hiAt]
theorem fits1 {π : Par} {a b : Int} : fitsN π [a] b = true ↔ (π = false → isLo (b * 256) = false) := by
  cases π <;> simp [fitsN, hiAt]
theorem fits2 {π : Par} {a b c : Int} : fitsN π [a, b] c = true ↔ (π = true → isLo (c * 256) = true) := by
  cases π <;> simp [fitsN, hiAt]
theorem fits3 {π : Par} {a b c d : Int} : fitsN π [a, b, c] d = true ↔ (π = false → isLo (d * 256) = true) := by
  cases π <;> simp [fitsN, hiAt]
/-- A unit's kind hangs on its higher byte alone. -/
theorem lo_hi {π : Par} {a b : Int} (ha : 0 ≤ a ∧ a < 256) (hb : 0 ≤ b ∧ b < 256) : isLo (unitN π a b) = isLo ((if π = true then a else b) * 256) := by
  have h : ∀ x y : Int, 0 ≤ x → x < 256 → 0 ≤ y → y < 256 → isLo (x * 256 + y) = isLo (x * 256) := fun x y h1 h2 h3 h4 => by
    by_cases h : isLo (x * 256) = true
    · rw [h]; rw [isLo_iff] at h ⊢; omega
    · have h' : isLo (x * 256) = false := by simpa using h
      rw [h']; rw [isLo_no] at h' ⊢; omega
  unfold unitN
  cases π
  · simpa using h b a hb.1 hb.2 ha.1 ha.2
  · simpa using h a b ha.1 ha.2 hb.1 hb.2
/-- What a byte more makes. -/
theorem step_cases {π : Par} {s : St} {b : Int} {x : St × List Int} (hg : Good π s) (hs : ∀ y ∈ s, 0 ≤ y ∧ y < 256) (hb : 0 ≤ b ∧ b < 256) (h : stepU π s b = some x) :
    (x = (s ++ [b], []) ∧ Good π (s ++ [b])) ∨ ∃ c, x = ([], [c]) ∧ oneN π c = s ++ [b] ∧ isB c = true ∧ 0 ≤ c := by
  unfold stepU at h
  by_cases hf : fitsN π s b = true
  · rw [if_pos hf] at h
    match s, hg with
    | [], _ =>
      simp [wholeN] at h
      exact .inl ⟨by rw [← h]; rfl, fits0.1 hf⟩
    | [a], hg =>
      have ha := hs a (by simp)
      have hub := unit_back (π := π) ha hb
      have hlo := lo_hi (π := π) ha hb
      have hl : isLo (unitN π a b) = false := by
        rw [hlo]
        cases π
        · simpa using fits1.1 hf rfl
        · simpa using hg rfl
      rw [isLo_no] at hl
      by_cases hu : isUp (unitN π a b) = true
      · simp [wholeN, hu] at h
        exact .inl ⟨by rw [← h]; rfl, hu⟩
      · simp [wholeN, hu] at h
        have hu' : isUp (unitN π a b) = false := by simpa using hu
        rw [isUp_no] at hu'
        refine .inr ⟨unitN π a b, h.symm, ?_, isB_true (by omega), hub.2.1⟩
        unfold oneN
        rw [if_pos hub.2.2, hub.1]; rfl
    | [a, b'], hg =>
      simp [wholeN] at h
      exact .inl ⟨by rw [← h]; rfl, hg, fits2.1 hf⟩
    | [a, b', c], hg =>
      have ha := hs a (by simp); have hb' := hs b' (by simp); have hc := hs c (by simp)
      have h1 := unit_back (π := π) ha hb'
      have h2 := unit_back (π := π) hc hb
      have hlo := lo_hi (π := π) hc hb
      have hl : isLo (unitN π c b) = true := by
        rw [hlo]
        cases π
        · simpa using fits3.1 hf rfl
        · simpa using hg.2 rfl
      rw [isLo_iff] at hl
      have hu := isUp_iff.1 hg.1
      simp [wholeN] at h
      refine .inr ⟨_, h.symm, ?_, isB_true (by omega), by omega⟩
      unfold oneN
      rw [if_neg (by omega)]
      rw [show 55296 + (65536 + unitN π a b' % 1024 * 1024 + unitN π c b % 1024 - 65536) / 1024 = unitN π a b' by omega,
        show 56320 + (65536 + unitN π a b' % 1024 * 1024 + unitN π c b % 1024 - 65536) % 1024 = unitN π c b by omega, h1.1, h2.1]
      rfl
  · rw [if_neg hf] at h; simp at h
theorem unit_there {π : Par} {u : Int} (h0 : 0 ≤ u) (h1 : u < 65536) : ∃ a b, unitB π u = [a, b] ∧ unitN π a b = u ∧ (0 ≤ a ∧ a < 256) ∧ (0 ≤ b ∧ b < 256) := by
  cases π
  · exact ⟨u % 256, u / 256, by simp [unitB], by simp [unitN]; omega, by omega, by omega⟩
  · exact ⟨u / 256, u % 256, by simp [unitB], by simp [unitN]; omega, by omega, by omega⟩
/-- The bytes of a unit that is no second one, behind nothing. -/
theorem scan_unit {π : Par} {a b : Int} (ha : 0 ≤ a ∧ a < 256) (hb : 0 ≤ b ∧ b < 256) (hl : isLo (unitN π a b) = false) (r : List Int) :
    scan (stepU π) [] (a :: b :: r) = if isUp (unitN π a b) = true then (scan (stepU π) [a, b] r).pre [] 2 else (scan (stepU π) [] r).pre [unitN π a b] 2 := by
  have hlo := lo_hi (π := π) ha hb
  rw [hl] at hlo
  have f1 : fitsN π [] a = true := fits0.2 (fun h => by subst h; simpa using hlo.symm)
  have f2 : fitsN π [a] b = true := fits1.2 (fun h => by subst h; simpa using hlo.symm)
  have e1 : stepU π [] a = some ([a], []) := by simp [stepU, f1, wholeN]
  rw [scan_some _ e1]
  by_cases hu : isUp (unitN π a b) = true
  · have e2 : stepU π [a] b = some ([a, b], []) := by simp [stepU, f2, wholeN, hu]
    rw [scan_some _ e2, Res.pre_pre, if_pos hu]; rfl
  · have e2 : stepU π [a] b = some ([], [unitN π a b]) := by simp [stepU, f2, wholeN, hu]
    rw [scan_some _ e2, Res.pre_pre, if_neg hu]; rfl
/-- .. of a second one, behind a first one. -/
theorem scan_pair {π : Par} {a b c d : Int} (hc : 0 ≤ c ∧ c < 256) (hd : 0 ≤ d ∧ d < 256) (hl : isLo (unitN π c d) = true) (r : List Int) :
    scan (stepU π) [a, b] (c :: d :: r) = (scan (stepU π) [] r).pre [65536 + unitN π a b % 1024 * 1024 + unitN π c d % 1024] 2 := by
  have hlo := lo_hi (π := π) hc hd
  rw [hl] at hlo
  have f1 : fitsN π [a, b] c = true := fits2.2 (fun h => by subst h; simpa using hlo.symm)
  have f2 : fitsN π [a, b, c] d = true := fits3.2 (fun h => by subst h; simpa using hlo.symm)
  have e1 : stepU π [a, b] c = some ([a, b, c], []) := by simp [stepU, f1, wholeN]
  have e2 : stepU π [a, b, c] d = some ([], [65536 + unitN π a b % 1024 * 1024 + unitN π c d % 1024]) := by simp [stepU, f2, wholeN]
  rw [scan_some _ e1, scan_some _ e2, Res.pre_pre]; rfl
/-- A scalar's bytes are told as it. -/
theorem scan_one (π : Par) (c : Int) (h0 : 0 ≤ c) (hc : isB c = true) (r : List Int) : scan (stepU π) [] (oneN π c ++ r) = (scan (stepU π) [] r).pre [c] (oneN π c).length := by
  have hc := isB_iff.1 hc
  unfold oneN
  split
  · rename_i h
    obtain ⟨a, b, e1, e2, ha, hb⟩ := unit_there (π := π) h0 h
    rw [e1]
    simp only [List.cons_append, List.nil_append]
    rw [scan_unit ha hb (by rw [e2, isLo_no]; omega), e2, if_neg (by rw [isUp_iff]; omega)]
    rfl
  · rename_i h
    obtain ⟨a, b, e1, e2, ha, hb⟩ := unit_there (π := π) (u := 55296 + (c - 65536) / 1024) (by omega) (by omega)
    obtain ⟨a', b', e1', e2', ha', hb'⟩ := unit_there (π := π) (u := 56320 + (c - 65536) % 1024) (by omega) (by omega)
    rw [e1, e1']
    simp only [List.cons_append, List.nil_append]
    rw [scan_unit ha hb (by rw [e2, isLo_no]; omega), if_pos (by rw [e2, isUp_iff]; omega), scan_pair ha' hb' (by rw [e2', isLo_iff]; omega), Res.pre_pre, e2, e2']
    rw [show 65536 + (55296 + (c - 65536) / 1024) % 1024 * 1024 + (56320 + (c - 65536) % 1024) % 1024 = c by omega]
    rfl
theorem unitB_byte {π : Par} {u : Int} (h0 : 0 ≤ u) (h1 : u < 65536) : ∀ x ∈ unitB π u, 0 ≤ x ∧ x < 256 := by
  intro x hx
  unfold unitB at hx
  split at hx
  · simp at hx; omega
  · simp at hx; omega
theorem oneN_byte (π : Par) (c : Int) (h : isB c = true) (h0 : 0 ≤ c) : ∀ x ∈ oneN π c, 0 ≤ x ∧ x < 256 := by
  have hi := isB_iff.1 h
  intro x hx
  unfold oneN at hx
  split at hx
  · exact unitB_byte h0 (by omega) x hx
  · rw [List.mem_append] at hx
    rcases hx with hx | hx
    · exact unitB_byte (by omega) (by omega) x hx
    · exact unitB_byte (by omega) (by omega) x hx
end Go.Proofs.YtohobpjiikpdmaaDoor.U16
