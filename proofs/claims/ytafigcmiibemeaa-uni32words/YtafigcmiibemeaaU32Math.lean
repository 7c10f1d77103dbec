/-
  UTF-32 as plain functions on numbers and lists: a scalar's bytes in either order, the number that bytes make, which byte may stand behind what has begun. No Go text is named here; no condition.
-/
import Derived.Test.YtafigcmiibemeaaScan
import Derived.Test.YtafigcmiibemeaaScaMath
namespace Go.Proofs.Ytafigcmiibemeaa.U32
open Bas Scn Sca

/-- Big, or little. -/
abbrev Par := Bool
/-- What has begun. -/
abbrev St := List Int
/-- What the byte at a place counts. -/
def wt (π : Par) (i : Nat) : Int :=
  if π = true then (if i = 0 then 16777216 else if i = 1 then 65536 else if i = 2 then 256 else 1)
  else (if i = 0 then 1 else if i = 1 then 256 else if i = 2 then 65536 else 16777216)
/-- The number of bytes; those that lack count nothing. -/
def numA (π : Par) : Nat → List Int → Int
  | _, [] => 0
  | i, x :: r => x * wt π i + numA π (i + 1) r
def numN (π : Par) (s : List Int) : Int := numA π 0 s
theorem numA_snoc (π : Par) (s : List Int) (x : Int) (i : Nat) : numA π i (s ++ [x]) = numA π i s + x * wt π (i + s.length) := by
  induction s generalizing i with
  | nil => simp [numA]
  | cons y r ih => rw [List.cons_append, numA, numA, ih, List.length_cons, show i + 1 + r.length = i + (r.length + 1) by omega]; omega
theorem numN_snoc (π : Par) (s : List Int) (x : Int) : numN π (s ++ [x]) = numN π s + x * wt π s.length := by
  unfold numN; rw [numA_snoc, Nat.zero_add]
/-- A scalar's bytes. -/
def oneN (π : Par) (c : Int) : List Int := if π = true then [c / 16777216, c / 65536 % 256, c / 256 % 256, c % 256] else [c % 256, c / 256 % 256, c / 65536 % 256, c / 16777216]
theorem oneN_length (π : Par) (c : Int) : (oneN π c).length = 4 := by unfold oneN; split <;> rfl
theorem oneN_max (π : Par) (c : Int) : (oneN π c).length ≤ 4 := by rw [oneN_length]; omega
theorem oneN_pos (π : Par) (c : Int) : 1 ≤ (oneN π c).length := by rw [oneN_length]; omega
/-- Is the byte that tells the plane among so many? -/
def hasP (π : Par) (n : Nat) : Bool := if π = true then decide (2 ≤ n) else decide (3 ≤ n)
/-- Do these bytes begin a scalar's? -/
def begN (π : Par) (s : List Int) : Bool := isB (numN π s + if hasP π s.length = true then 0 else 65536)
/-- May this byte stand behind what has begun? -/
def fitsN (π : Par) (s : List Int) (b : Int) : Bool := begN π (s ++ [b])
/-- A byte more. -/
def stepU (π : Par) (s : St) (b : Int) : Option (St × List Int) :=
  if fitsN π s b = true then (if s.length = 3 then some ([], [numN π (s ++ [b])]) else some (s ++ [b], [])) else none
/-- The beginning, and is nothing begun? -/
def st0 (_ : Par) : St := []
def rest (s : St) : Bool := s.isEmpty
/-- A beginning that is no whole. -/
def Good (π : Par) (s : St) : Prop := s.length ≤ 3 ∧ (s ≠ [] → begN π s = true)
theorem good_nil (π : Par) : Good π [] := ⟨by simp, fun h => absurd rfl h⟩
theorem Good.len {π : Par} {s : St} (h : Good π s) : s.length ≤ 3 := h.1
theorem step_one (π : Par) (s : St) (b : Int) (x : St × List Int) (h : stepU π s b = some x) : x.2.length ≤ 1 := by
  unfold stepU at h
  split at h
  · split at h
    · simp at h; rw [← h]; simp
    · simp at h; rw [← h]; simp
  · simp at h
theorem num1 (π : Par) (a : Int) : numN π [a] = if π = true then a * 16777216 else a := by cases π <;> simp [numN, numA, wt]
theorem num2 (π : Par) (a b : Int) : numN π [a, b] = if π = true then a * 16777216 + b * 65536 else a + b * 256 := by cases π <;> simp [numN, numA, wt]
theorem num3 (π : Par) (a b c : Int) : numN π [a, b, c] = if π = true then a * 16777216 + b * 65536 + c * 256 else a + b * 256 + c * 65536 := by cases π <;> simp [numN, numA, wt] <;> omega
theorem num4 (π : Par) (a b c d : Int) : numN π [a, b, c, d] = if π = true then a * 16777216 + b * 65536 + c * 256 + d else a + b * 256 + c * 65536 + d * 16777216 := by cases π <;> simp [numN, numA, wt] <;> omega
/-- Four bytes are their number's. -/
theorem one_num {π : Par} {a b c d : Int} (ha : 0 ≤ a ∧ a < 256) (hb : 0 ≤ b ∧ b < 256) (hc : 0 ≤ c ∧ c < 256) (hd : 0 ≤ d ∧ d < 256) : oneN π (numN π [a, b, c, d]) = [a, b, c, d] ∧ 0 ≤ numN π [a, b, c, d] := by
  rw [num4]
  cases π
  · simp only [Bool.false_eq_true, if_false, oneN, List.cons.injEq, and_true]; omega
  · simp only [if_true, oneN, List.cons.injEq, and_true]; omega
/-- A number is its bytes'. -/
theorem num_one {π : Par} {c : Int} : numN π (oneN π c) = c := by
  cases π
  · simp only [oneN, Bool.false_eq_true, if_false]; rw [num4]; simp only [Bool.false_eq_true, if_false]; omega
  · simp only [oneN, if_true]; rw [num4]; simp only [if_true]; omega
theorem beg4 {π : Par} {s : List Int} (h : s.length = 4) : begN π s = isB (numN π s) := by
  unfold begN; rw [h]; cases π <;> simp [hasP]
theorem step_mid {π : Par} {s : St} {b : Int} (h : begN π (s ++ [b]) = true) (hl : s.length ≠ 3) : stepU π s b = some (s ++ [b], []) := by
  unfold stepU fitsN; rw [if_pos h, if_neg hl]
theorem step_last {π : Par} {s : St} {b : Int} (h : begN π (s ++ [b]) = true) (hl : s.length = 3) : stepU π s b = some ([], [numN π (s ++ [b])]) := by
  unfold stepU fitsN; rw [if_pos h, if_pos hl]
theorem step_no {π : Par} {s : St} {b : Int} (h : begN π (s ++ [b]) = false) : stepU π s b = none := by
  unfold stepU fitsN; rw [h]; rfl
/-- What a byte more makes. -/
theorem step_cases {π : Par} {s : St} {b : Int} {x : St × List Int} (hg : Good π s) (hs : ∀ y ∈ s, 0 ≤ y ∧ y < 256) (hb : 0 ≤ b ∧ b < 256) (h : stepU π s b = some x) :
    (x = (s ++ [b], []) ∧ Good π (s ++ [b])) ∨ ∃ c, x = ([], [c]) ∧ oneN π c = s ++ [b] ∧ isB c = true ∧ 0 ≤ c := by
  by_cases hf : begN π (s ++ [b]) = true
  · by_cases hl : s.length = 3
    · rw [step_last hf hl] at h
      match s, hl with
      | [p, q, r], _ =>
        have h4 := one_num (π := π) (hs p (by simp)) (hs q (by simp)) (hs r (by simp)) hb
        rw [beg4 (by simp)] at hf
        simp only [Option.some.injEq] at h
        exact .inr ⟨_, h.symm, h4.1, hf, h4.2⟩
    · rw [step_mid hf hl] at h
      simp only [Option.some.injEq] at h
      exact .inl ⟨h.symm, by have := hg.1; simp; omega, fun _ => hf⟩
  · rw [step_no (by simpa using hf)] at h; cases h
theorem beg_true {π : Par} {s : List Int} (h : numN π s + (if hasP π s.length = true then 0 else 65536) ≤ 1114111 ∧ ¬ (55296 ≤ numN π s + (if hasP π s.length = true then 0 else 65536) ∧ numN π s + (if hasP π s.length = true then 0 else 65536) ≤ 57343)) : begN π s = true := isB_true h
/-- The beginnings of a scalar's bytes. -/
theorem beg_one {π : Par} {c : Int} (h0 : 0 ≤ c) (hc : isB c = true) : ∃ a b d e, oneN π c = [a, b, d, e] ∧ begN π [a] = true ∧ begN π [a, b] = true ∧ begN π [a, b, d] = true ∧ begN π [a, b, d, e] = true := by
  have hi := isB_iff.1 hc
  have h4 : begN π (oneN π c) = true := by rw [beg4 (oneN_length π c), num_one]; exact hc
  cases π
  · refine ⟨c % 256, c / 256 % 256, c / 65536 % 256, c / 16777216, rfl, ?_, ?_, ?_, h4⟩
    · apply beg_true; rw [num1]; simp [hasP]; omega
    · apply beg_true; rw [num2]; simp [hasP]; omega
    · apply beg_true; rw [num3]; simp [hasP]; omega
  · refine ⟨c / 16777216, c / 65536 % 256, c / 256 % 256, c % 256, rfl, ?_, ?_, ?_, h4⟩
    · apply beg_true; rw [num1]; simp [hasP]; omega
    · apply beg_true; rw [num2]; simp [hasP]; omega
    · apply beg_true; rw [num3]; simp [hasP]; omega
/-- A scalar's bytes are told as it. -/
theorem scan_one (π : Par) (c : Int) (h0 : 0 ≤ c) (hc : isB c = true) (r : List Int) : scan (stepU π) [] (oneN π c ++ r) = (scan (stepU π) [] r).pre [c] (oneN π c).length := by
  have hn := num_one (π := π) (c := c)
  obtain ⟨a, b, d, e, he, h1, h2, h3, h4⟩ := beg_one (π := π) h0 hc
  rw [he] at hn ⊢
  simp only [List.cons_append, List.nil_append]
  have e1 : stepU π [] a = some ([a], []) := step_mid (s := []) h1 (by simp)
  have e2 : stepU π [a] b = some ([a, b], []) := step_mid (s := [a]) h2 (by simp)
  have e3 : stepU π [a, b] d = some ([a, b, d], []) := step_mid (s := [a, b]) h3 (by simp)
  have e4 : stepU π [a, b, d] e = some ([], [c]) := by rw [step_last (s := [a, b, d]) h4 (by simp)]; simp [hn]
  rw [scan_some _ e1, scan_some _ e2, scan_some _ e3, scan_some _ e4]
  simp only [Res.pre_pre]
  rfl
theorem oneN_byte' (π : Par) (c : Int) (h0 : 0 ≤ c) (h1 : c < 4294967296) : ∀ x ∈ oneN π c, 0 ≤ x ∧ x < 256 := by
  intro x hx
  unfold oneN at hx
  split at hx
  · simp at hx; omega
  · simp at hx; omega
theorem oneN_byte (π : Par) (c : Int) (h : isB c = true) (h0 : 0 ≤ c) : ∀ x ∈ oneN π c, 0 ≤ x ∧ x < 256 := by
  have hi := isB_iff.1 h
  exact oneN_byte' π c h0 (by omega)
/-- Four bytes of a number that is no scalar. -/
theorem scan_none4 (π : Par) (c : Int) (hc : isB c = false) : (scan (stepU π) [] (oneN π c)).told = [] ∧ (scan (stepU π) [] (oneN π c)).bad = true := by
  have h4 : begN π (oneN π c) = false := by rw [beg4 (oneN_length π c), num_one]; exact hc
  obtain ⟨a, b, d, e, he⟩ : ∃ a b d e, oneN π c = [a, b, d, e] := by unfold oneN; split <;> exact ⟨_, _, _, _, rfl⟩
  rw [he] at h4 ⊢
  have none_of : ∀ (s : St) (x : Int) (r : List Int), begN π (s ++ [x]) = false → (scan (stepU π) s (x :: r)).told = [] ∧ (scan (stepU π) s (x :: r)).bad = true := fun s x r h => by
    rw [scan_none _ (step_no h)]; exact ⟨rfl, rfl⟩
  have some_of : ∀ (s : St) (x : Int) (r : List Int), begN π (s ++ [x]) = true → s.length ≠ 3 → (scan (stepU π) (s ++ [x]) r).told = [] ∧ (scan (stepU π) (s ++ [x]) r).bad = true → (scan (stepU π) s (x :: r)).told = [] ∧ (scan (stepU π) s (x :: r)).bad = true := fun s x r h hl hr => by
    rw [scan_some _ (step_mid h hl)]; exact ⟨by simpa [Res.pre] using hr.1, by simpa [Res.pre] using hr.2⟩
  have go : ∀ (s : St) (x : Int) (r : List Int), s.length ≠ 3 → ((scan (stepU π) (s ++ [x]) r).told = [] ∧ (scan (stepU π) (s ++ [x]) r).bad = true) → (scan (stepU π) s (x :: r)).told = [] ∧ (scan (stepU π) s (x :: r)).bad = true := fun s x r hl hr => by
    by_cases h : begN π (s ++ [x]) = true
    · exact some_of s x r h hl hr
    · exact none_of s x r (by simpa using h)
  exact go [] a _ (by simp) (go [a] b _ (by simp) (go [a, b] d _ (by simp) (none_of [a, b, d] e [] h4)))
end Go.Proofs.Ytafigcmiibemeaa.U32
