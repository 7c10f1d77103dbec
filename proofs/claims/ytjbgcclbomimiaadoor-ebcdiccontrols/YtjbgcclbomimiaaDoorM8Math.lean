/-
  The text of layer 6 as plain functions on numbers and lists: a scalar's bytes, the row that a first byte tells, the number that bytes make, which byte may stand behind what has begun. No Go text is named here; no condition.
-/
import Derived.Test.YtjbgcclbomimiaaDoorScan
import Derived.Test.YtjbgcclbomimiaaDoorScaMath
namespace Go.Proofs.YtjbgcclbomimiaaDoor.M8
open Bas Scn Sca

/-- There is one way alone. -/
abbrev Par := Unit
/-- What has begun. -/
abbrev St := List Int
/-- The row that a first byte tells, the row of a number; what the rows say. -/
def rowB (b : Int) : Nat := if b < 192 then 0 else if b < 224 then 1 else if b < 240 then 2 else if b < 248 then 3 else 4
def rowC (c : Int) : Nat := if c < 160 then 0 else if c < 1024 then 1 else if c < 16384 then 2 else if c < 262144 then 3 else 4
def leadN (n : Nat) : Int := if n = 0 then 0 else if n = 1 then 192 else if n = 2 then 224 else if n = 3 then 240 else 248
def leastN (n : Nat) : Int := if n = 0 then 0 else if n = 1 then 160 else if n = 2 then 1024 else if n = 3 then 16384 else 262144
def p32 (n : Nat) : Int := if n = 0 then 1 else if n = 1 then 32 else if n = 2 then 1024 else if n = 3 then 32768 else 1048576
theorem rowB_le (b : Int) : rowB b ≤ 4 := by unfold rowB; (repeat' split) <;> omega
theorem rowC_le (b : Int) : rowC b ≤ 4 := by unfold rowC; (repeat' split) <;> omega
theorem rowB_iff (b : Int) : (rowB b = 0 ↔ b < 192) ∧ (rowB b = 1 ↔ 192 ≤ b ∧ b < 224) ∧ (rowB b = 2 ↔ 224 ≤ b ∧ b < 240) ∧ (rowB b = 3 ↔ 240 ≤ b ∧ b < 248) ∧ (rowB b = 4 ↔ 248 ≤ b) := by
  unfold rowB; (repeat' split) <;> omega
theorem rowC_iff (b : Int) : (rowC b = 0 ↔ b < 160) ∧ (rowC b = 1 ↔ 160 ≤ b ∧ b < 1024) ∧ (rowC b = 2 ↔ 1024 ≤ b ∧ b < 16384) ∧ (rowC b = 3 ↔ 16384 ≤ b ∧ b < 262144) ∧ (rowC b = 4 ↔ 262144 ≤ b) := by
  unfold rowC; (repeat' split) <;> omega
/-- The number of bytes. -/
def goN (a : Int) : List Int → Int
  | [] => a
  | x :: r => goN (a * 32 + (x - 160)) r
def bitsN : List Int → Int
  | [] => 0
  | b :: r => goN (b - leadN (rowB b)) r
theorem goN_snoc (s : List Int) (x a : Int) : goN a (s ++ [x]) = goN a s * 32 + (x - 160) := by
  induction s generalizing a with
  | nil => rfl
  | cons y r ih => rw [List.cons_append, goN, goN, ih]
theorem bitsN_snoc {s : List Int} (h : s ≠ []) (x : Int) : bitsN (s ++ [x]) = bitsN s * 32 + (x - 160) := by
  match s, h with
  | b :: r, _ => rw [List.cons_append, bitsN, bitsN, goN_snoc]
/-- Its row, how many bytes lack. -/
def rowN (s : List Int) : Nat := match s with | [] => 0 | b :: _ => rowB b
def lackN (s : List Int) : Nat := match s with | [] => 0 | b :: r => rowB b - r.length
theorem rowN_le (s : List Int) : rowN s ≤ 4 := by
  match s with
  | [] => simp [rowN]
  | b :: r => exact rowB_le b
theorem rowN_snoc {s : List Int} (h : s ≠ []) (x : Int) : rowN (s ++ [x]) = rowN s := by
  match s, h with
  | b :: r, _ => rfl
theorem lackN_le (s : List Int) : lackN s ≤ 4 := by
  match s with
  | [] => simp [lackN]
  | b :: r => have := rowB_le b; show rowB b - r.length ≤ 4; omega
theorem lackN_snoc {s : List Int} (h : s ≠ []) (x : Int) : lackN (s ++ [x]) = lackN s - 1 := by
  match s, h with
  | b :: r, _ => show rowB b - (r ++ [x]).length = rowB b - r.length - 1; simp; omega
/-- Can a scalar come of such bits? -/
def openP (m : Int) (n k : Nat) : Bool := isB (m * p32 k) && decide (rowC (m * p32 k + (p32 k - 1)) = n)
/-- Is it a byte behind a first one? -/
def cont (x : Int) : Bool := decide (160 ≤ x) && decide (x ≤ 191)
theorem cont_iff {x : Int} : cont x = true ↔ 160 ≤ x ∧ x ≤ 191 := by simp [cont]
/-- Do these bytes begin a scalar's? -/
def begN (s : List Int) : Bool := s.tail.all cont && (decide (s.length ≤ rowN s + 1) && openP (bitsN s) (rowN s) (lackN s))
/-- A byte more. -/
def stepU (_ : Par) (s : St) (b : Int) : Option (St × List Int) :=
  if begN (s ++ [b]) = true then (if lackN (s ++ [b]) = 0 then some ([], [bitsN (s ++ [b])]) else some (s ++ [b], [])) else none
/-- The beginning, and is nothing begun? -/
def st0 (_ : Par) : St := []
def rest (s : St) : Bool := s.isEmpty
/-- A beginning that is no whole. -/
def Good (_ : Par) (s : St) : Prop := s = [] ∨ (begN s = true ∧ s.length ≤ rowN s)
theorem good_nil (π : Par) : Good π [] := .inl rfl
theorem Good.len {π : Par} {s : St} (h : Good π s) : s.length ≤ 4 := by
  rcases h with rfl | h
  · simp
  · have := rowN_le s; omega
theorem Good.lack {π : Par} {s : St} (h : Good π s) : (lackN s : Int) > 0 ↔ s ≠ [] := by
  rcases h with rfl | ⟨_, h⟩
  · simp [lackN]
  · match s, h with
    | b :: r, h => have h' : r.length + 1 ≤ rowB b := by simpa [rowN] using h
                   show ((rowB b - r.length : Nat) : Int) > 0 ↔ _; simp; omega
    | [], _ => simp [lackN]
theorem step_one (π : Par) (s : St) (b : Int) (x : St × List Int) (h : stepU π s b = some x) : x.2.length ≤ 1 := by
  unfold stepU at h
  split at h
  · split at h
    · simp at h; rw [← h]; simp
    · simp at h; rw [← h]; simp
  · simp at h
theorem step_mid {π : Par} {s : St} {b : Int} (h : begN (s ++ [b]) = true) (hl : lackN (s ++ [b]) ≠ 0) : stepU π s b = some (s ++ [b], []) := by
  unfold stepU; rw [if_pos h, if_neg hl]
theorem step_last {π : Par} {s : St} {b : Int} (h : begN (s ++ [b]) = true) (hl : lackN (s ++ [b]) = 0) : stepU π s b = some ([], [bitsN (s ++ [b])]) := by
  unfold stepU; rw [if_pos h, if_pos hl]
theorem step_no {π : Par} {s : St} {b : Int} (h : begN (s ++ [b]) = false) : stepU π s b = none := by
  unfold stepU; rw [h]; rfl
/-- A scalar's bytes. -/
def oneN (_ : Par) (c : Int) : List Int :=
  if c < 160 then [c] else if c < 1024 then [192 + c / 32, 160 + c % 32]
  else if c < 16384 then [224 + c / 1024, 160 + c / 32 % 32, 160 + c % 32]
  else if c < 262144 then [240 + c / 32768, 160 + c / 1024 % 32, 160 + c / 32 % 32, 160 + c % 32]
  else [248 + c / 1048576, 160 + c / 32768 % 32, 160 + c / 1024 % 32, 160 + c / 32 % 32, 160 + c % 32]
theorem oneN_length (π : Par) (c : Int) : (oneN π c).length = rowC c + 1 := by unfold oneN rowC; (repeat' split) <;> rfl
theorem oneN_max (π : Par) (c : Int) : (oneN π c).length ≤ 5 := by rw [oneN_length]; have := rowC_le c; omega
theorem oneN_pos (π : Par) (c : Int) : 1 ≤ (oneN π c).length := by rw [oneN_length]; omega
theorem open_iff {m : Int} {n k : Nat} : openP m n k = true ↔ (m * p32 k ≤ 1114111 ∧ ¬ (55296 ≤ m * p32 k ∧ m * p32 k ≤ 57343)) ∧ rowC (m * p32 k + (p32 k - 1)) = n := by
  unfold openP; rw [Bool.and_eq_true, isB_iff, decide_eq_true_eq]
theorem beg_iff {s : List Int} : begN s = true ↔ (∀ x ∈ s.tail, 160 ≤ x ∧ x ≤ 191) ∧ s.length ≤ rowN s + 1 ∧ openP (bitsN s) (rowN s) (lackN s) = true := by
  unfold begN; rw [Bool.and_eq_true, Bool.and_eq_true, List.all_eq_true, decide_eq_true_eq]; simp only [cont_iff]
/-- A whole: its number's bytes are it. -/
theorem one_bits {π : Par} {q : List Int} (h : begN q = true) (hq : q ≠ []) (hl : lackN q = 0) (hb : ∀ x ∈ q, 0 ≤ x ∧ x < 256) : oneN π (bitsN q) = q ∧ isB (bitsN q) = true ∧ 0 ≤ bitsN q := by
  obtain ⟨h1, h2, h3⟩ := beg_iff.1 h
  rw [hl, open_iff] at h3
  have e0 : p32 0 = 1 := rfl
  rw [e0, Int.mul_one, show bitsN q + (1 - 1) = bitsN q by omega] at h3
  obtain ⟨h3, h4⟩ := h3
  have hI : isB (bitsN q) = true := isB_true h3
  match q, hq with
  | a :: r, _ =>
    have ha := hb a (by simp)
    have hr := rowB_iff a
    have hc := rowC_iff (bitsN (a :: r))
    have hle := rowB_le a
    have e1 : rowN (a :: r) = rowB a := rfl
    have e2 : lackN (a :: r) = rowB a - r.length := rfl
    rw [e1] at h4 h2
    rw [e2] at hl
    simp only [List.length_cons] at h2
    have hn : rowB a = r.length := by omega
    refine ⟨?_, hI, ?_⟩
    · match r, hn, h1 with
      | [], hn, _ =>
        simp only [List.length_nil] at hn
        have e3 : bitsN [a] = a := by simp [bitsN, goN, hn, leadN]
        rw [e3] at hc h4 ⊢
        have hlt : a < 160 := by omega
        simp [oneN, hlt]
      | [b], hn, h1 =>
        simp only [List.length_cons, List.length_nil] at hn
        have hx := h1 b (by simp)
        have e3 : bitsN [a, b] = (a - 192) * 32 + (b - 160) := by simp [bitsN, goN, hn, leadN]
        rw [e3] at hc h4 ⊢
        have g1 : ¬ (a - 192) * 32 + (b - 160) < 160 := by omega
        have g2 : (a - 192) * 32 + (b - 160) < 1024 := by omega
        simp only [oneN, if_neg g1, if_pos g2, List.cons.injEq, and_true]; omega
      | [b, c], hn, h1 =>
        simp only [List.length_cons, List.length_nil] at hn
        have hx := h1 b (by simp)
        have hy := h1 c (by simp)
        have e3 : bitsN [a, b, c] = ((a - 224) * 32 + (b - 160)) * 32 + (c - 160) := by simp [bitsN, goN, hn, leadN]
        rw [e3] at hc h4 ⊢
        have g1 : ¬ ((a - 224) * 32 + (b - 160)) * 32 + (c - 160) < 160 := by omega
        have g2 : ¬ ((a - 224) * 32 + (b - 160)) * 32 + (c - 160) < 1024 := by omega
        have g3 : ((a - 224) * 32 + (b - 160)) * 32 + (c - 160) < 16384 := by omega
        simp only [oneN, if_neg g1, if_neg g2, if_pos g3, List.cons.injEq, and_true]; omega
      | [b, c, d], hn, h1 =>
        simp only [List.length_cons, List.length_nil] at hn
        have hx := h1 b (by simp)
        have hy := h1 c (by simp)
        have hz := h1 d (by simp)
        have e3 : bitsN [a, b, c, d] = (((a - 240) * 32 + (b - 160)) * 32 + (c - 160)) * 32 + (d - 160) := by simp [bitsN, goN, hn, leadN]
        rw [e3] at hc h4 ⊢
        have g1 : ¬ (((a - 240) * 32 + (b - 160)) * 32 + (c - 160)) * 32 + (d - 160) < 160 := by omega
        have g2 : ¬ (((a - 240) * 32 + (b - 160)) * 32 + (c - 160)) * 32 + (d - 160) < 1024 := by omega
        have g3 : ¬ (((a - 240) * 32 + (b - 160)) * 32 + (c - 160)) * 32 + (d - 160) < 16384 := by omega
        have g4 : (((a - 240) * 32 + (b - 160)) * 32 + (c - 160)) * 32 + (d - 160) < 262144 := by omega
        simp only [oneN, if_neg g1, if_neg g2, if_neg g3, if_pos g4, List.cons.injEq, and_true]; omega
      | [b, c, d, e], hn, h1 =>
        simp only [List.length_cons, List.length_nil] at hn
        have hx := h1 b (by simp)
        have hy := h1 c (by simp)
        have hz := h1 d (by simp)
        have hw := h1 e (by simp)
        have e3 : bitsN [a, b, c, d, e] = ((((a - 248) * 32 + (b - 160)) * 32 + (c - 160)) * 32 + (d - 160)) * 32 + (e - 160) := by simp [bitsN, goN, hn, leadN]
        rw [e3] at hc h4 ⊢
        have g4 : ¬ ((((a - 248) * 32 + (b - 160)) * 32 + (c - 160)) * 32 + (d - 160)) * 32 + (e - 160) < 262144 := by omega
        have g1 : ¬ ((((a - 248) * 32 + (b - 160)) * 32 + (c - 160)) * 32 + (d - 160)) * 32 + (e - 160) < 160 := by omega
        have g2 : ¬ ((((a - 248) * 32 + (b - 160)) * 32 + (c - 160)) * 32 + (d - 160)) * 32 + (e - 160) < 1024 := by omega
        have g3 : ¬ ((((a - 248) * 32 + (b - 160)) * 32 + (c - 160)) * 32 + (d - 160)) * 32 + (e - 160) < 16384 := by omega
        simp only [oneN, if_neg g1, if_neg g2, if_neg g3, if_neg g4, List.cons.injEq, and_true]; omega
      | _ :: _ :: _ :: _ :: _ :: _, hn, _ => simp at hn; omega
    · match r, hn, h1 with
      | [], hn, _ =>
        simp only [List.length_nil] at hn
        simp [bitsN, goN, hn, leadN]; omega
      | b :: r, hn, _ =>
        have : 1 ≤ rowB a := by rw [hn]; simp
        omega
/-- What a byte more makes. -/
theorem step_cases {π : Par} {s : St} {b : Int} {x : St × List Int} (hg : Good π s) (hs : ∀ y ∈ s, 0 ≤ y ∧ y < 256) (hb : 0 ≤ b ∧ b < 256) (h : stepU π s b = some x) :
    (x = (s ++ [b], []) ∧ Good π (s ++ [b])) ∨ ∃ c, x = ([], [c]) ∧ oneN π c = s ++ [b] ∧ isB c = true ∧ 0 ≤ c := by
  have hall : ∀ y ∈ s ++ [b], 0 ≤ y ∧ y < 256 := by
    intro y hy
    simp at hy
    rcases hy with hy | rfl
    · exact hs y hy
    · exact hb
  by_cases hf : begN (s ++ [b]) = true
  · by_cases hl : lackN (s ++ [b]) = 0
    · rw [step_last hf hl] at h
      obtain ⟨h1, h2, h3⟩ := one_bits (π := π) hf (by simp) hl hall
      simp only [Option.some.injEq] at h
      exact .inr ⟨_, h.symm, h1, h2, h3⟩
    · rw [step_mid hf hl] at h
      simp only [Option.some.injEq] at h
      refine .inl ⟨h.symm, .inr ⟨hf, ?_⟩⟩
      match s with
      | [] => show 1 ≤ rowB b; have : lackN ([] ++ [b]) = rowB b - 0 := rfl; omega
      | a :: r =>
        have e : lackN (a :: r ++ [b]) = rowB a - (r ++ [b]).length := rfl
        rw [e] at hl
        show (a :: r ++ [b]).length ≤ rowB a
        simp only [List.cons_append, List.length_cons, List.length_append, List.length_nil] at hl ⊢; omega
  · rw [step_no (by simpa using hf)] at h; cases h
theorem oneN_byte (π : Par) (c : Int) (h : isB c = true) (h0 : 0 ≤ c) : ∀ x ∈ oneN π c, 0 ≤ x ∧ x < 256 := by
  have hi := isB_iff.1 h
  intro x hx
  unfold oneN at hx
  (repeat' split at hx) <;> simp at hx <;> omega
theorem isB_le {c : Int} (h : isB c = true) : c ≤ 1114111 ∧ ¬ (55296 ≤ c ∧ c ≤ 57343) := isB_iff.1 h
/-- A beginning of bits. -/
theorem beg_mk {a : Int} {r : List Int} {n k : Nat} {m : Int} (hn : rowB a = n) (hk : n = r.length + k) (hm : bitsN (a :: r) = m) (hc : ∀ x ∈ r, 160 ≤ x ∧ x ≤ 191) (h1 : m * p32 k ≤ 1114111) (h2 : ¬ (55296 ≤ m * p32 k ∧ m * p32 k ≤ 57343)) (h3 : rowC (m * p32 k + (p32 k - 1)) = n) : begN (a :: r) = true ∧ lackN (a :: r) = k := by
  have e2 : lackN (a :: r) = k := by show rowB a - r.length = k; omega
  refine ⟨beg_iff.2 ⟨hc, ?_, ?_⟩, e2⟩
  · show (a :: r).length ≤ rowB a + 1; simp; omega
  · rw [e2, hm, show rowN (a :: r) = n from hn]; exact open_iff.2 ⟨⟨h1, h2⟩, h3⟩
theorem bits_as {a : Int} {n : Nat} {r : List Int} (hn : rowB a = n) : bitsN (a :: r) = goN (a - leadN n) r := by rw [bitsN, hn]
/-- A scalar's bytes are told as it. -/
theorem scan_one (π : Par) (c : Int) (h0 : 0 ≤ c) (hc : isB c = true) (r : List Int) : scan (stepU π) [] (oneN π c ++ r) = (scan (stepU π) [] r).pre [c] (oneN π c).length := by
  have hi := isB_le hc
  unfold oneN
  have hrc := rowC_iff
  split
  · rename_i g
    have hn : rowB c = 0 := (rowB_iff c).1.2 (by omega)
    have hm : bitsN [c] = c := by rw [bits_as hn]; simp [goN, leadN]
    obtain ⟨b1, l1⟩ := beg_mk (a := c) (r := []) (k := 0) hn rfl hm (by simp) (by simp [p32]; omega) (by simp [p32]; omega) ((hrc _).1.2 (by simp [p32]; omega))
    have e1 : stepU π [] c = some ([], [c]) := by rw [step_last (s := []) b1 l1]; simp [hm]
    simp only [List.cons_append, List.nil_append]
    rw [scan_some _ e1]; rfl
  split
  · rename_i g1 g2
    obtain ⟨a, hA⟩ : ∃ a, 192 + c / 32 = a := ⟨_, rfl⟩
    obtain ⟨b, hB⟩ : ∃ b, 160 + c % 32 = b := ⟨_, rfl⟩
    rw [hA, hB]
    have hn : rowB a = 1 := (rowB_iff a).2.1.2 (by omega)
    have m1 : bitsN [a] = c / 32 := by rw [bits_as hn]; simp [goN, leadN]; omega
    have m2 : bitsN [a, b] = c := by rw [bits_as hn]; simp [goN, leadN]; omega
    obtain ⟨b1, l1⟩ := beg_mk (a := a) (r := []) (k := 1) hn rfl m1 (by simp) (by simp [p32]; omega) (by simp [p32]; omega) ((hrc _).2.1.2 (by simp [p32]; omega))
    obtain ⟨b2, l2⟩ := beg_mk (a := a) (r := [b]) (k := 0) hn rfl m2 (by simp; omega) (by simp [p32]; omega) (by simp [p32]; omega) ((hrc _).2.1.2 (by simp [p32]; omega))
    have e1 : stepU π [] a = some ([a], []) := step_mid (s := []) b1 (by simp [l1])
    have e2 : stepU π [a] b = some ([], [c]) := by rw [step_last (s := [a]) b2 l2]; simp [m2]
    simp only [List.cons_append, List.nil_append]
    rw [scan_some _ e1, scan_some _ e2]; simp only [Res.pre_pre]; rfl
  split
  · rename_i g1 g2 g3
    obtain ⟨a, hA⟩ : ∃ a, 224 + c / 1024 = a := ⟨_, rfl⟩
    obtain ⟨b, hB⟩ : ∃ b, 160 + c / 32 % 32 = b := ⟨_, rfl⟩
    obtain ⟨d, hD⟩ : ∃ b, 160 + c % 32 = b := ⟨_, rfl⟩
    rw [hA, hB, hD]
    have hn : rowB a = 2 := (rowB_iff a).2.2.1.2 (by omega)
    have m1 : bitsN [a] = c / 1024 := by rw [bits_as hn]; simp [goN, leadN]; omega
    have m2 : bitsN [a, b] = c / 32 := by rw [bits_as hn]; simp [goN, leadN]; omega
    have m3 : bitsN [a, b, d] = c := by rw [bits_as hn]; simp [goN, leadN]; omega
    obtain ⟨b1, l1⟩ := beg_mk (a := a) (r := []) (k := 2) hn rfl m1 (by simp) (by simp [p32]; omega) (by simp [p32]; omega) ((hrc _).2.2.1.2 (by simp [p32]; omega))
    obtain ⟨b2, l2⟩ := beg_mk (a := a) (r := [b]) (k := 1) hn rfl m2 (by simp; omega) (by simp [p32]; omega) (by simp [p32]; omega) ((hrc _).2.2.1.2 (by simp [p32]; omega))
    obtain ⟨b3, l3⟩ := beg_mk (a := a) (r := [b, d]) (k := 0) hn rfl m3 (by simp; omega) (by simp [p32]; omega) (by simp [p32]; omega) ((hrc _).2.2.1.2 (by simp [p32]; omega))
    have e1 : stepU π [] a = some ([a], []) := step_mid (s := []) b1 (by simp [l1])
    have e2 : stepU π [a] b = some ([a, b], []) := step_mid (s := [a]) b2 (by simp [l2])
    have e3 : stepU π [a, b] d = some ([], [c]) := by rw [step_last (s := [a, b]) b3 l3]; simp [m3]
    simp only [List.cons_append, List.nil_append]
    rw [scan_some _ e1, scan_some _ e2, scan_some _ e3]; simp only [Res.pre_pre]; rfl
  split
  · rename_i g1 g2 g3 g4
    obtain ⟨a, hA⟩ : ∃ a, 240 + c / 32768 = a := ⟨_, rfl⟩
    obtain ⟨b, hB⟩ : ∃ b, 160 + c / 1024 % 32 = b := ⟨_, rfl⟩
    obtain ⟨d, hD⟩ : ∃ b, 160 + c / 32 % 32 = b := ⟨_, rfl⟩
    obtain ⟨e, hE⟩ : ∃ b, 160 + c % 32 = b := ⟨_, rfl⟩
    rw [hA, hB, hD, hE]
    have hn : rowB a = 3 := (rowB_iff a).2.2.2.1.2 (by omega)
    have m1 : bitsN [a] = c / 32768 := by rw [bits_as hn]; simp [goN, leadN]; omega
    have m2 : bitsN [a, b] = c / 1024 := by rw [bits_as hn]; simp [goN, leadN]; omega
    have m3 : bitsN [a, b, d] = c / 32 := by rw [bits_as hn]; simp [goN, leadN]; omega
    have m4 : bitsN [a, b, d, e] = c := by rw [bits_as hn]; simp [goN, leadN]; omega
    obtain ⟨b1, l1⟩ := beg_mk (a := a) (r := []) (k := 3) hn rfl m1 (by simp) (by simp [p32]; omega) (by simp [p32]; omega) ((hrc _).2.2.2.1.2 (by simp [p32]; omega))
    obtain ⟨b2, l2⟩ := beg_mk (a := a) (r := [b]) (k := 2) hn rfl m2 (by simp; omega) (by simp [p32]; omega) (by simp [p32]; omega) ((hrc _).2.2.2.1.2 (by simp [p32]; omega))
    obtain ⟨b3, l3⟩ := beg_mk (a := a) (r := [b, d]) (k := 1) hn rfl m3 (by simp; omega) (by simp [p32]; omega) (by simp [p32]; omega) ((hrc _).2.2.2.1.2 (by simp [p32]; omega))
    obtain ⟨b4, l4⟩ := beg_mk (a := a) (r := [b, d, e]) (k := 0) hn rfl m4 (by simp; omega) (by simp [p32]; omega) (by simp [p32]; omega) ((hrc _).2.2.2.1.2 (by simp [p32]; omega))
    have e1 : stepU π [] a = some ([a], []) := step_mid (s := []) b1 (by simp [l1])
    have e2 : stepU π [a] b = some ([a, b], []) := step_mid (s := [a]) b2 (by simp [l2])
    have e3 : stepU π [a, b] d = some ([a, b, d], []) := step_mid (s := [a, b]) b3 (by simp [l3])
    have e4 : stepU π [a, b, d] e = some ([], [c]) := by rw [step_last (s := [a, b, d]) b4 l4]; simp [m4]
    simp only [List.cons_append, List.nil_append]
    rw [scan_some _ e1, scan_some _ e2, scan_some _ e3, scan_some _ e4]; simp only [Res.pre_pre]; rfl
  · rename_i g1 g2 g3 g4
    obtain ⟨a, hA⟩ : ∃ a, 248 + c / 1048576 = a := ⟨_, rfl⟩
    obtain ⟨b, hB⟩ : ∃ b, 160 + c / 32768 % 32 = b := ⟨_, rfl⟩
    obtain ⟨d, hD⟩ : ∃ b, 160 + c / 1024 % 32 = b := ⟨_, rfl⟩
    obtain ⟨e, hE⟩ : ∃ b, 160 + c / 32 % 32 = b := ⟨_, rfl⟩
    obtain ⟨f, hF⟩ : ∃ b, 160 + c % 32 = b := ⟨_, rfl⟩
    rw [hA, hB, hD, hE, hF]
    have hn : rowB a = 4 := (rowB_iff a).2.2.2.2.2 (by omega)
    have m1 : bitsN [a] = c / 1048576 := by rw [bits_as hn]; simp [goN, leadN]; omega
    have m2 : bitsN [a, b] = c / 32768 := by rw [bits_as hn]; simp [goN, leadN]; omega
    have m3 : bitsN [a, b, d] = c / 1024 := by rw [bits_as hn]; simp [goN, leadN]; omega
    have m4 : bitsN [a, b, d, e] = c / 32 := by rw [bits_as hn]; simp [goN, leadN]; omega
    have m5 : bitsN [a, b, d, e, f] = c := by rw [bits_as hn]; simp [goN, leadN]; omega
    obtain ⟨b1, l1⟩ := beg_mk (a := a) (r := []) (k := 4) hn rfl m1 (by simp) (by simp [p32]; omega) (by simp [p32]; omega) ((hrc _).2.2.2.2.2 (by simp [p32]; omega))
    obtain ⟨b2, l2⟩ := beg_mk (a := a) (r := [b]) (k := 3) hn rfl m2 (by simp; omega) (by simp [p32]; omega) (by simp [p32]; omega) ((hrc _).2.2.2.2.2 (by simp [p32]; omega))
    obtain ⟨b3, l3⟩ := beg_mk (a := a) (r := [b, d]) (k := 2) hn rfl m3 (by simp; omega) (by simp [p32]; omega) (by simp [p32]; omega) ((hrc _).2.2.2.2.2 (by simp [p32]; omega))
    obtain ⟨b4, l4⟩ := beg_mk (a := a) (r := [b, d, e]) (k := 1) hn rfl m4 (by simp; omega) (by simp [p32]; omega) (by simp [p32]; omega) ((hrc _).2.2.2.2.2 (by simp [p32]; omega))
    obtain ⟨b5, l5⟩ := beg_mk (a := a) (r := [b, d, e, f]) (k := 0) hn rfl m5 (by simp; omega) (by simp [p32]; omega) (by simp [p32]; omega) ((hrc _).2.2.2.2.2 (by simp [p32]; omega))
    have e1 : stepU π [] a = some ([a], []) := step_mid (s := []) b1 (by simp [l1])
    have e2 : stepU π [a] b = some ([a, b], []) := step_mid (s := [a]) b2 (by simp [l2])
    have e3 : stepU π [a, b] d = some ([a, b, d], []) := step_mid (s := [a, b]) b3 (by simp [l3])
    have e4 : stepU π [a, b, d] e = some ([a, b, d, e], []) := step_mid (s := [a, b, d]) b4 (by simp [l4])
    have e5 : stepU π [a, b, d, e] f = some ([], [c]) := by rw [step_last (s := [a, b, d, e]) b5 l5]; simp [m5]
    simp only [List.cons_append, List.nil_append]
    rw [scan_some _ e1, scan_some _ e2, scan_some _ e3, scan_some _ e4, scan_some _ e5]; simp only [Res.pre_pre]; rfl
end Go.Proofs.YtjbgcclbomimiaaDoor.M8
