/-
  UTF-8 as plain functions on numbers and lists: a scalar's bytes, which bytes begin a scalar's bytes, the number that they make; that bytes compare as scalars do. No Go text is named here; no condition.
-/
import Derived.Test.YtknebngapfakjaaDoorScan
import Derived.Test.YtknebngapfakjaaDoorScaMath
namespace Go.Proofs.YtknebngapfakjaaDoor.U8
open Bas Scn Sca

/-- How many bytes a scalar takes. -/
def sizeN (c : Int) : Nat := if c < 128 then 1 else if c < 2048 then 2 else if c < 65536 then 3 else 4
/-- Its bytes. -/
def oneN (c : Int) : List Int :=
  if c < 128 then [c] else if c < 2048 then [192 + c / 64, 128 + c % 64]
  else if c < 65536 then [224 + c / 4096, 128 + c / 64 % 64, 128 + c % 64]
  else [240 + c / 262144, 128 + c / 4096 % 64, 128 + c / 64 % 64, 128 + c % 64]
theorem oneN_length (c : Int) : (oneN c).length = sizeN c := by
  unfold oneN sizeN; (repeat' split) <;> rfl
theorem sizeN_bd (c : Int) : 1 ≤ sizeN c ∧ sizeN c ≤ 4 := by
  unfold sizeN; (repeat' split) <;> omega
/-- The bytes of a list. -/
def bytesN : List Int → List Int
  | [] => []
  | c :: r => oneN c ++ bytesN r
theorem bytesN_append (l m : List Int) : bytesN (l ++ m) = bytesN l ++ bytesN m := by
  induction l with
  | nil => rfl
  | cons c r ih => simp [bytesN, ih]
theorem bytesN_one (c : Int) : bytesN [c] = oneN c := by simp [bytesN]
theorem bytesN_le (l : List Int) : (bytesN l).length ≤ 4 * l.length := by
  induction l with
  | nil => simp [bytesN]
  | cons c r ih => have := oneN_length c; have := sizeN_bd c; simp [bytesN]; omega
/-- How many bytes a first byte asks for (0: it is none). -/
def needN (b : Int) : Nat := if b < 128 then 1 else if b < 194 then 0 else if b < 224 then 2 else if b < 240 then 3 else if b < 245 then 4 else 0
/-- From where to where the second byte may go. -/
def loN (b : Int) : Int := if b = 224 then 160 else if b = 240 then 144 else 128
def hiN (b : Int) : Int := if b = 237 then 159 else if b = 244 then 143 else 191
/-- Do some bytes begin a scalar's bytes? -/
def okq : List Int → Bool
  | [a] => decide (1 ≤ needN a)
  | [a, b] => decide (2 ≤ needN a) && (decide (loN a ≤ b) && decide (b ≤ hiN a))
  | [a, b, c] => decide (3 ≤ needN a) && (decide (loN a ≤ b) && decide (b ≤ hiN a)) && (decide (128 ≤ c) && decide (c ≤ 191))
  | [a, b, c, d] => decide (4 ≤ needN a) && (decide (loN a ≤ b) && decide (b ≤ hiN a)) && (decide (128 ≤ c) && decide (c ≤ 191)) && (decide (128 ≤ d) && decide (d ≤ 191))
  | _ => false
/-- The number that they make. -/
def numU : List Int → Int
  | [a] => a
  | [a, b] => (a - 192) * 64 + (b - 128)
  | [a, b, c] => (a - 224) * 4096 + (b - 128) * 64 + (c - 128)
  | [a, b, c, d] => (a - 240) * 262144 + (b - 128) * 4096 + (c - 128) * 64 + (d - 128)
  | _ => 0
/-- A byte more. -/
def stepU (s : List Int) (b : Int) : Option (List Int × List Int) :=
  if okq (s ++ [b]) = true then if (s ++ [b]).length = needN (nth (s ++ [b]) 0) then some ([], [numU (s ++ [b])]) else some (s ++ [b], []) else none
/-- A beginning that is no whole. -/
def Good (s : List Int) : Prop := s = [] ∨ (okq s = true ∧ s.length < needN (nth s 0))
theorem okq_len {s : List Int} (h : okq s = true) : 1 ≤ s.length ∧ s.length ≤ 4 ∧ s.length ≤ needN (nth s 0) := by
  match s, h with
  | [a], h => simp [okq] at h; simp [nth]; omega
  | [a, b], h => simp [okq] at h; simp [nth]; omega
  | [a, b, c], h => simp [okq] at h; simp [nth]; omega
  | [a, b, c, d], h => simp [okq] at h; simp [nth]; omega
theorem lo_hi (a : Int) : 128 ≤ loN a ∧ (a = 224 → loN a = 160) ∧ (a = 240 → loN a = 144) ∧ hiN a ≤ 191 ∧ (a = 237 → hiN a = 159) ∧ (a = 244 → hiN a = 143) := by
  unfold loN hiN; (repeat' split) <;> omega
theorem needN_le (b : Int) : needN b ≤ 4 := by unfold needN; (repeat' split) <;> omega
theorem good_nil : Good [] := .inl rfl
theorem Good.len {s : List Int} (h : Good s) : s.length ≤ 3 := by
  rcases h with rfl | ⟨_, h⟩
  · simp
  · have := needN_le (nth s 0); omega
theorem step_good (s : List Int) (b : Int) (x : List Int × List Int) (_hs : Good s) (h : stepU s b = some x) : Good x.1 := by
  unfold stepU at h
  split at h
  · rename_i ho
    split at h
    · simp at h; rw [← h]; exact good_nil
    · simp at h; rw [← h]
      have := okq_len ho
      exact .inr ⟨ho, by show (s ++ [b]).length < needN (nth (s ++ [b]) 0); omega⟩
  · simp at h
theorem step_one (s : List Int) (b : Int) (x : List Int × List Int) (h : stepU s b = some x) : x.2.length ≤ 1 := by
  unfold stepU at h
  split at h
  · split at h
    · simp at h; rw [← h]; simp
    · simp at h; rw [← h]; simp
  · simp at h
theorem div_eq {c k q r : Int} (h : c = q * k + r) (h0 : 0 ≤ r) (h1 : r < k) : c / k = q := by
  subst h
  rw [Int.add_comm, Int.add_mul_ediv_right _ _ (by omega), Int.ediv_eq_zero_of_lt h0 h1]; omega
theorem one_num {q : List Int} (h : okq q = true) (hn : q.length = needN (nth q 0)) (h0 : 0 ≤ nth q 0) : oneN (numU q) = q ∧ isB (numU q) = true ∧ 0 ≤ numU q := by
  match q, h with
  | [a], h =>
    simp [nth, needN] at hn h0
    have ha : a < 128 := by
      repeat' split at hn
      all_goals omega
    exact ⟨by simp [numU, oneN, ha], isB_true (by simp only [numU]; omega), h0⟩
  | [a, b], h =>
    simp [okq] at h
    have hlh := lo_hi a
    simp [nth, needN] at hn h0
    have ha : 194 ≤ a ∧ a < 224 := by
      repeat' split at hn
      all_goals omega
    have hb : 128 ≤ b ∧ b ≤ 191 := by
      omega
    refine ⟨?_, isB_true (by simp only [numU]; omega), by simp only [numU]; omega⟩
    have e : ¬ (a - 192) * 64 + (b - 128) < 128 := by omega
    have e2 : (a - 192) * 64 + (b - 128) < 2048 := by omega
    simp [numU, oneN, e, e2]; omega
  | [a, b, c], h =>
    simp [okq] at h
    have hlh := lo_hi a
    simp [nth, needN] at hn h0
    have ha : 224 ≤ a ∧ a < 240 := by
      repeat' split at hn
      all_goals omega
    obtain ⟨⟨_, h1, h2⟩, hc⟩ := h
    have hb : 128 ≤ b ∧ b ≤ 191 ∧ (a = 224 → 160 ≤ b) ∧ (a = 237 → b ≤ 159) := by
      omega
    refine ⟨?_, isB_true (by simp only [numU]; omega), by simp only [numU]; omega⟩
    have e : ¬ (a - 224) * 4096 + (b - 128) * 64 + (c - 128) < 128 := by omega
    have e1 : ¬ (a - 224) * 4096 + (b - 128) * 64 + (c - 128) < 2048 := by omega
    have e2 : (a - 224) * 4096 + (b - 128) * 64 + (c - 128) < 65536 := by omega
    simp [numU, oneN, e, e1, e2]; omega
  | [a, b, c, d], h =>
    simp [okq] at h
    have hlh := lo_hi a
    simp [nth, needN] at hn h0
    have ha : 240 ≤ a ∧ a < 245 := by
      repeat' split at hn
      all_goals omega
    obtain ⟨⟨⟨_, h1, h2⟩, hc⟩, hd⟩ := h
    have hb : 128 ≤ b ∧ b ≤ 191 ∧ (a = 240 → 144 ≤ b) ∧ (a = 244 → b ≤ 143) := by
      omega
    refine ⟨?_, isB_true (by simp only [numU]; omega), by simp only [numU]; omega⟩
    have e : ¬ (a - 240) * 262144 + (b - 128) * 4096 + (c - 128) * 64 + (d - 128) < 128 := by omega
    have e1 : ¬ (a - 240) * 262144 + (b - 128) * 4096 + (c - 128) * 64 + (d - 128) < 2048 := by omega
    have e2 : ¬ (a - 240) * 262144 + (b - 128) * 4096 + (c - 128) * 64 + (d - 128) < 65536 := by omega
    simp [numU, oneN, e, e1, e2]; omega

/-- What was told and what has begun are what was eaten. -/
theorem scan_bytes (l : List Int) (hl : ∀ x ∈ l, 0 ≤ x) (s : List Int) (hs : ∀ x ∈ s, 0 ≤ x) : bytesN (scan stepU s l).told ++ (scan stepU s l).st = s ++ l.take (scan stepU s l).eaten := by
  induction l generalizing s with
  | nil => simp [scan, bytesN]
  | cons b r ih =>
    have hb : ∀ x ∈ s ++ [b], 0 ≤ x := by
      intro x hx
      simp at hx
      rcases hx with hx | rfl
      · exact hs x hx
      · exact hl x (by simp)
    cases h : stepU s b with
    | none => rw [scan_none _ h]; simp [bytesN]
    | some x =>
      rw [scan_some _ h]
      simp only [Res.pre]
      rw [show 1 + (scan stepU x.1 r).eaten = (scan stepU x.1 r).eaten + 1 by omega, List.take_succ_cons, bytesN_append, List.append_assoc]
      have hr : ∀ x ∈ r, 0 ≤ x := fun x hx => hl x (by simp [hx])
      unfold stepU at h
      split at h
      · rename_i ho
        split at h
        · rename_i hn
          simp at h; subst h
          rw [ih hr [] (by simp)]
          have h0 : 0 ≤ nth (s ++ [b]) 0 := hb _ (nth_mem (by have := okq_len ho; omega))
          rw [bytesN_one, (one_num ho hn h0).1]; simp
        · simp at h; subst h
          rw [ih hr _ hb]; simp [bytesN]
      · simp at h
/-- All that is told are scalars. -/
theorem scan_scalars (l : List Int) (hl : ∀ x ∈ l, 0 ≤ x) (s : List Int) (hs : ∀ x ∈ s, 0 ≤ x) : ∀ c ∈ (scan stepU s l).told, isB c = true ∧ 0 ≤ c := by
  induction l generalizing s with
  | nil => simp [scan]
  | cons b r ih =>
    have hb : ∀ x ∈ s ++ [b], 0 ≤ x := by
      intro x hx
      simp at hx
      rcases hx with hx | rfl
      · exact hs x hx
      · exact hl x (by simp)
    have hr : ∀ x ∈ r, 0 ≤ x := fun x hx => hl x (by simp [hx])
    cases h : stepU s b with
    | none => rw [scan_none _ h]; simp
    | some x =>
      rw [scan_some _ h]
      unfold stepU at h
      split at h
      · rename_i ho
        split at h
        · rename_i hn
          simp at h; subst h
          have h0 : 0 ≤ nth (s ++ [b]) 0 := hb _ (nth_mem (by have := okq_len ho; omega))
          intro c hc
          simp [Res.pre] at hc
          rcases hc with rfl | hc
          · exact (one_num ho hn h0).2
          · exact ih hr [] (by simp) c hc
        · simp at h; subst h
          intro c hc
          simp [Res.pre] at hc
          exact ih hr _ hb c hc
      · simp at h
/-- A scalar's bytes are told as it. -/
theorem scan_one (c : Int) (h0 : 0 ≤ c) (hc : isB c = true) (r : List Int) : scan stepU [] (oneN c ++ r) = (scan stepU [] r).pre [c] (oneN c).length := by
  have hc := isB_iff.1 hc
  unfold oneN
  split
  · rename_i h
    have e : stepU [] c = some ([], [c]) := by simp [stepU, okq, needN, h, nth, numU]
    simp only [List.cons_append, List.nil_append]
    rw [scan_some _ e]; rfl
  · rename_i h
    split
    · rename_i h2
      have a1 : ¬ 192 + c / 64 < 128 := by omega
      have a2 : ¬ 192 + c / 64 < 194 := by omega
      have a3 : 192 + c / 64 < 224 := by omega
      have a4 : ¬ 192 + c / 64 = 224 := by omega
      have a5 : ¬ 192 + c / 64 = 240 := by omega
      have a6 : ¬ 192 + c / 64 = 237 := by omega
      have a7 : ¬ 192 + c / 64 = 244 := by omega
      have e1 : stepU [] (192 + c / 64) = some ([192 + c / 64], []) := by simp [stepU, okq, needN, a1, a2, a3, nth]
      have e2 : stepU [192 + c / 64] (128 + c % 64) = some ([], [c]) := by
        simp [stepU, okq, needN, a1, a2, a3, a4, a5, a6, a7, nth, loN, hiN, numU]; omega
      simp only [List.cons_append, List.nil_append]
      rw [scan_some _ e1, scan_some _ e2, Res.pre_pre]; rfl
    · rename_i h2
      split
      · rename_i h3
        have a1 : ¬ 224 + c / 4096 < 128 := by omega
        have a2 : ¬ 224 + c / 4096 < 194 := by omega
        have a3 : ¬ 224 + c / 4096 < 224 := by omega
        have a4 : 224 + c / 4096 < 240 := by omega
        have a5 : ¬ 224 + c / 4096 = 240 := by omega
        have a6 : ¬ 224 + c / 4096 = 244 := by omega
        have b1 : loN (224 + c / 4096) ≤ 128 + c / 64 % 64 := by unfold loN; (repeat' split) <;> omega
        have b2 : 128 + c / 64 % 64 ≤ hiN (224 + c / 4096) := by unfold hiN; (repeat' split) <;> omega
        have e1 : stepU [] (224 + c / 4096) = some ([224 + c / 4096], []) := by simp [stepU, okq, needN, a1, a2, a3, a4, nth]
        have e2 : stepU [224 + c / 4096] (128 + c / 64 % 64) = some ([224 + c / 4096, 128 + c / 64 % 64], []) := by
          simp [stepU, okq, needN, a1, a2, a3, a4, nth, b1, b2]
        have e3 : stepU [224 + c / 4096, 128 + c / 64 % 64] (128 + c % 64) = some ([], [c]) := by
          simp [stepU, okq, needN, a1, a2, a3, a4, nth, b1, b2, numU]; omega
        simp only [List.cons_append, List.nil_append]
        rw [scan_some _ e1, scan_some _ e2, scan_some _ e3, Res.pre_pre, Res.pre_pre]; rfl
      · rename_i h3
        have a1 : ¬ 240 + c / 262144 < 128 := by omega
        have a2 : ¬ 240 + c / 262144 < 194 := by omega
        have a3 : ¬ 240 + c / 262144 < 224 := by omega
        have a4 : ¬ 240 + c / 262144 < 240 := by omega
        have a5 : 240 + c / 262144 < 245 := by omega
        have b1 : loN (240 + c / 262144) ≤ 128 + c / 4096 % 64 := by unfold loN; (repeat' split) <;> omega
        have b2 : 128 + c / 4096 % 64 ≤ hiN (240 + c / 262144) := by unfold hiN; (repeat' split) <;> omega
        have e1 : stepU [] (240 + c / 262144) = some ([240 + c / 262144], []) := by simp [stepU, okq, needN, a1, a2, a3, a4, a5, nth]
        have e2 : stepU [240 + c / 262144] (128 + c / 4096 % 64) = some ([240 + c / 262144, 128 + c / 4096 % 64], []) := by
          simp [stepU, okq, needN, a1, a2, a3, a4, a5, nth, b1, b2]
        have e3 : stepU [240 + c / 262144, 128 + c / 4096 % 64] (128 + c / 64 % 64) = some ([240 + c / 262144, 128 + c / 4096 % 64, 128 + c / 64 % 64], []) := by
          simp [stepU, okq, needN, a1, a2, a3, a4, a5, nth, b1, b2]; omega
        have e4 : stepU [240 + c / 262144, 128 + c / 4096 % 64, 128 + c / 64 % 64] (128 + c % 64) = some ([], [c]) := by
          simp [stepU, okq, needN, a1, a2, a3, a4, a5, nth, b1, b2, numU]; omega
        simp only [List.cons_append, List.nil_append]
        rw [scan_some _ e1, scan_some _ e2, scan_some _ e3, scan_some _ e4, Res.pre_pre, Res.pre_pre, Res.pre_pre]; rfl
/-- Scalars' bytes are told as they were. -/
theorem scan_back (l : List Int) (h : ∀ c ∈ l, isB c = true ∧ 0 ≤ c) : scan stepU [] (bytesN l) = ⟨l, (bytesN l).length, [], false⟩ := by
  induction l with
  | nil => rfl
  | cons c r ih =>
    have hc := h c (by simp)
    rw [bytesN, scan_one c hc.2 hc.1, ih (fun x hx => h x (by simp [hx]))]
    simp [Res.pre]
theorem one_lt {c d : Int} (h0 : 0 ≤ c) (hd : d ≤ 1114111) (h : c < d) (x y : List Int) : cmpL (oneN c ++ x) (oneN d ++ y) = -1 := by
  unfold oneN
  repeat' split
  all_goals try (exfalso; omega)
  all_goals simp only [List.cons_append, List.nil_append, cmpL]
  all_goals repeat' split
  all_goals first | rfl | (exfalso; omega)
/-- Bytes compare as scalars do. -/
theorem cmp_bytes (l m : List Int) (hl : ∀ c ∈ l, isB c = true ∧ 0 ≤ c) (hm : ∀ c ∈ m, isB c = true ∧ 0 ≤ c) : cmpL (bytesN l) (bytesN m) = cmpL l m := by
  induction l generalizing m with
  | nil =>
    cases m with
    | nil => rfl
    | cons d s =>
      have h1 := oneN_length d; have h2 := sizeN_bd d
      cases ho : oneN d with
      | nil => rw [ho] at h1; simp at h1; omega
      | cons a r => simp [bytesN, ho, cmpL]
  | cons c r ih =>
    cases m with
    | nil =>
      have h1 := oneN_length c; have h2 := sizeN_bd c
      cases ho : oneN c with
      | nil => rw [ho] at h1; simp at h1; omega
      | cons a r => simp [bytesN, ho, cmpL]
    | cons d s =>
      have hc := hl c (by simp); have hd := hm d (by simp)
      have c1 := isB_iff.1 hc.1; have d1 := isB_iff.1 hd.1
      simp only [bytesN]
      rcases Int.lt_trichotomy c d with h | rfl | h
      · rw [one_lt hc.2 d1.1 h]; simp [cmpL, h]
      · rw [cmpL_front, ih s (fun x hx => hl x (by simp [hx])) (fun x hx => hm x (by simp [hx]))]
        simp [cmpL]
      · rw [cmpL_turn, one_lt hd.2 c1.1 h]
        have : ¬ c < d := by omega
        simp [cmpL, this, h]
end Go.Proofs.YtknebngapfakjaaDoor.U8
