/-
  The least scalar whose bytes begin in a given way: how many bytes it takes, that they begin so, and that it is the number of a whole. Plain facts; no Go text is named here; no condition.
-/
import Derived.Test.YtknebngapfakjaaDoorU8Beg
namespace Go.Proofs.YtknebngapfakjaaDoor
namespace U8
open Bas Sca Stp Scn
set_option linter.unusedVariables false
set_option linter.unusedSimpArgs false

theorem one2 {x : Int} (h : 128 ≤ x) (h2 : x < 2048) : oneN x = [192 + x / 64, 128 + x % 64] ∧ sizeN x = 2 := by
  have a : ¬ x < 128 := by omega
  simp [oneN, sizeN, a, h2]
theorem one3 {x : Int} (h : 2048 ≤ x) (h2 : x < 65536) : oneN x = [224 + x / 4096, 128 + x / 64 % 64, 128 + x % 64] ∧ sizeN x = 3 := by
  have a : ¬ x < 128 := by omega
  have b : ¬ x < 2048 := by omega
  simp [oneN, sizeN, a, b, h2]
theorem one4 {x : Int} (h : 65536 ≤ x) : oneN x = [240 + x / 262144, 128 + x / 4096 % 64, 128 + x / 64 % 64, 128 + x % 64] ∧ sizeN x = 4 := by
  have a : ¬ x < 128 := by omega
  have b : ¬ x < 2048 := by omega
  have c : ¬ x < 65536 := by omega
  simp [oneN, sizeN, a, b, c]
/-- What is known of the least one. -/
def LeastOk (q : List Int) (x : Int) (n : Nat) : Prop := sizeN x = n ∧ (oneN x).take q.length = q ∧ (q.length = n → x = numU q) ∧ isB x = true ∧ 0 ≤ x

theorem least11 {a : Int} (h0 : 0 ≤ a) (h1 : a < 128) : LeastOk [a] (someLo (lowQ 1 [a]) 1) 1 := by
  have hl := lo_hi a
  have e1 : lowQ 1 [a] = a := by simp [lowQ, xx, nth]
  rw [e1, some_lo1]
  clear e1
  obtain ⟨x, hx⟩ : ∃ x : Int, x = (if (a : Int) < 0 then 0 else a) := ⟨_, rfl⟩
  rw [← hx]
  have hx2 : x = a ∨ (x = 0 ∧ a < 0) := by
    split at hx
    · exact .inr ⟨hx, by assumption⟩
    · exact .inl hx
  have hx3 : ¬ (a < x) ∨ True := .inr trivial
  have hge : 0 ≤ x := by
    split at hx <;> omega
  clear hx hx3
  rw [if_neg (show ¬ (55296 ≤ x ∧ x ≤ 57343) by omega)]
  have hx4 : x = a := by omega
  subst hx4
  exact ⟨by simp [sizeN, h1], by simp [oneN, h1], fun _ => rfl, isB_true (by omega), h0⟩

theorem least21 {a : Int} (h0 : 194 ≤ a) (h1 : a < 224) : LeastOk [a] (someLo (lowQ 2 [a]) 2) 2 := by
  have hl := lo_hi a
  have e1 : lowQ 2 [a] = (a - 192) * 64 := by simp [lowQ, xx, nth]
  rw [e1, some_lo2]
  clear e1
  obtain ⟨x, hx⟩ : ∃ x : Int, x = (if ((a - 192) * 64 : Int) < 128 then 128 else (a - 192) * 64) := ⟨_, rfl⟩
  rw [← hx]
  have hx2 : x = (a - 192) * 64 ∨ (x = 128 ∧ (a - 192) * 64 < 128) := by
    split at hx
    · exact .inr ⟨hx, by assumption⟩
    · exact .inl hx
  have hx3 : ¬ ((a - 192) * 64 < x) ∨ True := .inr trivial
  have hge : 128 ≤ x := by
    split at hx <;> omega
  clear hx hx3
  rw [if_neg (show ¬ (55296 ≤ x ∧ x ≤ 57343) by omega)]
  obtain ⟨o1, o2⟩ := one2 hge (by omega)
  refine ⟨o2, ?_, ?_, isB_true (by omega), by omega⟩
  · rw [o1]; simp; omega
  · intro hl2; simp [numU] at hl2 ⊢

theorem least22 {a b : Int} (h0 : 194 ≤ a) (h1 : a < 224) (hb : loN a ≤ b ∧ b ≤ hiN a) : LeastOk [a, b] (someLo (lowQ 2 [a, b]) 2) 2 := by
  have hl := lo_hi a
  have e1 : lowQ 2 [a, b] = (a - 192) * 64 + (b - 128) := by simp [lowQ, xx, nth]
  rw [e1, some_lo2]
  clear e1
  obtain ⟨x, hx⟩ : ∃ x : Int, x = (if ((a - 192) * 64 + (b - 128) : Int) < 128 then 128 else (a - 192) * 64 + (b - 128)) := ⟨_, rfl⟩
  rw [← hx]
  have hx2 : x = (a - 192) * 64 + (b - 128) ∨ (x = 128 ∧ (a - 192) * 64 + (b - 128) < 128) := by
    split at hx
    · exact .inr ⟨hx, by assumption⟩
    · exact .inl hx
  have hx3 : ¬ ((a - 192) * 64 + (b - 128) < x) ∨ True := .inr trivial
  have hge : 128 ≤ x := by
    split at hx <;> omega
  clear hx hx3
  rw [if_neg (show ¬ (55296 ≤ x ∧ x ≤ 57343) by omega)]
  obtain ⟨o1, o2⟩ := one2 hge (by omega)
  refine ⟨o2, ?_, ?_, isB_true (by omega), by omega⟩
  · rw [o1]; simp; omega
  · intro hl2; simp [numU] at hl2 ⊢; omega

theorem least31 {a : Int} (h0 : 224 ≤ a) (h1 : a < 240) : LeastOk [a] (someLo (lowQ 3 [a]) 3) 3 := by
  have hl := lo_hi a
  have e1 : lowQ 3 [a] = ((a - 224) * 64) * 64 := by simp [lowQ, xx, nth]
  rw [e1, some_lo3]
  clear e1
  obtain ⟨x, hx⟩ : ∃ x : Int, x = (if (((a - 224) * 64) * 64 : Int) < 2048 then 2048 else ((a - 224) * 64) * 64) := ⟨_, rfl⟩
  rw [← hx]
  have hx2 : x = ((a - 224) * 64) * 64 ∨ (x = 2048 ∧ ((a - 224) * 64) * 64 < 2048) := by
    split at hx
    · exact .inr ⟨hx, by assumption⟩
    · exact .inl hx
  have hx3 : ¬ (((a - 224) * 64) * 64 < x) ∨ True := .inr trivial
  have hge : 2048 ≤ x := by
    split at hx <;> omega
  clear hx hx3
  rw [if_neg (show ¬ (55296 ≤ x ∧ x ≤ 57343) by omega)]
  obtain ⟨o1, o2⟩ := one3 hge (by omega)
  refine ⟨o2, ?_, ?_, isB_true (by omega), by omega⟩
  · rw [o1]; simp; omega
  · intro hl2; simp [numU] at hl2 ⊢

theorem least32 {a b : Int} (h0 : 224 ≤ a) (h1 : a < 240) (hb : loN a ≤ b ∧ b ≤ hiN a) : LeastOk [a, b] (someLo (lowQ 3 [a, b]) 3) 3 := by
  have hl := lo_hi a
  have e1 : lowQ 3 [a, b] = ((a - 224) * 64 + (b - 128)) * 64 := by simp [lowQ, xx, nth]
  rw [e1, some_lo3]
  clear e1
  obtain ⟨x, hx⟩ : ∃ x : Int, x = (if (((a - 224) * 64 + (b - 128)) * 64 : Int) < 2048 then 2048 else ((a - 224) * 64 + (b - 128)) * 64) := ⟨_, rfl⟩
  rw [← hx]
  have hx2 : x = ((a - 224) * 64 + (b - 128)) * 64 ∨ (x = 2048 ∧ ((a - 224) * 64 + (b - 128)) * 64 < 2048) := by
    split at hx
    · exact .inr ⟨hx, by assumption⟩
    · exact .inl hx
  have hx3 : ¬ (((a - 224) * 64 + (b - 128)) * 64 < x) ∨ True := .inr trivial
  have hge : 2048 ≤ x := by
    split at hx <;> omega
  clear hx hx3
  rw [if_neg (show ¬ (55296 ≤ x ∧ x ≤ 57343) by omega)]
  obtain ⟨o1, o2⟩ := one3 hge (by omega)
  refine ⟨o2, ?_, ?_, isB_true (by omega), by omega⟩
  · rw [o1]; simp; omega
  · intro hl2; simp [numU] at hl2 ⊢

theorem least33 {a b c : Int} (h0 : 224 ≤ a) (h1 : a < 240) (hb : loN a ≤ b ∧ b ≤ hiN a) (hc : 128 ≤ c ∧ c ≤ 191) : LeastOk [a, b, c] (someLo (lowQ 3 [a, b, c]) 3) 3 := by
  have hl := lo_hi a
  have e1 : lowQ 3 [a, b, c] = ((a - 224) * 64 + (b - 128)) * 64 + (c - 128) := by simp [lowQ, xx, nth]
  rw [e1, some_lo3]
  clear e1
  obtain ⟨x, hx⟩ : ∃ x : Int, x = (if (((a - 224) * 64 + (b - 128)) * 64 + (c - 128) : Int) < 2048 then 2048 else ((a - 224) * 64 + (b - 128)) * 64 + (c - 128)) := ⟨_, rfl⟩
  rw [← hx]
  have hx2 : x = ((a - 224) * 64 + (b - 128)) * 64 + (c - 128) ∨ (x = 2048 ∧ ((a - 224) * 64 + (b - 128)) * 64 + (c - 128) < 2048) := by
    split at hx
    · exact .inr ⟨hx, by assumption⟩
    · exact .inl hx
  have hx3 : ¬ (((a - 224) * 64 + (b - 128)) * 64 + (c - 128) < x) ∨ True := .inr trivial
  have hge : 2048 ≤ x := by
    split at hx <;> omega
  clear hx hx3
  rw [if_neg (show ¬ (55296 ≤ x ∧ x ≤ 57343) by omega)]
  obtain ⟨o1, o2⟩ := one3 hge (by omega)
  refine ⟨o2, ?_, ?_, isB_true (by omega), by omega⟩
  · rw [o1]; simp; omega
  · intro hl2; simp [numU] at hl2 ⊢; omega

theorem least41 {a : Int} (h0 : 240 ≤ a) (h1 : a < 245) : LeastOk [a] (someLo (lowQ 4 [a]) 4) 4 := by
  have hl := lo_hi a
  have e1 : lowQ 4 [a] = (((a - 240) * 64) * 64) * 64 := by simp [lowQ, xx, nth]
  rw [e1, some_lo4]
  clear e1
  obtain ⟨x, hx⟩ : ∃ x : Int, x = (if ((((a - 240) * 64) * 64) * 64 : Int) < 65536 then 65536 else (((a - 240) * 64) * 64) * 64) := ⟨_, rfl⟩
  rw [← hx]
  have hx2 : x = (((a - 240) * 64) * 64) * 64 ∨ (x = 65536 ∧ (((a - 240) * 64) * 64) * 64 < 65536) := by
    split at hx
    · exact .inr ⟨hx, by assumption⟩
    · exact .inl hx
  have hx3 : ¬ ((((a - 240) * 64) * 64) * 64 < x) ∨ True := .inr trivial
  have hge : 65536 ≤ x := by
    split at hx <;> omega
  clear hx hx3
  rw [if_neg (show ¬ (55296 ≤ x ∧ x ≤ 57343) by omega)]
  obtain ⟨o1, o2⟩ := one4 hge
  refine ⟨o2, ?_, ?_, isB_true (by omega), by omega⟩
  · rw [o1]; simp; omega
  · intro hl2; simp [numU] at hl2 ⊢

theorem least42 {a b : Int} (h0 : 240 ≤ a) (h1 : a < 245) (hb : loN a ≤ b ∧ b ≤ hiN a) : LeastOk [a, b] (someLo (lowQ 4 [a, b]) 4) 4 := by
  have hl := lo_hi a
  have e1 : lowQ 4 [a, b] = (((a - 240) * 64 + (b - 128)) * 64) * 64 := by simp [lowQ, xx, nth]
  rw [e1, some_lo4]
  clear e1
  obtain ⟨x, hx⟩ : ∃ x : Int, x = (if ((((a - 240) * 64 + (b - 128)) * 64) * 64 : Int) < 65536 then 65536 else (((a - 240) * 64 + (b - 128)) * 64) * 64) := ⟨_, rfl⟩
  rw [← hx]
  have hx2 : x = (((a - 240) * 64 + (b - 128)) * 64) * 64 ∨ (x = 65536 ∧ (((a - 240) * 64 + (b - 128)) * 64) * 64 < 65536) := by
    split at hx
    · exact .inr ⟨hx, by assumption⟩
    · exact .inl hx
  have hx3 : ¬ ((((a - 240) * 64 + (b - 128)) * 64) * 64 < x) ∨ True := .inr trivial
  have hge : 65536 ≤ x := by
    split at hx <;> omega
  clear hx hx3
  rw [if_neg (show ¬ (55296 ≤ x ∧ x ≤ 57343) by omega)]
  obtain ⟨o1, o2⟩ := one4 hge
  refine ⟨o2, ?_, ?_, isB_true (by omega), by omega⟩
  · rw [o1]; simp; omega
  · intro hl2; simp [numU] at hl2 ⊢

theorem least43 {a b c : Int} (h0 : 240 ≤ a) (h1 : a < 245) (hb : loN a ≤ b ∧ b ≤ hiN a) (hc : 128 ≤ c ∧ c ≤ 191) : LeastOk [a, b, c] (someLo (lowQ 4 [a, b, c]) 4) 4 := by
  have hl := lo_hi a
  have e1 : lowQ 4 [a, b, c] = (((a - 240) * 64 + (b - 128)) * 64 + (c - 128)) * 64 := by simp [lowQ, xx, nth]
  rw [e1, some_lo4]
  clear e1
  obtain ⟨x, hx⟩ : ∃ x : Int, x = (if ((((a - 240) * 64 + (b - 128)) * 64 + (c - 128)) * 64 : Int) < 65536 then 65536 else (((a - 240) * 64 + (b - 128)) * 64 + (c - 128)) * 64) := ⟨_, rfl⟩
  rw [← hx]
  have hx2 : x = (((a - 240) * 64 + (b - 128)) * 64 + (c - 128)) * 64 ∨ (x = 65536 ∧ (((a - 240) * 64 + (b - 128)) * 64 + (c - 128)) * 64 < 65536) := by
    split at hx
    · exact .inr ⟨hx, by assumption⟩
    · exact .inl hx
  have hx3 : ¬ ((((a - 240) * 64 + (b - 128)) * 64 + (c - 128)) * 64 < x) ∨ True := .inr trivial
  have hge : 65536 ≤ x := by
    split at hx <;> omega
  clear hx hx3
  rw [if_neg (show ¬ (55296 ≤ x ∧ x ≤ 57343) by omega)]
  obtain ⟨o1, o2⟩ := one4 hge
  refine ⟨o2, ?_, ?_, isB_true (by omega), by omega⟩
  · rw [o1]; simp; omega
  · intro hl2; simp [numU] at hl2 ⊢

theorem least44 {a b c d : Int} (h0 : 240 ≤ a) (h1 : a < 245) (hb : loN a ≤ b ∧ b ≤ hiN a) (hc : 128 ≤ c ∧ c ≤ 191) (hd : 128 ≤ d ∧ d ≤ 191) : LeastOk [a, b, c, d] (someLo (lowQ 4 [a, b, c, d]) 4) 4 := by
  have hl := lo_hi a
  have e1 : lowQ 4 [a, b, c, d] = (((a - 240) * 64 + (b - 128)) * 64 + (c - 128)) * 64 + (d - 128) := by simp [lowQ, xx, nth]
  rw [e1, some_lo4]
  clear e1
  obtain ⟨x, hx⟩ : ∃ x : Int, x = (if ((((a - 240) * 64 + (b - 128)) * 64 + (c - 128)) * 64 + (d - 128) : Int) < 65536 then 65536 else (((a - 240) * 64 + (b - 128)) * 64 + (c - 128)) * 64 + (d - 128)) := ⟨_, rfl⟩
  rw [← hx]
  have hx2 : x = (((a - 240) * 64 + (b - 128)) * 64 + (c - 128)) * 64 + (d - 128) ∨ (x = 65536 ∧ (((a - 240) * 64 + (b - 128)) * 64 + (c - 128)) * 64 + (d - 128) < 65536) := by
    split at hx
    · exact .inr ⟨hx, by assumption⟩
    · exact .inl hx
  have hx3 : ¬ ((((a - 240) * 64 + (b - 128)) * 64 + (c - 128)) * 64 + (d - 128) < x) ∨ True := .inr trivial
  have hge : 65536 ≤ x := by
    split at hx <;> omega
  clear hx hx3
  rw [if_neg (show ¬ (55296 ≤ x ∧ x ≤ 57343) by omega)]
  obtain ⟨o1, o2⟩ := one4 hge
  refine ⟨o2, ?_, ?_, isB_true (by omega), by omega⟩
  · rw [o1]; simp; omega
  · intro hl2; simp [numU] at hl2 ⊢; omega

theorem least_ok {q : List Int} (h : okq q = true) (h0 : 0 ≤ nth q 0) : LeastOk q (leastU q) (needN (nth q 0)) := by
  unfold leastU
  match q, h, h0 with
  | [a], h, h0 =>
    have hn := needN_of a
    have h0' : 0 ≤ a := h0
    simp [okq] at h
    rcases (show a < 128 ∨ (194 ≤ a ∧ a < 224) ∨ (224 ≤ a ∧ a < 240) ∨ (240 ≤ a ∧ a < 245) by omega) with c | c | c | c
    · rw [show needN (nth [a] 0) = 1 from hn.1 c]; exact least11 h0' c
    · rw [show needN (nth [a] 0) = 2 from hn.2.2.1 c.1 c.2]; exact least21 c.1 c.2
    · rw [show needN (nth [a] 0) = 3 from hn.2.2.2.1 c.1 c.2]; exact least31 c.1 c.2
    · rw [show needN (nth [a] 0) = 4 from hn.2.2.2.2.1 c.1 c.2]; exact least41 c.1 c.2
  | [a, b], h, h0 =>
    have hn := needN_of a
    simp [okq] at h
    rcases (show (194 ≤ a ∧ a < 224) ∨ (224 ≤ a ∧ a < 240) ∨ (240 ≤ a ∧ a < 245) by omega) with c | c | c
    · rw [show needN (nth [a, b] 0) = 2 from hn.2.2.1 c.1 c.2]; exact least22 c.1 c.2 h.2
    · rw [show needN (nth [a, b] 0) = 3 from hn.2.2.2.1 c.1 c.2]; exact least32 c.1 c.2 h.2
    · rw [show needN (nth [a, b] 0) = 4 from hn.2.2.2.2.1 c.1 c.2]; exact least42 c.1 c.2 h.2
  | [a, b, c], h, h0 =>
    have hn := needN_of a
    simp [okq] at h
    rcases (show (224 ≤ a ∧ a < 240) ∨ (240 ≤ a ∧ a < 245) by omega) with c' | c'
    · rw [show needN (nth [a, b, c] 0) = 3 from hn.2.2.2.1 c'.1 c'.2]; exact least33 c'.1 c'.2 h.1.2 h.2
    · rw [show needN (nth [a, b, c] 0) = 4 from hn.2.2.2.2.1 c'.1 c'.2]; exact least43 c'.1 c'.2 h.1.2 h.2
  | [a, b, c, d], h, h0 =>
    have hn := needN_of a
    simp [okq] at h
    have c' : 240 ≤ a ∧ a < 245 := by omega
    rw [show needN (nth [a, b, c, d] 0) = 4 from hn.2.2.2.2.1 c'.1 c'.2]; exact least44 c'.1 c'.2 h.1.1.2 h.1.2 h.2
end U8
end Go.Proofs.YtknebngapfakjaaDoor
