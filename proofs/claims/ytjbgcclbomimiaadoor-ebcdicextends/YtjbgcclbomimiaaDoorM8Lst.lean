/-
  The least scalar whose bytes begin in a given way: what row it is of, that its bytes begin so, that it is the number of a whole; and what the document's Begins reckons. Plain facts; no Go text is named here; no condition.
-/
import Derived.Test.YtjbgcclbomimiaaDoorM8Beg
namespace Go.Proofs.YtjbgcclbomimiaaDoor.M8
open Bas Scn Sca Cod
set_option linter.unusedVariables false
set_option linter.unusedSimpArgs false

/-- What is reckoned, place by place: the bytes that lack are the least ones, or the greatest ones. -/
def loR (q : List Int) : Nat → Int
  | 0 => nth q 0 - leadN (rowN q)
  | j + 1 => loR q j * 32 + (if j + 1 < q.length then nth q (j + 1) - 160 else 0)
def hiR (q : List Int) : Nat → Int
  | 0 => nth q 0 - leadN (rowN q)
  | j + 1 => hiR q j * 32 + (if j + 1 < q.length then nth q (j + 1) - 160 else 31)
theorem lo_all {q : List Int} (hq : q ≠ []) (hl : q.length ≤ rowN q + 1) : loR q (rowN q) = bitsN q * p32 (lackN q) ∧ hiR q (rowN q) = bitsN q * p32 (lackN q) + (p32 (lackN q) - 1) := by
  match q, hq, hl with
  | [a], _, hl =>
    have hle := rowB_le a
    have hl' : 1 ≤ rowB a + 1 := hl
    have hcs : rowB a = 0 ∨ rowB a = 1 ∨ rowB a = 2 ∨ rowB a = 3 ∨ rowB a = 4 := by omega
    rcases hcs with hr | hr | hr | hr | hr
    · simp [loR, hiR, nth, bitsN, goN, rowN, lackN, hr, p32, leadN]; try omega
    · simp [loR, hiR, nth, bitsN, goN, rowN, lackN, hr, p32, leadN]; try omega
    · simp [loR, hiR, nth, bitsN, goN, rowN, lackN, hr, p32, leadN]; try omega
    · simp [loR, hiR, nth, bitsN, goN, rowN, lackN, hr, p32, leadN]; try omega
    · simp [loR, hiR, nth, bitsN, goN, rowN, lackN, hr, p32, leadN]; try omega
  | [a, b], _, hl =>
    have hle := rowB_le a
    have hl' : 2 ≤ rowB a + 1 := hl
    have hcs : rowB a = 1 ∨ rowB a = 2 ∨ rowB a = 3 ∨ rowB a = 4 := by omega
    rcases hcs with hr | hr | hr | hr
    · simp [loR, hiR, nth, bitsN, goN, rowN, lackN, hr, p32, leadN]; try omega
    · simp [loR, hiR, nth, bitsN, goN, rowN, lackN, hr, p32, leadN]; try omega
    · simp [loR, hiR, nth, bitsN, goN, rowN, lackN, hr, p32, leadN]; try omega
    · simp [loR, hiR, nth, bitsN, goN, rowN, lackN, hr, p32, leadN]; try omega
  | [a, b, c], _, hl =>
    have hle := rowB_le a
    have hl' : 3 ≤ rowB a + 1 := hl
    have hcs : rowB a = 2 ∨ rowB a = 3 ∨ rowB a = 4 := by omega
    rcases hcs with hr | hr | hr
    · simp [loR, hiR, nth, bitsN, goN, rowN, lackN, hr, p32, leadN]; try omega
    · simp [loR, hiR, nth, bitsN, goN, rowN, lackN, hr, p32, leadN]; try omega
    · simp [loR, hiR, nth, bitsN, goN, rowN, lackN, hr, p32, leadN]; try omega
  | [a, b, c, d], _, hl =>
    have hle := rowB_le a
    have hl' : 4 ≤ rowB a + 1 := hl
    have hcs : rowB a = 3 ∨ rowB a = 4 := by omega
    rcases hcs with hr | hr
    · simp [loR, hiR, nth, bitsN, goN, rowN, lackN, hr, p32, leadN]; try omega
    · simp [loR, hiR, nth, bitsN, goN, rowN, lackN, hr, p32, leadN]; try omega
  | [a, b, c, d, e], _, hl =>
    have hle := rowB_le a
    have hl' : 5 ≤ rowB a + 1 := hl
    have hcs : rowB a = 4 := by omega
    have hr := hcs
    simp [loR, hiR, nth, bitsN, goN, rowN, lackN, hr, p32, leadN]; try omega
  | a :: b :: c :: d :: e :: f :: r, _, hl =>
    exfalso; have := rowN_le (a :: b :: c :: d :: e :: f :: r); simp only [List.length_cons] at hl; omega
/-- What a row holds, and one beyond. -/
def capN (r : Nat) : Int := if r = 0 then 160 else if r = 1 then 1024 else if r = 2 then 16384 else if r = 3 then 262144 else 4194304
set_option maxHeartbeats 2000000 in
theorem open_doc {r k : Nat} {m : Int} (hk : k ≤ r) (hr : r ≤ 4) (h0 : 0 ≤ m) (hc : m * p32 k + (p32 k - 1) < capN r) : openP m r k = decide (someLo (m * p32 k) (r + 1) ≤ someHi (m * p32 k + (p32 k - 1)) (r + 1)) := by
  rw [Bool.eq_iff_iff, open_iff, decide_eq_true_eq]
  have hi := rowC_iff (m * p32 k + (p32 k - 1))
  have hcs : r = 0 ∨ r = 1 ∨ r = 2 ∨ r = 3 ∨ r = 4 := by clear hi hc; omega
  rcases hcs with rfl | rfl | rfl | rfl | rfl
  · have hcs : k = 0 := by clear hi hc; omega
    obtain rfl := hcs
    have e : p32 0 = 1 := rfl
    have ec : capN 0 = 160 := rfl
    rw [e] at hi hc ⊢
    rw [ec] at hc
    rw [some_lo1, some_hi1]
    (repeat' split) <;> omega
  · have hcs : k = 0 ∨ k = 1 := by clear hi hc; omega
    rcases hcs with rfl | rfl
    · have e : p32 0 = 1 := rfl
      have ec : capN 1 = 1024 := rfl
      rw [e] at hi hc ⊢
      rw [ec] at hc
      rw [some_lo2, some_hi2]
      (repeat' split) <;> omega
    · have e : p32 1 = 32 := rfl
      have ec : capN 1 = 1024 := rfl
      rw [e] at hi hc ⊢
      rw [ec] at hc
      rw [some_lo2, some_hi2]
      (repeat' split) <;> omega
  · have hcs : k = 0 ∨ k = 1 ∨ k = 2 := by clear hi hc; omega
    rcases hcs with rfl | rfl | rfl
    · have e : p32 0 = 1 := rfl
      have ec : capN 2 = 16384 := rfl
      rw [e] at hi hc ⊢
      rw [ec] at hc
      rw [some_lo3, some_hi3]
      (repeat' split) <;> omega
    · have e : p32 1 = 32 := rfl
      have ec : capN 2 = 16384 := rfl
      rw [e] at hi hc ⊢
      rw [ec] at hc
      rw [some_lo3, some_hi3]
      (repeat' split) <;> omega
    · have e : p32 2 = 1024 := rfl
      have ec : capN 2 = 16384 := rfl
      rw [e] at hi hc ⊢
      rw [ec] at hc
      rw [some_lo3, some_hi3]
      (repeat' split) <;> omega
  · have hcs : k = 0 ∨ k = 1 ∨ k = 2 ∨ k = 3 := by clear hi hc; omega
    rcases hcs with rfl | rfl | rfl | rfl
    · have e : p32 0 = 1 := rfl
      have ec : capN 3 = 262144 := rfl
      rw [e] at hi hc ⊢
      rw [ec] at hc
      rw [some_lo4, some_hi4]
      (repeat' split) <;> omega
    · have e : p32 1 = 32 := rfl
      have ec : capN 3 = 262144 := rfl
      rw [e] at hi hc ⊢
      rw [ec] at hc
      rw [some_lo4, some_hi4]
      (repeat' split) <;> omega
    · have e : p32 2 = 1024 := rfl
      have ec : capN 3 = 262144 := rfl
      rw [e] at hi hc ⊢
      rw [ec] at hc
      rw [some_lo4, some_hi4]
      (repeat' split) <;> omega
    · have e : p32 3 = 32768 := rfl
      have ec : capN 3 = 262144 := rfl
      rw [e] at hi hc ⊢
      rw [ec] at hc
      rw [some_lo4, some_hi4]
      (repeat' split) <;> omega
  · have hcs : k = 0 ∨ k = 1 ∨ k = 2 ∨ k = 3 ∨ k = 4 := by clear hi hc; omega
    rcases hcs with rfl | rfl | rfl | rfl | rfl
    · have e : p32 0 = 1 := rfl
      have ec : capN 4 = 4194304 := rfl
      rw [e] at hi hc ⊢
      rw [ec] at hc
      rw [some_lo5, some_hi5]
      (repeat' split) <;> omega
    · have e : p32 1 = 32 := rfl
      have ec : capN 4 = 4194304 := rfl
      rw [e] at hi hc ⊢
      rw [ec] at hc
      rw [some_lo5, some_hi5]
      (repeat' split) <;> omega
    · have e : p32 2 = 1024 := rfl
      have ec : capN 4 = 4194304 := rfl
      rw [e] at hi hc ⊢
      rw [ec] at hc
      rw [some_lo5, some_hi5]
      (repeat' split) <;> omega
    · have e : p32 3 = 32768 := rfl
      have ec : capN 4 = 4194304 := rfl
      rw [e] at hi hc ⊢
      rw [ec] at hc
      rw [some_lo5, some_hi5]
      (repeat' split) <;> omega
    · have e : p32 4 = 1048576 := rfl
      have ec : capN 4 = 4194304 := rfl
      rw [e] at hi hc ⊢
      rw [ec] at hc
      rw [some_lo5, some_hi5]
      (repeat' split) <;> omega
set_option maxHeartbeats 2000000 in
/-- The least one of a beginning. -/
theorem least_of {r k : Nat} {m : Int} (hk : k ≤ r) (hr : r ≤ 4) (h0 : 0 ≤ m) (hc : m * p32 k + (p32 k - 1) < capN r) (ho : openP m r k = true) : rowC (someLo (m * p32 k) (r + 1)) = r ∧ isB (someLo (m * p32 k) (r + 1)) = true ∧ 0 ≤ someLo (m * p32 k) (r + 1) ∧ someLo (m * p32 k) (r + 1) / p32 k = m := by
  obtain ⟨x, hx⟩ : ∃ x, someLo (m * p32 k) (r + 1) = x := ⟨_, rfl⟩
  rw [hx, isB_iff]
  rw [open_iff] at ho
  have hi := rowC_iff (m * p32 k + (p32 k - 1))
  have hj := rowC_iff x
  have hcs : r = 0 ∨ r = 1 ∨ r = 2 ∨ r = 3 ∨ r = 4 := by clear hi hj hx ho hc; omega
  rcases hcs with rfl | rfl | rfl | rfl | rfl
  · have hcs : k = 0 := by clear hi hj hx ho hc; omega
    obtain rfl := hcs
    have e : p32 0 = 1 := rfl
    have ec : capN 0 = 160 := rfl
    rw [e] at hi hc ho hx ⊢
    rw [ec] at hc
    rw [some_lo1] at hx
    (repeat' split at hx) <;> omega
  · have hcs : k = 0 ∨ k = 1 := by clear hi hj hx ho hc; omega
    rcases hcs with rfl | rfl
    · have e : p32 0 = 1 := rfl
      have ec : capN 1 = 1024 := rfl
      rw [e] at hi hc ho hx ⊢
      rw [ec] at hc
      rw [some_lo2] at hx
      (repeat' split at hx) <;> omega
    · have e : p32 1 = 32 := rfl
      have ec : capN 1 = 1024 := rfl
      rw [e] at hi hc ho hx ⊢
      rw [ec] at hc
      rw [some_lo2] at hx
      (repeat' split at hx) <;> omega
  · have hcs : k = 0 ∨ k = 1 ∨ k = 2 := by clear hi hj hx ho hc; omega
    rcases hcs with rfl | rfl | rfl
    · have e : p32 0 = 1 := rfl
      have ec : capN 2 = 16384 := rfl
      rw [e] at hi hc ho hx ⊢
      rw [ec] at hc
      rw [some_lo3] at hx
      (repeat' split at hx) <;> omega
    · have e : p32 1 = 32 := rfl
      have ec : capN 2 = 16384 := rfl
      rw [e] at hi hc ho hx ⊢
      rw [ec] at hc
      rw [some_lo3] at hx
      (repeat' split at hx) <;> omega
    · have e : p32 2 = 1024 := rfl
      have ec : capN 2 = 16384 := rfl
      rw [e] at hi hc ho hx ⊢
      rw [ec] at hc
      rw [some_lo3] at hx
      (repeat' split at hx) <;> omega
  · have hcs : k = 0 ∨ k = 1 ∨ k = 2 ∨ k = 3 := by clear hi hj hx ho hc; omega
    rcases hcs with rfl | rfl | rfl | rfl
    · have e : p32 0 = 1 := rfl
      have ec : capN 3 = 262144 := rfl
      rw [e] at hi hc ho hx ⊢
      rw [ec] at hc
      rw [some_lo4] at hx
      (repeat' split at hx) <;> omega
    · have e : p32 1 = 32 := rfl
      have ec : capN 3 = 262144 := rfl
      rw [e] at hi hc ho hx ⊢
      rw [ec] at hc
      rw [some_lo4] at hx
      (repeat' split at hx) <;> omega
    · have e : p32 2 = 1024 := rfl
      have ec : capN 3 = 262144 := rfl
      rw [e] at hi hc ho hx ⊢
      rw [ec] at hc
      rw [some_lo4] at hx
      (repeat' split at hx) <;> omega
    · have e : p32 3 = 32768 := rfl
      have ec : capN 3 = 262144 := rfl
      rw [e] at hi hc ho hx ⊢
      rw [ec] at hc
      rw [some_lo4] at hx
      (repeat' split at hx) <;> omega
  · have hcs : k = 0 ∨ k = 1 ∨ k = 2 ∨ k = 3 ∨ k = 4 := by clear hi hj hx ho hc; omega
    rcases hcs with rfl | rfl | rfl | rfl | rfl
    · have e : p32 0 = 1 := rfl
      have ec : capN 4 = 4194304 := rfl
      rw [e] at hi hc ho hx ⊢
      rw [ec] at hc
      rw [some_lo5] at hx
      (repeat' split at hx) <;> omega
    · have e : p32 1 = 32 := rfl
      have ec : capN 4 = 4194304 := rfl
      rw [e] at hi hc ho hx ⊢
      rw [ec] at hc
      rw [some_lo5] at hx
      (repeat' split at hx) <;> omega
    · have e : p32 2 = 1024 := rfl
      have ec : capN 4 = 4194304 := rfl
      rw [e] at hi hc ho hx ⊢
      rw [ec] at hc
      rw [some_lo5] at hx
      (repeat' split at hx) <;> omega
    · have e : p32 3 = 32768 := rfl
      have ec : capN 4 = 4194304 := rfl
      rw [e] at hi hc ho hx ⊢
      rw [ec] at hc
      rw [some_lo5] at hx
      (repeat' split at hx) <;> omega
    · have e : p32 4 = 1048576 := rfl
      have ec : capN 4 = 4194304 := rfl
      rw [e] at hi hc ho hx ⊢
      rw [ec] at hc
      rw [some_lo5] at hx
      (repeat' split at hx) <;> omega
/-- Its bytes begin so. -/
theorem take_one {π : Par} {q : List Int} {c : Int} (hq : q ≠ []) (hl : q.length ≤ rowN q + 1) (hc : rowC c = rowN q) (h0 : 0 ≤ c) (hd : c / p32 (lackN q) = bitsN q) (ht : ∀ x ∈ q.tail, 160 ≤ x ∧ x ≤ 191) : (oneN π c).take q.length = q := by
  have hj := rowC_iff c
  match q, hq, hl with
  | [a], _, hl =>
    have hle := rowB_le a
    have hl' : 1 ≤ rowB a + 1 := hl
    have hc' : rowC c = rowB a := hc
    have hk : lackN [a] = rowB a - 0 := rfl
    have hcs : rowB a = 0 ∨ rowB a = 1 ∨ rowB a = 2 ∨ rowB a = 3 ∨ rowB a = 4 := by omega
    rcases hcs with hr | hr | hr | hr | hr
    · rw [hr] at hk hc'
      rw [hk, bits_as hr] at hd
      have ep : p32 (0 - 0) = 1 := rfl
      have el : leadN 0 = 0 := rfl
      rw [ep, el] at hd
      simp only [goN] at hd
      simp only [oneN, if_pos (show c < 160 by omega), List.length_cons, List.length_nil, List.take_succ_cons, List.take_zero, Nat.zero_add, Nat.reduceAdd, List.cons.injEq, and_true]
      omega
    · rw [hr] at hk hc'
      rw [hk, bits_as hr] at hd
      have ep : p32 (1 - 0) = 32 := rfl
      have el : leadN 1 = 192 := rfl
      rw [ep, el] at hd
      simp only [goN] at hd
      simp only [oneN, if_neg (show ¬ c < 160 by omega), if_pos (show c < 1024 by omega), List.length_cons, List.length_nil, List.take_succ_cons, List.take_zero, Nat.zero_add, Nat.reduceAdd, List.cons.injEq, and_true]
      omega
    · rw [hr] at hk hc'
      rw [hk, bits_as hr] at hd
      have ep : p32 (2 - 0) = 1024 := rfl
      have el : leadN 2 = 224 := rfl
      rw [ep, el] at hd
      simp only [goN] at hd
      simp only [oneN, if_neg (show ¬ c < 160 by omega), if_neg (show ¬ c < 1024 by omega), if_pos (show c < 16384 by omega), List.length_cons, List.length_nil, List.take_succ_cons, List.take_zero, Nat.zero_add, Nat.reduceAdd, List.cons.injEq, and_true]
      omega
    · rw [hr] at hk hc'
      rw [hk, bits_as hr] at hd
      have ep : p32 (3 - 0) = 32768 := rfl
      have el : leadN 3 = 240 := rfl
      rw [ep, el] at hd
      simp only [goN] at hd
      simp only [oneN, if_neg (show ¬ c < 160 by omega), if_neg (show ¬ c < 1024 by omega), if_neg (show ¬ c < 16384 by omega), if_pos (show c < 262144 by omega), List.length_cons, List.length_nil, List.take_succ_cons, List.take_zero, Nat.zero_add, Nat.reduceAdd, List.cons.injEq, and_true]
      omega
    · rw [hr] at hk hc'
      rw [hk, bits_as hr] at hd
      have ep : p32 (4 - 0) = 1048576 := rfl
      have el : leadN 4 = 248 := rfl
      rw [ep, el] at hd
      simp only [goN] at hd
      simp only [oneN, if_neg (show ¬ c < 160 by omega), if_neg (show ¬ c < 1024 by omega), if_neg (show ¬ c < 16384 by omega), if_neg (show ¬ c < 262144 by omega), List.length_cons, List.length_nil, List.take_succ_cons, List.take_zero, Nat.zero_add, Nat.reduceAdd, List.cons.injEq, and_true]
      omega
  | [a, b], _, hl =>
    have hle := rowB_le a
    have hl' : 2 ≤ rowB a + 1 := hl
    have hc' : rowC c = rowB a := hc
    have hk : lackN [a, b] = rowB a - 1 := rfl
    have h_b := ht b (by simp)
    have hcs : rowB a = 1 ∨ rowB a = 2 ∨ rowB a = 3 ∨ rowB a = 4 := by omega
    rcases hcs with hr | hr | hr | hr
    · rw [hr] at hk hc'
      rw [hk, bits_as hr] at hd
      have ep : p32 (1 - 1) = 1 := rfl
      have el : leadN 1 = 192 := rfl
      rw [ep, el] at hd
      simp only [goN] at hd
      simp only [oneN, if_neg (show ¬ c < 160 by omega), if_pos (show c < 1024 by omega), List.length_cons, List.length_nil, List.take_succ_cons, List.take_zero, Nat.zero_add, Nat.reduceAdd, List.cons.injEq, and_true]
      omega
    · rw [hr] at hk hc'
      rw [hk, bits_as hr] at hd
      have ep : p32 (2 - 1) = 32 := rfl
      have el : leadN 2 = 224 := rfl
      rw [ep, el] at hd
      simp only [goN] at hd
      simp only [oneN, if_neg (show ¬ c < 160 by omega), if_neg (show ¬ c < 1024 by omega), if_pos (show c < 16384 by omega), List.length_cons, List.length_nil, List.take_succ_cons, List.take_zero, Nat.zero_add, Nat.reduceAdd, List.cons.injEq, and_true]
      omega
    · rw [hr] at hk hc'
      rw [hk, bits_as hr] at hd
      have ep : p32 (3 - 1) = 1024 := rfl
      have el : leadN 3 = 240 := rfl
      rw [ep, el] at hd
      simp only [goN] at hd
      simp only [oneN, if_neg (show ¬ c < 160 by omega), if_neg (show ¬ c < 1024 by omega), if_neg (show ¬ c < 16384 by omega), if_pos (show c < 262144 by omega), List.length_cons, List.length_nil, List.take_succ_cons, List.take_zero, Nat.zero_add, Nat.reduceAdd, List.cons.injEq, and_true]
      omega
    · rw [hr] at hk hc'
      rw [hk, bits_as hr] at hd
      have ep : p32 (4 - 1) = 32768 := rfl
      have el : leadN 4 = 248 := rfl
      rw [ep, el] at hd
      simp only [goN] at hd
      simp only [oneN, if_neg (show ¬ c < 160 by omega), if_neg (show ¬ c < 1024 by omega), if_neg (show ¬ c < 16384 by omega), if_neg (show ¬ c < 262144 by omega), List.length_cons, List.length_nil, List.take_succ_cons, List.take_zero, Nat.zero_add, Nat.reduceAdd, List.cons.injEq, and_true]
      omega
  | [a, b, g], _, hl =>
    have hle := rowB_le a
    have hl' : 3 ≤ rowB a + 1 := hl
    have hc' : rowC c = rowB a := hc
    have hk : lackN [a, b, g] = rowB a - 2 := rfl
    have h_b := ht b (by simp)
    have h_g := ht g (by simp)
    have hcs : rowB a = 2 ∨ rowB a = 3 ∨ rowB a = 4 := by omega
    rcases hcs with hr | hr | hr
    · rw [hr] at hk hc'
      rw [hk, bits_as hr] at hd
      have ep : p32 (2 - 2) = 1 := rfl
      have el : leadN 2 = 224 := rfl
      rw [ep, el] at hd
      simp only [goN] at hd
      simp only [oneN, if_neg (show ¬ c < 160 by omega), if_neg (show ¬ c < 1024 by omega), if_pos (show c < 16384 by omega), List.length_cons, List.length_nil, List.take_succ_cons, List.take_zero, Nat.zero_add, Nat.reduceAdd, List.cons.injEq, and_true]
      omega
    · rw [hr] at hk hc'
      rw [hk, bits_as hr] at hd
      have ep : p32 (3 - 2) = 32 := rfl
      have el : leadN 3 = 240 := rfl
      rw [ep, el] at hd
      simp only [goN] at hd
      simp only [oneN, if_neg (show ¬ c < 160 by omega), if_neg (show ¬ c < 1024 by omega), if_neg (show ¬ c < 16384 by omega), if_pos (show c < 262144 by omega), List.length_cons, List.length_nil, List.take_succ_cons, List.take_zero, Nat.zero_add, Nat.reduceAdd, List.cons.injEq, and_true]
      omega
    · rw [hr] at hk hc'
      rw [hk, bits_as hr] at hd
      have ep : p32 (4 - 2) = 1024 := rfl
      have el : leadN 4 = 248 := rfl
      rw [ep, el] at hd
      simp only [goN] at hd
      simp only [oneN, if_neg (show ¬ c < 160 by omega), if_neg (show ¬ c < 1024 by omega), if_neg (show ¬ c < 16384 by omega), if_neg (show ¬ c < 262144 by omega), List.length_cons, List.length_nil, List.take_succ_cons, List.take_zero, Nat.zero_add, Nat.reduceAdd, List.cons.injEq, and_true]
      omega
  | [a, b, g, d], _, hl =>
    have hle := rowB_le a
    have hl' : 4 ≤ rowB a + 1 := hl
    have hc' : rowC c = rowB a := hc
    have hk : lackN [a, b, g, d] = rowB a - 3 := rfl
    have h_b := ht b (by simp)
    have h_g := ht g (by simp)
    have h_d := ht d (by simp)
    have hcs : rowB a = 3 ∨ rowB a = 4 := by omega
    rcases hcs with hr | hr
    · rw [hr] at hk hc'
      rw [hk, bits_as hr] at hd
      have ep : p32 (3 - 3) = 1 := rfl
      have el : leadN 3 = 240 := rfl
      rw [ep, el] at hd
      simp only [goN] at hd
      simp only [oneN, if_neg (show ¬ c < 160 by omega), if_neg (show ¬ c < 1024 by omega), if_neg (show ¬ c < 16384 by omega), if_pos (show c < 262144 by omega), List.length_cons, List.length_nil, List.take_succ_cons, List.take_zero, Nat.zero_add, Nat.reduceAdd, List.cons.injEq, and_true]
      omega
    · rw [hr] at hk hc'
      rw [hk, bits_as hr] at hd
      have ep : p32 (4 - 3) = 32 := rfl
      have el : leadN 4 = 248 := rfl
      rw [ep, el] at hd
      simp only [goN] at hd
      simp only [oneN, if_neg (show ¬ c < 160 by omega), if_neg (show ¬ c < 1024 by omega), if_neg (show ¬ c < 16384 by omega), if_neg (show ¬ c < 262144 by omega), List.length_cons, List.length_nil, List.take_succ_cons, List.take_zero, Nat.zero_add, Nat.reduceAdd, List.cons.injEq, and_true]
      omega
  | [a, b, g, d, e], _, hl =>
    have hle := rowB_le a
    have hl' : 5 ≤ rowB a + 1 := hl
    have hc' : rowC c = rowB a := hc
    have hk : lackN [a, b, g, d, e] = rowB a - 4 := rfl
    have h_b := ht b (by simp)
    have h_g := ht g (by simp)
    have h_d := ht d (by simp)
    have h_e := ht e (by simp)
    have hcs : rowB a = 4 := by omega
    have hr := hcs
    rw [hr] at hk hc'
    rw [hk, bits_as hr] at hd
    have ep : p32 (4 - 4) = 1 := rfl
    have el : leadN 4 = 248 := rfl
    rw [ep, el] at hd
    simp only [goN] at hd
    simp only [oneN, if_neg (show ¬ c < 160 by omega), if_neg (show ¬ c < 1024 by omega), if_neg (show ¬ c < 16384 by omega), if_neg (show ¬ c < 262144 by omega), List.length_cons, List.length_nil, List.take_succ_cons, List.take_zero, Nat.zero_add, Nat.reduceAdd, List.cons.injEq, and_true]
    omega
  | a :: b :: c' :: d :: e :: f :: r, _, hl =>
    exfalso; have := rowN_le (a :: b :: c' :: d :: e :: f :: r); simp only [List.length_cons] at hl; omega
end Go.Proofs.YtjbgcclbomimiaaDoor.M8
