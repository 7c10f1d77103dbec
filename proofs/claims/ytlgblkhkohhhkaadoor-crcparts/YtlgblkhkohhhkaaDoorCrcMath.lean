/-
  Plain facts on layer 16: the register that eats bits, that it is linear, that it forgets nothing; texts of one length, xored; a burst. No Go text is named here; no condition.
-/
import Derived.Test.YtlgblkhkohhhkaaDoorBasMath
namespace Go.Proofs.YtlgblkhkohhhkaaDoor.Crc
open Bas
set_option linter.unusedVariables false

def poly : Nat := 3988292384
/-- One place further. -/
def L (x : Nat) : Nat := if x % 2 = 1 then x / 2 ^^^ poly else x / 2
theorem xor_mod (x y : Nat) : (x ^^^ y) % 2 = (x % 2 + y % 2) % 2 := by
  have h := Nat.testBit_xor x y 0
  simp only [Nat.testBit_zero] at h
  have hx : x % 2 = 0 ∨ x % 2 = 1 := by omega
  have hy : y % 2 = 0 ∨ y % 2 = 1 := by omega
  have hz : (x ^^^ y) % 2 = 0 ∨ (x ^^^ y) % 2 = 1 := by omega
  rcases hx with hx | hx <;> rcases hy with hy | hy <;> rcases hz with hz | hz <;> rw [hx, hy, hz] at h <;> simp at h <;> omega
theorem xor_nil {x y : Nat} (h : x ^^^ y = 0) : x = y := by
  have e : (x ^^^ y) ^^^ y = 0 ^^^ y := by rw [h]
  rwa [Nat.xor_assoc, Nat.xor_self, Nat.xor_zero, Nat.zero_xor] at e
theorem xor_left {z x y : Nat} (h : z ^^^ x = z ^^^ y) : x = y := by
  have e : z ^^^ (z ^^^ x) = z ^^^ (z ^^^ y) := by rw [h]
  rwa [← Nat.xor_assoc, ← Nat.xor_assoc, Nat.xor_self, Nat.zero_xor, Nat.zero_xor] at e
theorem xor_mid (a b c d : Nat) : (a ^^^ b) ^^^ (c ^^^ d) = (a ^^^ c) ^^^ (b ^^^ d) := by
  rw [Nat.xor_assoc, Nat.xor_assoc, ← Nat.xor_assoc b c d, Nat.xor_comm b c, Nat.xor_assoc c b d]
theorem L_xor (x y : Nat) : L (x ^^^ y) = L x ^^^ L y := by
  have hm := xor_mod x y
  have hd : (x ^^^ y) / 2 = x / 2 ^^^ y / 2 := Nat.xor_div_two
  unfold L
  by_cases hx : x % 2 = 1
  · by_cases hy : y % 2 = 1
    · rw [if_neg (by omega), if_pos hx, if_pos hy, hd, xor_mid, Nat.xor_self, Nat.xor_zero]
    · rw [if_pos (by omega), if_pos hx, if_neg hy, hd]
      rw [Nat.xor_assoc, Nat.xor_assoc, Nat.xor_comm poly]
  · by_cases hy : y % 2 = 1
    · rw [if_pos (by omega), if_neg hx, if_pos hy, hd, Nat.xor_assoc]
    · rw [if_neg (by omega), if_neg hx, if_neg hy, hd]
theorem L_lt {x : Nat} (h : x < 4294967296) : L x < 4294967296 := by
  unfold L
  split
  · exact Nat.xor_lt_two_pow (n := 32) (by omega) (by decide)
  · omega
theorem L_zero {x : Nat} (h : x < 4294967296) (h0 : L x = 0) : x = 0 := by
  unfold L at h0
  split at h0
  · have : x / 2 = poly := xor_nil h0
    unfold poly at this; omega
  · omega
theorem L_two (y : Nat) : L (2 * y) = y := by unfold L; rw [if_neg (by omega)]; omega
def LK : Nat → Nat → Nat
  | 0, x => x
  | k + 1, x => LK k (L x)
theorem LK_lt (k : Nat) : ∀ {x : Nat}, x < 4294967296 → LK k x < 4294967296 := by
  induction k with
  | zero => intro x h; exact h
  | succ k ih => intro x h; exact ih (L_lt h)
theorem LK_zero (k : Nat) : ∀ {x : Nat}, x < 4294967296 → LK k x = 0 → x = 0 := by
  induction k with
  | zero => intro x _ h; exact h
  | succ k ih => intro x h h0; exact L_zero h (ih (L_lt h) h0)
theorem LK_0 (k : Nat) : LK k 0 = 0 := by
  induction k with
  | zero => rfl
  | succ k ih => exact ih
def bt (b : Bool) : Nat := if b = true then 1 else 0
theorem bt_lt (b : Bool) : bt b ≤ 1 := by cases b <;> decide
/-- Bits are eaten. -/
def feed : Nat → List Bool → Nat
  | x, [] => x
  | x, b :: r => feed (L (x ^^^ bt b)) r
theorem feed_append (l m : List Bool) : ∀ x, feed x (l ++ m) = feed (feed x l) m := by
  induction l with
  | nil => intro x; rfl
  | cons b r ih => intro x; exact ih _
theorem feed_lt (l : List Bool) : ∀ {x : Nat}, x < 4294967296 → feed x l < 4294967296 := by
  induction l with
  | nil => intro x h; exact h
  | cons b r ih =>
    intro x h
    exact ih (L_lt (Nat.xor_lt_two_pow (n := 32) h (by have := bt_lt b; omega)))
def xorL (l m : List Bool) : List Bool := List.zipWith (fun a b => xor a b) l m
theorem bt_xor (a b : Bool) : bt (xor a b) = bt a ^^^ bt b := by cases a <;> cases b <;> rfl
theorem feed_xor (l : List Bool) : ∀ (m : List Bool) (x y : Nat), l.length = m.length → feed (x ^^^ y) (xorL l m) = feed x l ^^^ feed y m := by
  induction l with
  | nil =>
    intro m x y h
    have : m = [] := List.length_eq_zero_iff.1 h.symm
    subst this; rfl
  | cons a r ih =>
    intro m x y h
    cases m with
    | nil => simp at h
    | cons b s =>
      simp only [xorL, List.zipWith_cons_cons, feed]
      rw [bt_xor, xor_mid, L_xor]
      exact ih s _ _ (by simpa using h)
theorem feed_zeros (k : Nat) : ∀ x, feed x (List.replicate k false) = LK k x := by
  induction k with
  | zero => intro x; rfl
  | succ k ih => intro x; simp only [List.replicate_succ, feed, LK]; rw [show bt false = 0 from rfl, Nat.xor_zero]; exact ih _
/-- The number of bits, the first one the lowest. -/
def T : List Bool → Nat
  | [] => 0
  | b :: r => bt b + 2 * T r
theorem T_lt (l : List Bool) : T l < 2 ^ l.length := by
  induction l with
  | nil => decide
  | cons b r ih => have := bt_lt b; simp only [T, List.length_cons, Nat.pow_succ]; omega
theorem T_zero {l : List Bool} (h : T l = 0) : ∀ b ∈ l, b = false := by
  induction l with
  | nil => simp
  | cons a r ih =>
    simp only [T] at h
    intro b hb
    rcases List.mem_cons.1 hb with rfl | hb
    · cases b
      · rfl
      · simp [bt] at h
    · exact ih (by omega) b hb
theorem T_all {l : List Bool} (h : ∀ b ∈ l, b = false) : T l = 0 := by
  induction l with
  | nil => rfl
  | cons a r ih =>
    have ha := h a (by simp)
    subst ha
    simp only [T, ih (fun b hb => h b (by simp [hb]))]; rfl
theorem T_cons_xor (b : Bool) (y : Nat) : bt b + 2 * y = bt b ^^^ (2 * y) := by
  apply Nat.eq_of_testBit_eq
  intro i
  rw [Nat.testBit_xor]
  cases b
  · simp [bt]
  · cases i with
    | zero => simp [bt, Nat.testBit_zero]
    | succ i =>
      simp only [bt, if_pos, Nat.testBit_succ]
      have e1 : (1 + 2 * y) / 2 = y := by omega
      have e2 : 2 * y / 2 = y := by omega
      rw [e1, e2]; simp
theorem T_xor (l : List Bool) : ∀ m : List Bool, l.length = m.length → T (xorL l m) = T l ^^^ T m := by
  induction l with
  | nil =>
    intro m h
    have : m = [] := List.length_eq_zero_iff.1 h.symm
    subst this; rfl
  | cons a r ih =>
    intro m h
    cases m with
    | nil => simp at h
    | cons b s =>
      simp only [xorL, List.zipWith_cons_cons, T]
      have e := ih s (by simpa using h)
      unfold xorL at e
      rw [e, T_cons_xor, T_cons_xor, T_cons_xor, bt_xor, xor_mid]
      congr 1
      apply Nat.eq_of_testBit_eq
      intro i
      cases i with
      | zero => simp [Nat.testBit_zero, xor_mod]
      | succ i =>
        have e1 : ∀ z : Nat, 2 * z / 2 = z := fun z => by omega
        simp only [Nat.testBit_succ, Nat.xor_div_two, e1]
/-- The bits of a row are eaten as if they had been turned in the register ahead. -/
theorem feed_T (l : List Bool) : ∀ x, feed x l = LK l.length (x ^^^ T l) := by
  induction l with
  | nil => intro x; simp [feed, T, LK]
  | cons b r ih =>
    intro x
    simp only [feed, T, List.length_cons, LK]
    rw [ih, T_cons_xor, ← Nat.xor_assoc, L_xor (x ^^^ bt b), L_two]
/-- A burst is never forgotten. -/
theorem burst (n m : Nat) (p : List Bool) (hp : p.length ≤ 32) : feed 0 (List.replicate n false ++ p ++ List.replicate m false) = 0 ↔ ∀ b ∈ p, b = false := by
  have hlt : T p < 4294967296 := by
    have := T_lt p
    have : 2 ^ p.length ≤ 2 ^ 32 := Nat.pow_le_pow_right (by decide) hp
    omega
  rw [feed_append, feed_append, feed_zeros m, feed_zeros n, LK_0, feed_T, Nat.zero_xor]
  constructor
  · intro h
    exact T_zero (LK_zero _ hlt (LK_zero _ (LK_lt _ hlt) h))
  · intro h
    rw [T_all h, LK_0, LK_0]
/-- All bits 1. -/
def ones : Nat := 4294967295
theorem ones_xor {x : Nat} (h : x < 4294967296) : ones ^^^ x = 4294967295 - x := by
  apply Nat.eq_of_testBit_eq
  intro i
  rw [Nat.testBit_xor]
  have e : ones = 2 ^ 32 - 1 := rfl
  have e2 : 4294967295 - x = 2 ^ 32 - (x + 1) := by omega
  rw [e, e2, Nat.testBit_two_pow_sub_one, Nat.testBit_two_pow_sub_succ h]
  by_cases hi : i < 32
  · simp [hi]
  · have : x.testBit i = false := Nat.testBit_lt_two_pow (Nat.lt_of_lt_of_le h (by
      have : 2 ^ 32 ≤ 2 ^ i := Nat.pow_le_pow_right (by decide) (by omega)
      exact this))
    simp [hi, this]
/-- The sum of bits. -/
def sumB (l : List Bool) : Nat := 4294967295 - feed ones l
theorem sumB_xor (l : List Bool) : sumB l = ones ^^^ feed ones l := (ones_xor (feed_lt l (by decide))).symm
theorem sumB_lt (l : List Bool) : sumB l < 4294967296 := by unfold sumB; omega
/-- Bits, and their sum's behind them, with bits turned: the sum is right just if nothing is left of these in the register. -/
theorem spoilt (a c e f : List Bool) (hc : c.length = 32) (hf : f.length = 32) (he : a.length = e.length) (hs : T c = sumB a) :
    sumB (xorL a e) = T (xorL c f) ↔ feed 0 (e ++ f) = 0 := by
  have h1 : feed ones (xorL a e) = feed ones a ^^^ feed 0 e := by
    have := feed_xor a e ones 0 he
    rwa [Nat.xor_zero] at this
  have h2 : T (xorL c f) = T c ^^^ T f := T_xor c f (by omega)
  have hlt : feed 0 e ^^^ T f < 4294967296 := by
    refine Nat.xor_lt_two_pow (n := 32) (feed_lt e (by decide)) ?_
    have := T_lt f
    rw [hf] at this; exact this
  rw [sumB_xor, h1, h2, hs, sumB_xor, feed_append, feed_T f, ← Nat.xor_assoc]
  constructor
  · intro h
    have h3 : feed 0 e = T f := xor_left h
    rw [h3, Nat.xor_self, LK_0]
  · intro h
    have h3 := xor_nil (LK_zero _ hlt h)
    rw [h3]
/-- Three texts of one length, xored. -/
theorem three (a b c : List Bool) (h1 : a.length = b.length) (h2 : b.length = c.length) : sumB (xorL (xorL a b) c) = sumB a ^^^ sumB b ^^^ sumB c := by
  have hl : (xorL a b).length = c.length := by unfold xorL; simp; omega
  have e1 : feed ones (xorL (xorL a b) c) = feed 0 (xorL a b) ^^^ feed ones c := by
    have := feed_xor (xorL a b) c 0 ones hl
    rwa [Nat.zero_xor] at this
  have e2 : feed 0 (xorL a b) = feed ones a ^^^ feed ones b := by
    have := feed_xor a b ones ones h1
    rwa [Nat.xor_self] at this
  rw [sumB_xor, sumB_xor, sumB_xor, sumB_xor, e1, e2]
  rw [xor_mid ones (feed ones a) ones (feed ones b), Nat.xor_self, Nat.zero_xor, ← Nat.xor_assoc (feed ones a ^^^ feed ones b) ones, Nat.xor_comm (feed ones a ^^^ feed ones b) ones, Nat.xor_assoc, Nat.xor_assoc, Nat.xor_assoc]
/-! ### Bytes -/
def bitOf (b : Int) (i : Nat) : Bool := decide (b / 2 ^ i % 2 = 1)
def byteB (b : Int) : List Bool := [bitOf b 0, bitOf b 1, bitOf b 2, bitOf b 3, bitOf b 4, bitOf b 5, bitOf b 6, bitOf b 7]
def bitsB : List Int → List Bool
  | [] => []
  | b :: r => byteB b ++ bitsB r
theorem bitsB_len (l : List Int) : (bitsB l).length = 8 * l.length := by
  induction l with
  | nil => rfl
  | cons b r ih => simp only [bitsB, List.length_append, ih, List.length_cons]; simp [byteB]; omega
theorem bitsB_append (l m : List Int) : bitsB (l ++ m) = bitsB l ++ bitsB m := by
  induction l with
  | nil => rfl
  | cons b r ih => simp only [List.cons_append, bitsB, ih, List.append_assoc]
theorem bt_bit (b : Int) (i : Nat) : (bt (bitOf b i) : Int) = b / 2 ^ i % 2 := by
  unfold bitOf bt
  by_cases h : b / 2 ^ i % 2 = 1
  · rw [decide_eq_true h, if_pos rfl, h]; rfl
  · rw [decide_eq_false h, if_neg (by simp)]
    have := Int.emod_nonneg (b / 2 ^ i) (show (2 : Int) ≠ 0 by decide)
    have := Int.emod_lt_of_pos (b / 2 ^ i) (show (0 : Int) < 2 by decide)
    show (0 : Int) = _
    omega
theorem T_append (l m : List Bool) : T (l ++ m) = T l + 2 ^ l.length * T m := by
  induction l with
  | nil => simp [T]
  | cons b r ih =>
    simp only [List.cons_append, T, ih, List.length_cons, Nat.pow_succ]
    rw [Nat.mul_add, Nat.mul_comm (2 ^ r.length) 2, Nat.mul_assoc]; omega
theorem T_byte {b : Int} (h : 0 ≤ b ∧ b < 256) : (T (byteB b) : Int) = b := by
  have e0 : (bt (bitOf b 0) : Int) = b / 1 % 2 := by rw [bt_bit]; rfl
  have e1 : (bt (bitOf b 1) : Int) = b / 2 % 2 := by rw [bt_bit]; rfl
  have e2 : (bt (bitOf b 2) : Int) = b / 4 % 2 := by rw [bt_bit]; rfl
  have e3 : (bt (bitOf b 3) : Int) = b / 8 % 2 := by rw [bt_bit]; rfl
  have e4 : (bt (bitOf b 4) : Int) = b / 16 % 2 := by rw [bt_bit]; rfl
  have e5 : (bt (bitOf b 5) : Int) = b / 32 % 2 := by rw [bt_bit]; rfl
  have e6 : (bt (bitOf b 6) : Int) = b / 64 % 2 := by rw [bt_bit]; rfl
  have e7 : (bt (bitOf b 7) : Int) = b / 128 % 2 := by rw [bt_bit]; rfl
  simp only [byteB, T]
  push_cast
  rw [e0, e1, e2, e3, e4, e5, e6, e7]
  omega
end Go.Proofs.YtlgblkhkohhhkaaDoor.Crc
