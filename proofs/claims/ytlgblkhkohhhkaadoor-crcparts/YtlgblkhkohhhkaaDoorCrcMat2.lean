/-
  More plain facts on layer 16: the register a byte at a time (by a table, by halves), the document's own step, bytes xored, one bit of bytes turned, a burst laid bit by bit, a number's four bytes. No Go text is named here; no condition.
-/
import Derived.Test.YtlgblkhkohhhkaaDoorCrcMath
namespace Go.Proofs.YtlgblkhkohhhkaaDoor.Crc
open Bas
set_option linter.unusedVariables false

theorem LK_xor (k : Nat) : ∀ (x y : Nat), LK k (x ^^^ y) = LK k x ^^^ LK k y := by
  induction k with
  | zero => intro x y; rfl
  | succ k ih => intro x y; simp only [LK]; rw [L_xor]; exact ih _ _
theorem LK_add (j : Nat) : ∀ (k x : Nat), LK (j + k) x = LK k (LK j x) := by
  induction j with
  | zero => intro k x; rw [Nat.zero_add]; rfl
  | succ j ih => intro k x; rw [Nat.succ_add]; exact ih k (L x)
theorem LK_shift (k : Nat) : ∀ z : Nat, LK k (2 ^ k * z) = z := by
  induction k with
  | zero => intro z; simp [LK]
  | succ k ih => intro z; simp only [LK]; rw [show 2 ^ (k + 1) * z = 2 * (2 ^ k * z) by rw [Nat.pow_succ, Nat.mul_comm (2 ^ k) 2, Nat.mul_assoc], L_two]; exact ih z
theorem split_xor (k y : Nat) : y = (y % 2 ^ k) ^^^ (2 ^ k * (y / 2 ^ k)) := by
  apply Nat.eq_of_testBit_eq
  intro i
  rw [Nat.testBit_xor, Nat.testBit_mod_two_pow, Nat.testBit_two_pow_mul, Nat.testBit_div_two_pow]
  by_cases h : i < k
  · simp [h, Nat.not_le.2 h]
  · simp [h, Nat.le_of_not_lt h, Nat.sub_add_cancel (Nat.le_of_not_lt h)]
/-- By a table of the low bits. -/
theorem LK_tab (k y : Nat) : LK k y = LK k (y % 2 ^ k) ^^^ y / 2 ^ k := by
  have h := congrArg (LK k) (split_xor k y)
  rw [LK_xor, LK_shift] at h
  exact h
theorem byteB_len (b : Int) : (byteB b).length = 8 := rfl
/-- A byte more. -/
theorem feed_byte (x : Nat) {b : Nat} (h : b < 256) : feed x (byteB b) = LK 8 (x ^^^ b) := by
  have := T_byte (b := (b : Int)) (by omega)
  rw [feed_T, byteB_len, show T (byteB (b : Int)) = b by omega]
theorem xor_div (x b k : Nat) (h : b < 2 ^ k) : (x ^^^ b) / 2 ^ k = x / 2 ^ k := by
  apply Nat.eq_of_testBit_eq
  intro i
  rw [Nat.testBit_div_two_pow, Nat.testBit_div_two_pow, Nat.testBit_xor]
  have : b.testBit (i + k) = false := Nat.testBit_lt_two_pow (Nat.lt_of_lt_of_le h (Nat.pow_le_pow_right (by decide) (by omega)))
  rw [this, Bool.xor_false]
/-- A byte more, by a table of 256. -/
theorem feed_tab (x : Nat) {b : Nat} (h : b < 256) : feed x (byteB b) = LK 8 ((x ^^^ b) % 256) ^^^ x / 256 := by
  rw [feed_byte x h, LK_tab 8 (x ^^^ b)]
  rw [show (2 : Nat) ^ 8 = 256 from rfl, show (x ^^^ b) / 256 = x / 256 from xor_div x b 8 h]
/-- A byte more, by a table of 16, twice. -/
theorem feed_half (x : Nat) {b : Nat} (h : b < 256) : feed x (byteB b) = LK 4 (LK 4 (x ^^^ b)) := by rw [feed_byte x h, ← LK_add]
/-- The document's step: the lowest bit is turned first. -/
theorem step_doc (x : Nat) (b : Bool) : L (x ^^^ bt b) = if xor (decide (x % 2 = 1)) b = true then x / 2 ^^^ poly else x / 2 := by
  cases b with
  | false => simp [L, bt]
  | true =>
    have h1 : (x ^^^ 1) / 2 = x / 2 := xor_div x 1 1 (by decide)
    have h2 : (x ^^^ 1) % 2 = (x % 2 + 1) % 2 := xor_mod x 1
    unfold L
    rw [show bt true = 1 from rfl, h1, h2]
    rcases Nat.mod_two_eq_zero_or_one x with h | h
    · rw [h]; simp
    · rw [h]; simp
/-! ### Bits of bytes -/
theorem bit_test (a i : Nat) : bitOf (a : Int) i = a.testBit i := by
  unfold bitOf
  rw [Nat.testBit_eq_decide_div_mod_eq]
  have : ((a : Int) / 2 ^ i % 2 = 1) ↔ (a / 2 ^ i % 2 = 1) := by
    rw [show ((2 : Int) ^ i) = ((2 ^ i : Nat) : Int) by push_cast; rfl]
    omega
  exact decide_eq_decide.2 this
theorem byte_xor (a b : Nat) : byteB ((a ^^^ b : Nat) : Int) = xorL (byteB a) (byteB b) := by
  simp only [byteB, bit_test, Nat.testBit_xor, xorL, List.zipWith_cons_cons, List.zipWith_nil_right]
def xorI (a b : Int) : Int := ((a.toNat ^^^ b.toNat : Nat) : Int)
theorem xorI_byte {a b : Int} (ha : 0 ≤ a ∧ a < 256) (hb : 0 ≤ b ∧ b < 256) : 0 ≤ xorI a b ∧ xorI a b < 256 := by
  unfold xorI
  have := Nat.xor_lt_two_pow (n := 8) (show a.toNat < 2 ^ 8 by omega) (show b.toNat < 2 ^ 8 by omega)
  omega
theorem byteB_xorI {a b : Int} (ha : 0 ≤ a) (hb : 0 ≤ b) : byteB (xorI a b) = xorL (byteB a) (byteB b) := by
  obtain ⟨m, rfl⟩ := Int.eq_ofNat_of_zero_le ha
  obtain ⟨n, rfl⟩ := Int.eq_ofNat_of_zero_le hb
  exact byte_xor m n
theorem xorL_append (a c : List Bool) (b d : List Bool) (h : a.length = b.length) : xorL (a ++ c) (b ++ d) = xorL a b ++ xorL c d := by
  unfold xorL; exact List.zipWith_append h
theorem bitsB_zip : ∀ (l m : List Int), (∀ x ∈ l, 0 ≤ x) → (∀ x ∈ m, 0 ≤ x) → bitsB (List.zipWith xorI l m) = xorL (bitsB (l.take m.length)) (bitsB (m.take l.length)) := by
  intro l
  induction l with
  | nil => intro m _ _; simp [bitsB, xorL]
  | cons a r ih =>
    intro m hl hm
    cases m with
    | nil => simp [bitsB, xorL]
    | cons b s =>
      simp only [List.zipWith_cons_cons, bitsB, List.length_cons, List.take_succ_cons]
      rw [xorL_append (byteB a) _ (byteB b) _ rfl, byteB_xorI (hl a (by simp)) (hm b (by simp)), ih s (fun x hx => hl x (by simp [hx])) (fun x hx => hm x (by simp [hx]))]
theorem bitsB_get : ∀ (l : List Int) (k : Nat), (bitsB l)[k]? = (l[k / 8]?).map (fun b => bitOf b (k % 8)) := by
  intro l
  induction l with
  | nil => intro k; simp [bitsB]
  | cons b r ih =>
    intro k
    simp only [bitsB]
    by_cases h : k < 8
    · rw [List.getElem?_append_left (by rw [byteB_len]; exact h), show k / 8 = 0 by omega, show k % 8 = k by omega]
      have hc : k = 0 ∨ k = 1 ∨ k = 2 ∨ k = 3 ∨ k = 4 ∨ k = 5 ∨ k = 6 ∨ k = 7 := by omega
      rcases hc with rfl | rfl | rfl | rfl | rfl | rfl | rfl | rfl <;> rfl
    · rw [List.getElem?_append_right (by rw [byteB_len]; omega), byteB_len, ih, show k / 8 = (k - 8) / 8 + 1 by omega, show k % 8 = (k - 8) % 8 by omega, List.getElem?_cons_succ]
/-- One bit of bytes, turned. -/
theorem bits_turn {l : List Int} {k : Nat} {b : Int} (hk : l[k / 8]? = some b) (hb : 0 ≤ b) :
    bitsB (l.set (k / 8) (xorI b ((2 ^ (k % 8) : Nat) : Int))) = (bitsB l).set k (!(bitOf b (k % 8))) := by
  obtain ⟨m, rfl⟩ := Int.eq_ofNat_of_zero_le hb
  have hlt : k / 8 < l.length := (List.getElem?_eq_some_iff.1 hk).1
  have hlen := bitsB_len l
  apply List.ext_getElem?
  intro i
  rw [bitsB_get, List.getElem?_set, List.getElem?_set]
  by_cases h8 : k / 8 = i / 8
  · rw [if_pos h8, if_pos hlt]
    by_cases hi : k = i
    · subst hi
      rw [if_pos rfl, if_pos (by omega)]
      show some (bitOf (((m ^^^ 2 ^ (k % 8) : Nat) : Int)) (k % 8)) = _
      rw [bit_test, bit_test, Nat.testBit_xor, Nat.testBit_two_pow_self, Bool.xor_true]
    · rw [if_neg hi, bitsB_get, ← h8, hk]
      show some (bitOf (((m ^^^ 2 ^ (k % 8) : Nat) : Int)) (i % 8)) = some (bitOf (m : Int) (i % 8))
      rw [bit_test, bit_test, Nat.testBit_xor, Nat.testBit_two_pow_of_ne (by omega), Bool.xor_false]
  · rw [if_neg h8, if_neg (fun e => h8 (by rw [e])), bitsB_get]
/-! ### A burst -/
/-- The first bits of a pattern. -/
def patL (p : Nat) : Nat → List Bool
  | 0 => []
  | j + 1 => patL p j ++ [decide (p / 2 ^ j % 2 = 1)]
theorem patL_len (p j : Nat) : (patL p j).length = j := by
  induction j with
  | zero => rfl
  | succ j ih => simp [patL, ih]
theorem patL_get (p : Nat) : ∀ (j i : Nat), i < j → (patL p j)[i]? = some (decide (p / 2 ^ i % 2 = 1)) := by
  intro j
  induction j with
  | zero => intro i h; omega
  | succ j ih =>
    intro i h
    simp only [patL]
    by_cases hi : i < j
    · rw [List.getElem?_append_left (by rw [patL_len]; exact hi), ih i hi]
    · rw [List.getElem?_append_right (by rw [patL_len]; omega), patL_len, show i - j = 0 by omega, show i = j by omega]; rfl
/-- The bits that are turned: the pattern's first j, from a place on, of n. -/
def maskL (n at_ p j : Nat) : List Bool := List.replicate at_ false ++ patL p j ++ List.replicate (n - at_ - j) false
theorem maskL_len {n at_ p j : Nat} (h : at_ + j ≤ n) : (maskL n at_ p j).length = n := by
  unfold maskL; simp only [List.length_append, List.length_replicate, patL_len]; omega
theorem maskL_get {n at_ p j i : Nat} (h : at_ + j ≤ n) (hi : i < n) : (maskL n at_ p j)[i]? = some (decide (at_ ≤ i ∧ i < at_ + j ∧ p / 2 ^ (i - at_) % 2 = 1)) := by
  unfold maskL
  by_cases h1 : i < at_
  · rw [List.getElem?_append_left (by simp [patL_len]; omega), List.getElem?_append_left (by simpa using h1), List.getElem?_replicate, if_pos h1]
    rw [decide_eq_false (by omega)]
  · by_cases h2 : i < at_ + j
    · rw [List.getElem?_append_left (by simp [patL_len]; omega), List.getElem?_append_right (by simp; omega), List.length_replicate, patL_get p j (i - at_) (by omega)]
      congr 1
      exact decide_eq_decide.2 ⟨fun h => ⟨by omega, h2, h⟩, fun h => h.2.2⟩
    · rw [List.getElem?_append_right (by simp [patL_len]; omega), List.getElem?_replicate, if_pos (by simp [patL_len]; omega), decide_eq_false (by omega)]
theorem xorL_len {l m : List Bool} (h : l.length = m.length) : (xorL l m).length = l.length := by unfold xorL; simp [h]
theorem xorL_get {l m : List Bool} {i : Nat} {a b : Bool} (ha : l[i]? = some a) (hb : m[i]? = some b) : (xorL l m)[i]? = some (xor a b) := by
  unfold xorL; rw [List.getElem?_zipWith, ha, hb]
theorem xor_false {l : List Bool} {n : Nat} (h : l.length = n) : xorL l (List.replicate n false) = l := by
  apply List.ext_getElem?
  intro i
  by_cases hi : i < n
  · rw [xorL_get (List.getElem?_eq_getElem (by omega)) (by rw [List.getElem?_replicate, if_pos hi]), Bool.xor_false, ← List.getElem?_eq_getElem]
  · rw [List.getElem?_eq_none (by rw [xorL_len (by simp [h])]; omega), List.getElem?_eq_none (by omega)]
theorem mask_none {l : List Bool} {n at_ p : Nat} (h : l.length = n) (ha : at_ ≤ n) : xorL l (maskL n at_ p 0) = l := by
  rw [show maskL n at_ p 0 = List.replicate n false by unfold maskL patL; rw [List.append_nil, List.replicate_append_replicate]; congr 1; omega]
  exact xor_false h
/-- A bit more of the pattern. -/
theorem mask_more {l : List Bool} {n at_ p j : Nat} {b : Bool} (h : l.length = n) (hj : at_ + j < n) (hb : (xorL l (maskL n at_ p j))[at_ + j]? = some b) :
    xorL l (maskL n at_ p (j + 1)) = if p / 2 ^ j % 2 = 1 then (xorL l (maskL n at_ p j)).set (at_ + j) (!b) else xorL l (maskL n at_ p j) := by
  have hl0 := xorL_len (l := l) (m := maskL n at_ p j) (by rw [h, maskL_len (by omega)])
  have hl1 := xorL_len (l := l) (m := maskL n at_ p (j + 1)) (by rw [h, maskL_len (by omega)])
  have hg : ∀ i (hi : i < n), (xorL l (maskL n at_ p j))[i]? = some (xor (l[i]'(by omega)) (decide (at_ ≤ i ∧ i < at_ + j ∧ p / 2 ^ (i - at_) % 2 = 1))) :=
    fun i hi => xorL_get (List.getElem?_eq_getElem (by omega)) (maskL_get (by omega) hi)
  have hg1 : ∀ i (hi : i < n), (xorL l (maskL n at_ p (j + 1)))[i]? = some (xor (l[i]'(by omega)) (decide (at_ ≤ i ∧ i < at_ + (j + 1) ∧ p / 2 ^ (i - at_) % 2 = 1))) :=
    fun i hi => xorL_get (List.getElem?_eq_getElem (by omega)) (maskL_get (by omega) hi)
  have hb' := hg (at_ + j) hj
  rw [hb, decide_eq_false (by omega), Bool.xor_false] at hb'
  have hbe := Option.some.inj hb'
  apply List.ext_getElem?
  intro i
  by_cases hi : i < n
  · rw [hg1 i hi]
    by_cases hp : p / 2 ^ j % 2 = 1
    · rw [if_pos hp, List.getElem?_set]
      by_cases e : at_ + j = i
      · subst e
        rw [if_pos rfl, if_pos (by omega), decide_eq_true (by rw [Nat.add_sub_cancel_left]; exact ⟨by omega, by omega, hp⟩), Bool.xor_true, hbe]
      · rw [if_neg e, hg i hi]
        congr 2
        exact decide_eq_decide.2 ⟨fun h => ⟨h.1, by omega, h.2.2⟩, fun h => ⟨h.1, by omega, h.2.2⟩⟩
    · rw [if_neg hp, hg i hi]
      congr 2
      refine decide_eq_decide.2 ⟨fun h => ⟨h.1, ?_, h.2.2⟩, fun h => ⟨h.1, by omega, h.2.2⟩⟩
      by_cases e : i = at_ + j
      · subst e; rw [Nat.add_sub_cancel_left] at h; exact absurd h.2.2 hp
      · omega
  · rw [List.getElem?_eq_none (by omega)]
    split
    · rw [List.getElem?_eq_none (by rw [List.length_set]; omega)]
    · rw [List.getElem?_eq_none (by omega)]
/-- Is one of them turned? -/
def anyL (p j : Nat) : Bool := (patL p j).any id
theorem any_more (p j : Nat) : anyL p (j + 1) = (anyL p j || decide (p / 2 ^ j % 2 = 1)) := by simp [anyL, patL]
theorem mask_burst (n at_ p j : Nat) (hj : j ≤ 32) : feed 0 (maskL n at_ p j) = 0 ↔ anyL p j = false := by
  unfold maskL anyL
  rw [burst _ _ _ (by rw [patL_len]; exact hj), List.any_eq_false]
  simp
/-- Bytes and their sum's four bytes, a burst in them: the sum is right just if no bit is turned. -/
theorem burst_sum (a c : List Bool) (at_ p j : Nat) (hc : c.length = 32) (hj : j ≤ 32) (hn : at_ + j ≤ a.length + 32) (hs : T c = sumB a) {a' c' : List Bool} (h' : a' ++ c' = xorL (a ++ c) (maskL (a.length + 32) at_ p j)) (hl : a'.length = a.length) :
    sumB a' = T c' ↔ anyL p j = false := by
  have hm := maskL_len (p := p) hn
  obtain ⟨e, f, hef, he⟩ : ∃ e f, maskL (a.length + 32) at_ p j = e ++ f ∧ e.length = a.length := ⟨(maskL (a.length + 32) at_ p j).take a.length, (maskL (a.length + 32) at_ p j).drop a.length, (List.take_append_drop _ _).symm, by rw [List.length_take, hm]; omega⟩
  have hf : f.length = 32 := by have := congrArg List.length hef; rw [hm, List.length_append, he] at this; omega
  rw [hef, xorL_append _ _ _ _ he.symm] at h'
  obtain ⟨rfl, rfl⟩ := List.append_inj h' (by rw [hl, xorL_len he.symm])
  rw [spoilt a c e f hc hf he.symm hs, ← hef]
  exact mask_burst _ _ _ _ hj
/-! ### A number's four bytes -/
def fourI (x : Nat) : List Int := [((x % 256 : Nat) : Int), ((x / 256 % 256 : Nat) : Int), ((x / 65536 % 256 : Nat) : Int), ((x / 16777216 : Nat) : Int)]
theorem T_four {x : Nat} (h : x < 4294967296) : T (bitsB (fourI x)) = x := by
  have b0 := T_byte (b := ((x % 256 : Nat) : Int)) (by omega)
  have b1 := T_byte (b := ((x / 256 % 256 : Nat) : Int)) (by omega)
  have b2 := T_byte (b := ((x / 65536 % 256 : Nat) : Int)) (by omega)
  have b3 := T_byte (b := ((x / 16777216 : Nat) : Int)) (by omega)
  simp only [fourI, bitsB, T_append, byteB_len, show T ([] : List Bool) = 0 from rfl]
  omega
theorem four_T {a b c d : Int} (ha : 0 ≤ a ∧ a < 256) (hb : 0 ≤ b ∧ b < 256) (hc : 0 ≤ c ∧ c < 256) (hd : 0 ≤ d ∧ d < 256) : (T (bitsB [a, b, c, d]) : Int) = a + 256 * b + 65536 * c + 16777216 * d := by
  have b0 := T_byte ha
  have b1 := T_byte hb
  have b2 := T_byte hc
  have b3 := T_byte hd
  simp only [bitsB, T_append, byteB_len, show T ([] : List Bool) = 0 from rfl]
  omega
theorem four_len (x : Nat) : (bitsB (fourI x)).length = 32 := rfl
/-- Bits eaten by the first k. -/
theorem feed_take (l : List Bool) (x k : Nat) (b : Bool) (h : l[k]? = some b) : feed x (l.take (k + 1)) = L (feed x (l.take k) ^^^ bt b) := by
  rw [List.take_add_one, h, feed_append]; rfl
/-! ### Sums of bytes -/
/-- The sum of bytes. -/
def sumI (l : List Int) : Nat := sumB (bitsB l)
theorem sumI_lt (l : List Int) : sumI l < 4294967296 := sumB_lt _
theorem sumI_nil : sumI [] = 0 := rfl
/-- The register behind bytes. -/
def regI (l : List Int) : Nat := feed ones (bitsB l)
theorem regI_lt (l : List Int) : regI l < 4294967296 := feed_lt _ (by decide)
theorem sumI_reg (l : List Int) : sumI l = 4294967295 - regI l := rfl
theorem regI_append (l m : List Int) : regI (l ++ m) = feed (regI l) (bitsB m) := by unfold regI; rw [bitsB_append, feed_append]
/-- A byte more, by a table of 256. -/
theorem regI_tab (l : List Int) {b : Nat} (h : b < 256) : regI (l ++ [(b : Int)]) = LK 8 ((regI l ^^^ b) % 256) ^^^ regI l / 256 := by
  rw [regI_append]
  simp only [bitsB, List.append_nil]
  exact feed_tab _ h
/-- A byte more, bit by bit. -/
theorem regI_byte (l : List Int) {b : Nat} (h : b < 256) : regI (l ++ [(b : Int)]) = LK 8 (regI l ^^^ b) := by
  rw [regI_append]
  simp only [bitsB, List.append_nil]
  exact feed_byte _ h
/-- A byte more, by a table of 16, twice. -/
theorem LK_half (y : Nat) : LK 4 y = LK 4 (y % 16) ^^^ y / 16 := LK_tab 4 y
theorem regI_half (l : List Int) {b : Nat} (h : b < 256) : regI (l ++ [(b : Int)]) = LK 4 (LK 4 (regI l ^^^ b)) := by rw [regI_byte l h, ← LK_add]
theorem sum_three {a b c : List Int} (h1 : a.length = b.length) (h2 : b.length = c.length) (ha : ∀ x ∈ a, 0 ≤ x) (hb : ∀ x ∈ b, 0 ≤ x) (hc : ∀ x ∈ c, 0 ≤ x) :
    sumI (List.zipWith xorI (List.zipWith xorI a b) c) = sumI a ^^^ sumI b ^^^ sumI c := by
  have hl : (List.zipWith xorI a b).length = c.length := by simp; omega
  have hn : ∀ x ∈ List.zipWith xorI a b, 0 ≤ x := by
    intro x hx
    obtain ⟨i, hi, rfl⟩ := List.getElem_of_mem hx
    rw [List.getElem_zipWith]
    exact Int.natCast_nonneg _
  unfold sumI
  rw [bitsB_zip _ _ hn hc, List.take_of_length_le (l := List.zipWith xorI a b) (by omega), bitsB_zip _ _ ha hb, List.take_of_length_le (l := a) (by omega), List.take_of_length_le (l := b) (by omega), List.take_of_length_le (l := c) (by omega)]
  exact three _ _ _ (by rw [bitsB_len, bitsB_len, h1]) (by rw [bitsB_len, bitsB_len, h2])
/-- A burst's next bit. -/
theorem spoil_yes {s l : List Int} {n at_ p j : Nat} {b : Int} (hn : n = 8 * s.length) (hl : l.length = s.length) (h : bitsB l = xorL (bitsB s) (maskL n at_ p j)) (hj : at_ + j < n) (hk : l[(at_ + j) / 8]? = some b) (hb : 0 ≤ b) (hp : p / 2 ^ j % 2 = 1) :
    bitsB (l.set ((at_ + j) / 8) (xorI b ((2 ^ ((at_ + j) % 8) : Nat) : Int))) = xorL (bitsB s) (maskL n at_ p (j + 1)) := by
  have hg : (bitsB l)[at_ + j]? = some (bitOf b ((at_ + j) % 8)) := by rw [bitsB_get, hk]; rfl
  rw [h] at hg
  rw [bits_turn hk hb, mask_more (by rw [bitsB_len, hn]) hj hg, if_pos hp, h]
theorem spoil_no {s l : List Int} {n at_ p j : Nat} (hn : n = 8 * s.length) (hl : l.length = s.length) (h : bitsB l = xorL (bitsB s) (maskL n at_ p j)) (hj : at_ + j < n) (hp : ¬ p / 2 ^ j % 2 = 1) :
    bitsB l = xorL (bitsB s) (maskL n at_ p (j + 1)) := by
  have hlen : (bitsB l).length = n := by rw [bitsB_len, hn, hl]
  obtain ⟨b, hg⟩ : ∃ b, (bitsB l)[at_ + j]? = some b := ⟨_, List.getElem?_eq_getElem (by omega)⟩
  rw [h] at hg
  rw [mask_more (by rw [bitsB_len, hn]) hj hg, if_neg hp, h]
theorem spoil_begin {s : List Int} {n at_ p : Nat} (hn : n = 8 * s.length) (ha : at_ ≤ n) : bitsB s = xorL (bitsB s) (maskL n at_ p 0) := (mask_none (by rw [bitsB_len, hn]) ha).symm
/-- Bytes with their sum's four, a burst in them. -/
theorem spoil_end {s l : List Int} {at_ p j : Nat} (hj : j ≤ 32) (hn : at_ + j ≤ 8 * (s.length + 4)) (hl : l.length = s.length + 4) (h : bitsB l = xorL (bitsB (s ++ fourI (sumI s))) (maskL (8 * (s.length + 4)) at_ p j)) :
    sumI (l.take s.length) = T (bitsB (l.drop s.length)) ↔ anyL p j = false := by
  have hs := bitsB_len s
  refine burst_sum (bitsB s) (bitsB (fourI (sumI s))) at_ p j (four_len _) hj (by omega) (T_four (sumI_lt s)) (a' := bitsB (l.take s.length)) (c' := bitsB (l.drop s.length)) ?_ ?_
  · rw [← bitsB_append, List.take_append_drop, h, bitsB_append, show 8 * (s.length + 4) = (bitsB s).length + 32 by omega]
  · rw [bitsB_len, bitsB_len, List.length_take]; omega
end Go.Proofs.YtlgblkhkohhhkaaDoor.Crc
