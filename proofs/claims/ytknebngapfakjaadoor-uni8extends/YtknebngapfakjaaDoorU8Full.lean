/-
  The library's FullRune and DecodeRune at a beginning of a scalar's bytes and a byte more: what they tell, by the functions of U8Math. The condition: the library's two tables are as its text lays them.
-/
import Derived.Test.YtknebngapfakjaaDoorU8Run
namespace Go.Proofs.YtknebngapfakjaaDoor
open Go.ChangeShapes Go.WideShapes Go.ChangeAt Go.RowKit
namespace U8
open Bas Sca
set_option linter.unusedVariables false
set_option linter.unusedSimpArgs false

/-- A beginning that is no whole, as a test. -/
def isBeg (q : List Int) : Bool := okq q && decide (q.length < needN (nth q 0))
theorem row_cells {w : World} {a : Option Addr} {q : List Int} (h : Row .u8 w a q) (hq : q ≠ []) : ∃ g of, a = some ⟨g, of, none⟩ ∧ ∀ i, i < q.length → w.cell? ⟨g, of + i, none⟩ = some (.int .u8 (nth q i)) := by
  obtain ⟨g, of, ha, hc⟩ := h
  exact ⟨g, of, ha hq, hc⟩
theorem full_any (s : List Int) (b : Int) (a : Option Addr) (n c : Nat) (w : World) (hT : Tabs w) (hs : Good s) (hq : ∀ x ∈ s ++ [b], 0 ≤ x ∧ x < 256) (hr : Row .u8 w a (s ++ [b])) (hl : (s ++ [b]).length = n) :
    Calls Tryd.prog 48 #[.slice a n c] w fun e w' => e = .returned (.bool (!isBeg (s ++ [b]))) ∧ Below w.heap.size w w' := by
  obtain ⟨g, of, rfl, hc⟩ := row_cells hr (by simp)
  subst hl
  match s, hs, hq, hc with
  | [], hs, hq, hc =>
    obtain ⟨m, rfl⟩ := Int.eq_ofNat_of_zero_le (hq b (by simp)).1
    have hm := (hq m (by simp)).2
    refine (full1 g of c m w hT (by omega) (by simpa [nth] using hc 0 (by simp))).mono ?_
    rintro e w' ⟨rfl, hb⟩
    refine ⟨ret_bool ?_, hb⟩
    rw [Bool.eq_iff_iff]; simp [isBeg, okq, nth]; omega
  | [x], hs, hq, hc =>
    obtain ⟨m, rfl⟩ := Int.eq_ofNat_of_zero_le (hq x (by simp)).1
    obtain ⟨y, rfl⟩ := Int.eq_ofNat_of_zero_le (hq b (by simp)).1
    have hm := (hq m (by simp)).2
    rcases hs with hs | ⟨ho, hn⟩
    · cases hs
    simp [nth] at hn
    refine (full2 g of c m y w hT (by omega) (by omega) (by simpa [nth] using hc 0 (by simp)) (by simpa [nth] using hc 1 (by simp))).mono ?_
    rintro e w' ⟨rfl, hb⟩
    refine ⟨ret_bool ?_, hb⟩
    rw [Bool.eq_iff_iff]; simp [isBeg, okq, nth]; omega
  | [x, x2], hs, hq, hc =>
    obtain ⟨m, rfl⟩ := Int.eq_ofNat_of_zero_le (hq x (by simp)).1
    obtain ⟨y, rfl⟩ := Int.eq_ofNat_of_zero_le (hq x2 (by simp)).1
    obtain ⟨z, rfl⟩ := Int.eq_ofNat_of_zero_le (hq b (by simp)).1
    have hm := (hq m (by simp)).2
    rcases hs with hs | ⟨ho, hn⟩
    · cases hs
    simp [nth] at hn
    simp [okq] at ho
    refine (full3 g of c m y z w hT (by omega) (by omega) ho.2 (by simpa [nth] using hc 0 (by simp)) (by simpa [nth] using hc 1 (by simp)) (by simpa [nth] using hc 2 (by simp))).mono ?_
    rintro e w' ⟨rfl, hb⟩
    refine ⟨ret_bool ?_, hb⟩
    rw [Bool.eq_iff_iff]; simp [isBeg, okq, nth]; omega
  | [x, x2, x3], hs, hq, hc =>
    obtain ⟨m, rfl⟩ := Int.eq_ofNat_of_zero_le (hq x (by simp)).1
    obtain ⟨y, rfl⟩ := Int.eq_ofNat_of_zero_le (hq x2 (by simp)).1
    obtain ⟨z, rfl⟩ := Int.eq_ofNat_of_zero_le (hq x3 (by simp)).1
    obtain ⟨u, rfl⟩ := Int.eq_ofNat_of_zero_le (hq b (by simp)).1
    have hm := (hq m (by simp)).2
    rcases hs with hs | ⟨ho, hn⟩
    · cases hs
    simp [nth] at hn
    have h4 := needN_le m
    refine (full4 g of c m y z u w hT (by omega) (by omega) (by simpa [nth] using hc 0 (by simp)) (by simpa [nth] using hc 1 (by simp)) (by simpa [nth] using hc 2 (by simp)) (by simpa [nth] using hc 3 (by simp))).mono ?_
    rintro e w' ⟨rfl, hb⟩
    refine ⟨ret_bool ?_, hb⟩
    rw [Bool.eq_iff_iff]; simp [isBeg, okq, nth]; omega
  | x :: x2 :: x3 :: x4 :: r, hs, hq, hc =>
    have := hs.len; simp at this
theorem dec_any (s : List Int) (b : Int) (a : Option Addr) (n c : Nat) (w : World) (hT : Tabs w) (hs : Good s) (hq : ∀ x ∈ s ++ [b], 0 ≤ x ∧ x < 256) (hr : Row .u8 w a (s ++ [b])) (hl : (s ++ [b]).length = n) (hf : isBeg (s ++ [b]) = false) :
    Calls Tryd.prog 49 #[.slice a n c] w fun e w' => (∃ r k, e = .returned (.tuple #[.int .i32 r, .int .i64 k]) ∧ ((okq (s ++ [b]) = true ∧ r = numU (s ++ [b]) ∧ k = (s ++ [b]).length ∧ (s ++ [b]).length = needN (nth (s ++ [b]) 0)) ∨ (okq (s ++ [b]) = false ∧ r = 65533 ∧ k = 1))) ∧ Below w.heap.size w w' := by
  obtain ⟨g, of, rfl, hc⟩ := row_cells hr (by simp)
  subst hl
  match s, hs, hq, hc, hf with
  | [], hs, hq, hc, hf =>
    obtain ⟨m, rfl⟩ := Int.eq_ofNat_of_zero_le (hq b (by simp)).1
    have hm := (hq m (by simp)).2
    have c0 : w.cell? ⟨g, of, none⟩ = some (.int .u8 m) := by simpa [nth] using hc 0 (by simp)
    simp [isBeg, okq, nth] at hf
    by_cases h1 : m < 128
    · have hn : needN m = 1 := by simp (disch := omega) only [needN, if_pos]
      refine (dec1 g of c m w h1 c0).mono ?_
      rintro e w' ⟨rfl, hb⟩
      exact ⟨⟨_, _, rfl, .inl ⟨by simp [okq, hn], by simp [numU], by simp, by simp [nth, hn]⟩⟩, hb⟩
    · have hn : needN m = 0 := by
        have : needN m ≠ 1 := by
          unfold needN; (repeat' split) <;> omega
        omega
      refine (decS g of c m 1 _ _ w (by omega) (by omega) c0 (slow1 g of c m w hT (by omega) hn c0)).mono ?_
      rintro e w' ⟨rfl, hb⟩
      exact ⟨⟨_, _, rfl, .inr ⟨by simp [okq, hn], rfl, rfl⟩⟩, hb⟩
  | [x], hs, hq, hc, hf =>
    obtain ⟨m, rfl⟩ := Int.eq_ofNat_of_zero_le (hq x (by simp)).1
    obtain ⟨y, rfl⟩ := Int.eq_ofNat_of_zero_le (hq b (by simp)).1
    have hm := (hq m (by simp)).2
    have c0 : w.cell? ⟨g, of, none⟩ = some (.int .u8 m) := by simpa [nth] using hc 0 (by simp)
    have c1 : w.cell? ⟨g, of + 1, none⟩ = some (.int .u8 y) := by simpa [nth] using hc 1 (by simp)
    rcases hs with hs | ⟨ho, hn⟩
    · cases hs
    simp [nth] at hn
    have h128 : 128 ≤ m := by
      rcases Nat.lt_or_ge m 128 with h | h
      · have : needN m = 1 := by simp (disch := omega) only [needN, if_pos]
        omega
      · exact h
    have hlh := first_cases m (by omega)
    by_cases h2 : needN m = 2
    · have hlo : loN m = 128 ∧ hiN m = 191 := by omega
      by_cases hy : 128 ≤ y ∧ y ≤ 191
      · refine (decS g of c m 2 _ _ w (by omega) h128 c0 (slow2ok g of c m y w hT (by omega) h2 hy.1 hy.2 c0 c1)).mono ?_
        rintro e w' ⟨rfl, hb⟩
        exact ⟨⟨_, _, rfl, .inl ⟨by simp [okq, h2, hlo]; omega, by simp, by simp, by simp [nth, h2]⟩⟩, hb⟩
      · refine (decS g of c m 2 _ _ w (by omega) h128 c0 (slow2no g of c m y w hT (by omega) h2 (by omega) c0 c1)).mono ?_
        rintro e w' ⟨rfl, hb⟩
        exact ⟨⟨_, _, rfl, .inr ⟨by rw [Bool.eq_false_iff]; simp [okq, h2, hlo]; omega, rfl, rfl⟩⟩, hb⟩
    · refine (decS g of c m 2 _ _ w (by omega) h128 c0 (slow2cut g of c m y w hT (by omega) (by omega) c0)).mono ?_
      rintro e w' ⟨rfl, hb⟩
      refine ⟨⟨_, _, rfl, .inr ⟨?_, rfl, rfl⟩⟩, hb⟩
      simp [isBeg, nth] at hf
      rw [Bool.eq_false_iff]; intro h; have := hf h; omega
  | [x, x2], hs, hq, hc, hf =>
    obtain ⟨m, rfl⟩ := Int.eq_ofNat_of_zero_le (hq x (by simp)).1
    obtain ⟨y, rfl⟩ := Int.eq_ofNat_of_zero_le (hq x2 (by simp)).1
    obtain ⟨z, rfl⟩ := Int.eq_ofNat_of_zero_le (hq b (by simp)).1
    have hm := (hq m (by simp)).2
    have c0 : w.cell? ⟨g, of, none⟩ = some (.int .u8 m) := by simpa [nth] using hc 0 (by simp)
    have c1 : w.cell? ⟨g, of + 1, none⟩ = some (.int .u8 y) := by simpa [nth] using hc 1 (by simp)
    have c2 : w.cell? ⟨g, of + 2, none⟩ = some (.int .u8 z) := by simpa [nth] using hc 2 (by simp)
    rcases hs with hs | ⟨ho, hn⟩
    · cases hs
    simp [nth] at hn
    simp [okq] at ho
    have h128 : 128 ≤ m := by
      rcases Nat.lt_or_ge m 128 with h | h
      · have : needN m = 1 := by simp (disch := omega) only [needN, if_pos]
        omega
      · exact h
    by_cases h2 : needN m = 3
    · by_cases hy : 128 ≤ z ∧ z ≤ 191
      · refine (decS g of c m 3 _ _ w (by omega) h128 c0 (slow3ok g of c m y z w hT (by omega) h2 ho.2.1 ho.2.2 hy.1 hy.2 c0 c1 c2)).mono ?_
        rintro e w' ⟨rfl, hb⟩
        exact ⟨⟨_, _, rfl, .inl ⟨by simp [okq, h2]; omega, by simp, by simp, by simp [nth, h2]⟩⟩, hb⟩
      · refine (decS g of c m 3 _ _ w (by omega) h128 c0 (slow3no g of c m y z w hT (by omega) h2 ho.2.1 ho.2.2 (by omega) c0 c1 c2)).mono ?_
        rintro e w' ⟨rfl, hb⟩
        exact ⟨⟨_, _, rfl, .inr ⟨by rw [Bool.eq_false_iff]; simp [okq, h2]; omega, rfl, rfl⟩⟩, hb⟩
    · refine (decS g of c m 3 _ _ w (by omega) h128 c0 (slow3cut g of c m y z w hT (by omega) (by omega) c0)).mono ?_
      rintro e w' ⟨rfl, hb⟩
      refine ⟨⟨_, _, rfl, .inr ⟨?_, rfl, rfl⟩⟩, hb⟩
      simp [isBeg, nth] at hf
      rw [Bool.eq_false_iff]; intro h; have := hf h; omega
  | [x, x2, x3], hs, hq, hc, hf =>
    obtain ⟨m, rfl⟩ := Int.eq_ofNat_of_zero_le (hq x (by simp)).1
    obtain ⟨y, rfl⟩ := Int.eq_ofNat_of_zero_le (hq x2 (by simp)).1
    obtain ⟨z, rfl⟩ := Int.eq_ofNat_of_zero_le (hq x3 (by simp)).1
    obtain ⟨u, rfl⟩ := Int.eq_ofNat_of_zero_le (hq b (by simp)).1
    have hm := (hq m (by simp)).2
    have c0 : w.cell? ⟨g, of, none⟩ = some (.int .u8 m) := by simpa [nth] using hc 0 (by simp)
    have c1 : w.cell? ⟨g, of + 1, none⟩ = some (.int .u8 y) := by simpa [nth] using hc 1 (by simp)
    have c2 : w.cell? ⟨g, of + 2, none⟩ = some (.int .u8 z) := by simpa [nth] using hc 2 (by simp)
    have c3 : w.cell? ⟨g, of + 3, none⟩ = some (.int .u8 u) := by simpa [nth] using hc 3 (by simp)
    rcases hs with hs | ⟨ho, hn⟩
    · cases hs
    simp [nth] at hn
    simp [okq] at ho
    have h4 := needN_le m
    have h128 : 128 ≤ m := by
      rcases Nat.lt_or_ge m 128 with h | h
      · have : needN m = 1 := by simp (disch := omega) only [needN, if_pos]
        omega
      · exact h
    have h2 : needN m = 4 := by omega
    by_cases hy : 128 ≤ u ∧ u ≤ 191
    · refine (decS g of c m 4 _ _ w (by omega) h128 c0 (slow4ok g of c m y z u w hT (by omega) h2 ho.1.2.1 ho.1.2.2 (by omega) (by omega) hy.1 hy.2 c0 c1 c2 c3)).mono ?_
      rintro e w' ⟨rfl, hb⟩
      exact ⟨⟨_, _, rfl, .inl ⟨by simp [okq, h2]; omega, by simp, by simp, by simp [nth, h2]⟩⟩, hb⟩
    · refine (decS g of c m 4 _ _ w (by omega) h128 c0 (slow4no g of c m y z u w hT (by omega) h2 ho.1.2.1 ho.1.2.2 (by omega) (by omega) (by omega) c0 c1 c2 c3)).mono ?_
      rintro e w' ⟨rfl, hb⟩
      exact ⟨⟨_, _, rfl, .inr ⟨by rw [Bool.eq_false_iff]; simp [okq, h2]; omega, rfl, rfl⟩⟩, hb⟩
  | x :: x2 :: x3 :: x4 :: r, hs, hq, hc, hf =>
    have := hs.len; simp at this
end U8
end Go.Proofs.YtknebngapfakjaaDoor
