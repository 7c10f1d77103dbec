/-
  The table of layer 7 as plain lists of numbers, and what the loops that lay it come to. No Go text is named here; no condition.
-/
import Derived.Test.YtmihceoeoggjjaaBasMath
namespace Go.Proofs.Ytmihceoeoggjjaa
namespace Per
open Bas
set_option linter.unusedVariables false

/-- What the bytes become, in order. -/
def tabL : List Int := [0, 1, 2, 3, 55, 45, 46, 47, 22, 5, 21, 11, 12, 13, 14, 15, 16, 17, 18, 19, 60, 61, 50, 38, 24, 25, 63, 39, 28, 29, 30, 31,
   64, 90, 127, 123, 91, 108, 80, 125, 77, 93, 92, 78, 107, 96, 75, 97, 240, 241, 242, 243, 244, 245, 246, 247, 248, 249, 122, 94, 76, 126, 110, 111,
   124, 193, 194, 195, 196, 197, 198, 199, 200, 201, 209, 210, 211, 212, 213, 214, 215, 216, 217, 226, 227, 228, 229, 230, 231, 232, 233, 173, 224, 189, 95, 109,
   121, 129, 130, 131, 132, 133, 134, 135, 136, 137, 145, 146, 147, 148, 149, 150, 151, 152, 153, 162, 163, 164, 165, 166, 167, 168, 169, 192, 79, 208, 161, 7,
   32, 33, 34, 35, 36, 37, 6, 23, 40, 41, 42, 43, 44, 9, 10, 27, 48, 49, 26, 51, 52, 53, 54, 8, 56, 57, 58, 59, 4, 20, 62, 255,
   65, 66, 67, 68, 69, 70, 71, 72, 73, 74, 81, 82, 83, 84, 85, 86, 87, 88, 89, 98, 99, 100, 101, 102, 103, 104, 105, 106, 112, 113, 114, 115,
   116, 117, 118, 119, 120, 128, 138, 139, 140, 141, 142, 143, 144, 154, 155, 156, 157, 158, 159, 160, 170, 171, 172, 174, 175, 176, 177, 178, 179, 180, 181, 182,
   183, 184, 185, 186, 187, 188, 190, 191, 202, 203, 204, 205, 206, 207, 218, 219, 220, 221, 222, 223, 225, 234, 235, 236, 237, 238, 239, 250, 251, 252, 253, 254]
/-- Which byte becomes each one. -/
def frL : List Int := [0, 1, 2, 3, 156, 9, 134, 127, 151, 141, 142, 11, 12, 13, 14, 15, 16, 17, 18, 19, 157, 10, 8, 135, 24, 25, 146, 143, 28, 29, 30, 31,
   128, 129, 130, 131, 132, 133, 23, 27, 136, 137, 138, 139, 140, 5, 6, 7, 144, 145, 22, 147, 148, 149, 150, 4, 152, 153, 154, 155, 20, 21, 158, 26,
   32, 160, 161, 162, 163, 164, 165, 166, 167, 168, 169, 46, 60, 40, 43, 124, 38, 170, 171, 172, 173, 174, 175, 176, 177, 178, 33, 36, 42, 41, 59, 94,
   45, 47, 179, 180, 181, 182, 183, 184, 185, 186, 187, 44, 37, 95, 62, 63, 188, 189, 190, 191, 192, 193, 194, 195, 196, 96, 58, 35, 64, 39, 61, 34,
   197, 97, 98, 99, 100, 101, 102, 103, 104, 105, 198, 199, 200, 201, 202, 203, 204, 106, 107, 108, 109, 110, 111, 112, 113, 114, 205, 206, 207, 208, 209, 210,
   211, 126, 115, 116, 117, 118, 119, 120, 121, 122, 212, 213, 214, 91, 215, 216, 217, 218, 219, 220, 221, 222, 223, 224, 225, 226, 227, 228, 229, 93, 230, 231,
   123, 65, 66, 67, 68, 69, 70, 71, 72, 73, 232, 233, 234, 235, 236, 237, 125, 74, 75, 76, 77, 78, 79, 80, 81, 82, 238, 239, 240, 241, 242, 243,
   92, 244, 83, 84, 85, 86, 87, 88, 89, 90, 245, 246, 247, 248, 249, 250, 48, 49, 50, 51, 52, 53, 54, 55, 56, 57, 251, 252, 253, 254, 255, 159]
/-- What the first 160 bytes become. -/
def rowL : List Int := [0, 1, 2, 3, 55, 45, 46, 47, 22, 5, 21, 11, 12, 13, 14, 15, 16, 17, 18, 19, 60, 61, 50, 38, 24, 25, 63, 39, 28, 29, 30, 31,
   64, 90, 127, 123, 91, 108, 80, 125, 77, 93, 92, 78, 107, 96, 75, 97, 240, 241, 242, 243, 244, 245, 246, 247, 248, 249, 122, 94, 76, 126, 110, 111,
   124, 193, 194, 195, 196, 197, 198, 199, 200, 201, 209, 210, 211, 212, 213, 214, 215, 216, 217, 226, 227, 228, 229, 230, 231, 232, 233, 173, 224, 189, 95, 109,
   121, 129, 130, 131, 132, 133, 134, 135, 136, 137, 145, 146, 147, 148, 149, 150, 151, 152, 153, 162, 163, 164, 165, 166, 167, 168, 169, 192, 79, 208, 161, 7,
   32, 33, 34, 35, 36, 37, 6, 23, 40, 41, 42, 43, 44, 9, 10, 27, 48, 49, 26, 51, 52, 53, 54, 8, 56, 57, 58, 59, 4, 20, 62, 255]
theorem tabL_len : tabL.length = 256 := by decide +kernel
theorem frL_len : frL.length = 256 := by decide +kernel
theorem rowL_len : rowL.length = 160 := by decide +kernel

/-- A number as a place. -/
def at_ (l : List Int) (x : Int) : Int := nth l x.toNat
theorem at_nat (l : List Int) (k : Nat) : at_ l k = nth l k := rfl
/-- A list, each number by a table. -/
def turnL (t l : List Int) : List Int := l.map (at_ t)
theorem turnL_len (t l : List Int) : (turnL t l).length = l.length := by simp [turnL]
theorem turnL_append (t l m : List Int) : turnL t (l ++ m) = turnL t l ++ turnL t m := by simp [turnL]
theorem nth_turnL (t l : List Int) (k : Nat) (h : k < l.length) : nth (turnL t l) k = at_ t (nth l k) := by
  simp [nth, turnL, h]

theorem tab_fact : ∀ k : Fin 256, 0 ≤ nth tabL k.val ∧ nth tabL k.val < 256 ∧ at_ frL (nth tabL k.val) = k.val := by decide +kernel
theorem fr_fact : ∀ k : Fin 256, 0 ≤ nth frL k.val ∧ nth frL k.val < 256 ∧ at_ tabL (nth frL k.val) = k.val := by decide +kernel
theorem row_fact : ∀ k : Fin 160, 0 ≤ nth rowL k.val ∧ nth rowL k.val < 256 := by decide +kernel
theorem nat_of {x : Int} (h0 : 0 ≤ x) (h1 : x < 256) : ∃ k : Nat, x = (k : Int) ∧ k < 256 := ⟨x.toNat, by omega, by omega⟩
theorem tab_byte {x : Int} (h0 : 0 ≤ x) (h1 : x < 256) : 0 ≤ at_ tabL x ∧ at_ tabL x < 256 := by
  obtain ⟨k, rfl, hk⟩ := nat_of h0 h1
  have := tab_fact ⟨k, hk⟩
  exact ⟨this.1, this.2.1⟩
theorem fr_byte {x : Int} (h0 : 0 ≤ x) (h1 : x < 256) : 0 ≤ at_ frL x ∧ at_ frL x < 256 := by
  obtain ⟨k, rfl, hk⟩ := nat_of h0 h1
  have := fr_fact ⟨k, hk⟩
  exact ⟨this.1, this.2.1⟩
theorem fr_tab {x : Int} (h0 : 0 ≤ x) (h1 : x < 256) : at_ frL (at_ tabL x) = x := by
  obtain ⟨k, rfl, hk⟩ := nat_of h0 h1
  exact (tab_fact ⟨k, hk⟩).2.2
theorem tab_fr {x : Int} (h0 : 0 ≤ x) (h1 : x < 256) : at_ tabL (at_ frL x) = x := by
  obtain ⟨k, rfl, hk⟩ := nat_of h0 h1
  exact (fr_fact ⟨k, hk⟩).2.2
theorem turn_back {t u l : List Int} (h : ∀ x ∈ l, at_ t (at_ u x) = x) : turnL t (turnL u l) = l := by
  unfold turnL
  rw [List.map_map]
  conv => rhs; rw [← List.map_id l]
  exact List.map_congr_left (fun x hx => h x hx)

/-- A pair laid into the two tables, which lie one behind the other. -/
def pairL (l : List Int) (b x : Nat) : List Int := (l.set b x).set (256 + x) b
theorem pairL_len (l : List Int) (b x : Nat) : (pairL l b x).length = l.length := by simp [pairL]
/-- The listed byte at a place. -/
def rowN (k : Nat) : Nat := (nth rowL k).toNat
theorem rowN_lt {k : Nat} (h : k < 160) : rowN k < 256 ∧ (rowN k : Int) = nth rowL k := by
  have := row_fact ⟨k, h⟩
  unfold rowN
  simp only at this
  omega
/-- Both tables behind the first k listed bytes. -/
def lay1 : Nat → List Int
  | 0 => List.replicate 512 0
  | k + 1 => pairL (lay1 k) k (rowN k)
/-- Which bytes are taken then. -/
def tk1 : Nat → List Bool
  | 0 => List.replicate 256 false
  | k + 1 => (tk1 k).set (rowN k) true
/-- Is a byte among the listed ones? -/
def inR (x : Nat) : Bool := rowL.any fun y => y == (x : Int)
theorem lay1_len (k : Nat) : (lay1 k).length = 512 := by
  induction k with
  | zero => rw [lay1, List.length_replicate]
  | succ k ih => rw [lay1, pairL_len, ih]
theorem tk1_len (k : Nat) : (tk1 k).length = 256 := by
  induction k with
  | zero => rw [tk1, List.length_replicate]
  | succ k ih => rw [tk1, List.length_set, ih]
theorem tk1_all : tk1 160 = (List.range 256).map inR := by decide +kernel
theorem tk1_at (k : Nat) (h : k < 256) : (tk1 160)[k]? = some (inR k) := by
  rw [tk1_all]; simp [h]
/-- How many pairs are laid, and both tables, behind the first k bytes of the rest. -/
def nx : Nat → Nat
  | 0 => 160
  | k + 1 => if inR k then nx k else nx k + 1
def lay2 : Nat → List Int
  | 0 => lay1 160
  | k + 1 => if inR k then lay2 k else pairL (lay2 k) (nx k) k
theorem lay2_len (k : Nat) : (lay2 k).length = 512 := by
  induction k with
  | zero => exact lay1_len _
  | succ k ih =>
    rw [lay2]
    split
    · exact ih
    · rw [pairL_len, ih]
theorem nx_all : nx 256 = 256 := by decide +kernel
theorem nx_mono (k d : Nat) : nx k ≤ nx (k + d) := by
  induction d with
  | zero => exact Nat.le_refl _
  | succ d ih =>
    refine Nat.le_trans ih ?_
    rw [show k + (d + 1) = (k + d) + 1 from rfl, nx]
    split <;> omega
theorem nx_le {k : Nat} (h : k ≤ 256) : nx k ≤ 256 := by
  have := nx_mono k (256 - k)
  rw [show k + (256 - k) = 256 by omega, nx_all] at this
  exact this
theorem nx_lt {k : Nat} (h : k < 256) (hr : inR k = false) : nx k < 256 := by
  have := nx_le (k := k + 1) h
  rw [nx, hr] at this
  simp at this
  omega
theorem lay2_all : lay2 256 = tabL ++ frL := by decide +kernel

/-- The document's list behind the first k bytes of the rest. -/
def allK : Nat → List Int
  | 0 => rowL
  | k + 1 => if inR k then allK k else allK k ++ [(k : Int)]
theorem allK_all : allK 256 = tabL := by decide +kernel
theorem allK_len (k : Nat) : 160 ≤ (allK k).length ∧ (allK k).length ≤ 160 + k := by
  induction k with
  | zero => simp [allK, rowL_len]
  | succ k ih =>
    rw [allK]
    split
    · omega
    · simp; omega
theorem allK_row (k i : Nat) (h : i < 160) : nth (allK k) i = nth rowL i := by
  induction k with
  | zero => rfl
  | succ k ih =>
    rw [allK]
    split
    · exact ih
    · rw [nth_append_left (by have := (allK_len k).1; omega)]; exact ih
/-- Is a byte among the first i listed ones? -/
def inK (x i : Nat) : Bool := (rowL.take i).any fun y => y == (x : Int)
theorem inK_zero (x : Nat) : inK x 0 = false := rfl
theorem inK_succ (x i : Nat) (h : i < 160) : inK x (i + 1) = (inK x i || nth rowL i == (x : Int)) := by
  unfold inK
  rw [take_snoc rowL i (by rw [rowL_len]; exact h), List.any_append]
  simp
theorem inK_all (x : Nat) : inK x 160 = inR x := by
  unfold inK inR
  rw [List.take_of_length_le (by rw [rowL_len]; exact Nat.le_refl _)]
/-- The document's list backward, behind the first k bytes. -/
def bkK : Nat → List Int
  | 0 => List.replicate 256 0
  | k + 1 => (bkK k).set (nth tabL k).toNat k
theorem bkK_len (k : Nat) : (bkK k).length = 256 := by
  induction k with
  | zero => rw [bkK, List.length_replicate]
  | succ k ih => rw [bkK, List.length_set, ih]
theorem bkK_all : bkK 256 = frL := by decide +kernel

/-- What a digit of sixteen is worth. -/
def digN (c : Int) : Int := if 65 ≤ c then c - 65 + 10 else c - 48
/-- The digits of the listed bytes. -/
def digL : List Int := [48, 48, 48, 49, 48, 50, 48, 51, 51, 55, 50, 68, 50, 69, 50, 70, 49, 54, 48, 53, 49, 53, 48, 66, 48, 67, 48, 68, 48, 69, 48, 70,
   49, 48, 49, 49, 49, 50, 49, 51, 51, 67, 51, 68, 51, 50, 50, 54, 49, 56, 49, 57, 51, 70, 50, 55, 49, 67, 49, 68, 49, 69, 49, 70,
   52, 48, 53, 65, 55, 70, 55, 66, 53, 66, 54, 67, 53, 48, 55, 68, 52, 68, 53, 68, 53, 67, 52, 69, 54, 66, 54, 48, 52, 66, 54, 49,
   70, 48, 70, 49, 70, 50, 70, 51, 70, 52, 70, 53, 70, 54, 70, 55, 70, 56, 70, 57, 55, 65, 53, 69, 52, 67, 55, 69, 54, 69, 54, 70,
   55, 67, 67, 49, 67, 50, 67, 51, 67, 52, 67, 53, 67, 54, 67, 55, 67, 56, 67, 57, 68, 49, 68, 50, 68, 51, 68, 52, 68, 53, 68, 54,
   68, 55, 68, 56, 68, 57, 69, 50, 69, 51, 69, 52, 69, 53, 69, 54, 69, 55, 69, 56, 69, 57, 65, 68, 69, 48, 66, 68, 53, 70, 54, 68,
   55, 57, 56, 49, 56, 50, 56, 51, 56, 52, 56, 53, 56, 54, 56, 55, 56, 56, 56, 57, 57, 49, 57, 50, 57, 51, 57, 52, 57, 53, 57, 54,
   57, 55, 57, 56, 57, 57, 65, 50, 65, 51, 65, 52, 65, 53, 65, 54, 65, 55, 65, 56, 65, 57, 67, 48, 52, 70, 68, 48, 65, 49, 48, 55,
   50, 48, 50, 49, 50, 50, 50, 51, 50, 52, 50, 53, 48, 54, 49, 55, 50, 56, 50, 57, 50, 65, 50, 66, 50, 67, 48, 57, 48, 65, 49, 66,
   51, 48, 51, 49, 49, 65, 51, 51, 51, 52, 51, 53, 51, 54, 48, 56, 51, 56, 51, 57, 51, 65, 51, 66, 48, 52, 49, 52, 51, 69, 70, 70]
theorem digL_len : digL.length = 320 := by decide +kernel
theorem dig_fact : ∀ k : Fin 160, 16 * digN (nth digL (2 * k.val)) + digN (nth digL (2 * k.val + 1)) = nth rowL k.val := by decide +kernel
theorem dig_byte : ∀ k : Fin 320, 48 ≤ nth digL k.val ∧ nth digL k.val < 71 := by decide +kernel
end Per
end Go.Proofs.Ytmihceoeoggjjaa
