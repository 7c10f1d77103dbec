/-
  Contracts of the document's functions of layer 4 that read a text, as walks over the translated text. The condition: the text is small; 'Begins' is asked of a beginning and one byte more.
-/
import Derived.Test.YtajpllhljgpidaaU16Rd
import Derived.OwnWalk
namespace Go.Proofs.Ytajpllhljgpidaa
open Go.ChangeShapes Go.WideShapes Go.ChangeAt Go.RowKit
namespace U16
open Bas Sca Stp Scn Cod
set_option linter.unusedVariables false
variable {π : Par}

set_option maxHeartbeats 1000000 in
theorem lower_any (u : Int) (w : World) (h0 : 0 ≤ u) (h1 : u < 4294967296) :
    Calls Try.prog 49 #[.int .u32 u] w fun e w' => e = .returned (.bool (isLo u)) ∧ w' = w := by
  have H2 : Hid ((u / 1024 == 55) = isLo u) := by
    show _ = _
    by_cases h : isLo u = true
    · rw [h]; rw [isLo_iff] at h; simp; omega
    · have h' : isLo u = false := by simpa using h
      rw [h']; rw [isLo_no] at h'; simp; omega
  go_enter Try.func49, Try.ntmps49
  go_wp2
  go_ret
  exact ⟨ret_bool H2.out, rfl⟩
set_option maxHeartbeats 1000000 in
theorem upper_any (u : Int) (w : World) (h0 : 0 ≤ u) (h1 : u < 4294967296) :
    Calls Try.prog 50 #[.int .u32 u] w fun e w' => e = .returned (.bool (isUp u)) ∧ w' = w := by
  have H2 : Hid ((u / 1024 == 54) = isUp u) := by
    show _ = _
    by_cases h : isUp u = true
    · rw [h]; rw [isUp_iff] at h; simp; omega
    · have h' : isUp u = false := by simpa using h
      rw [h']; rw [isUp_no] at h'; simp; omega
  go_enter Try.func50, Try.ntmps50
  go_wp2
  go_ret
  exact ⟨ret_bool H2.out, rfl⟩
/-- The byte at a place of a text. -/
theorem byte_at {str : ByteArray} {q : List Int} (hq : bytesL str = q) {j : Nat} (hj : j < q.length) : ∃ h : j < str.size, ∃ m : Nat, (str[j]'h).toNat = m ∧ nth q j = m ∧ m < 256 := by
  subst hq
  have h : j < str.size := by rw [← bytesL_length]; exact hj
  refine ⟨h, (str[j]'h).toNat, rfl, (str_nth str j h).symm, ?_⟩
  have := bytesL_byte str _ (nth_mem hj)
  rw [← str_nth str j h] at this
  omega
set_option maxHeartbeats 2000000 in
theorem rUnit_any (str : ByteArray) (a b : Int) (r : List Int) (w : World) (hq : bytesL str = a :: b :: r) :
    Calls Try.prog 30 #[.string str, .bool π] w fun e w' => e = .returned (.int .u32 (unitN π a b)) ∧ Below w.heap.size w w' := by
  obtain ⟨h0, m0, e0, n0, l0⟩ := byte_at hq (j := 0) (by simp)
  obtain ⟨h1, m1, e1, n1, l1⟩ := byte_at hq (j := 1) (by simp)
  have HA : Hid (a = m0 ∧ b = m1) := by simp [nth] at n0 n1; exact ⟨n0, n1⟩
  have h0' : (0 : Int) < (str.size : Int) := by omega
  have h1' : (1 : Int) < (str.size : Int) := by omega
  have hw0 : IntKind.u32.wrap (m0 : Int) = m0 := by rw [IntKind.wrap_u32]; omega
  have hw1 : IntKind.u32.wrap (m1 : Int) = m1 := by rw [IntKind.wrap_u32]; omega
  have HL : Hid (m0 < 256 ∧ m1 < 256) := ⟨l0, l1⟩
  clear n0 n1 hq
  cases π
  · go_enter Try.func30, Try.ntmps30
    go_upto_region 3 with fail
    go_region_held3 (fun w' => True) (exact trivial) (fail)
    all_goals
      go_wp2
      go_ret
      exact ⟨ret_u32 (by rw [HA.out.1, HA.out.2]; simp only [unitN, IntKind.wrap_u32, Bool.false_eq_true, if_false]; have := HL.out; omega), (Below.refl _ _).drew⟩
  · go_enter Try.func30, Try.ntmps30
    go_upto_region 2 with fail
    go_region_held3 (fun w' => True) (exact trivial) (fail)
    all_goals
      go_wp2
      go_ret
      exact ⟨ret_u32 (by rw [HA.out.1, HA.out.2]; simp only [unitN, IntKind.wrap_u32, if_true]; have := HL.out; omega), (Below.refl _ _).drew⟩
/-- What 'Begins' answers of a beginning and one byte more. -/
def BegP (π : Par) (s : St) (x : Int) (e : Ending) : Prop := ∃ wh, e = .returned (.tuple #[.bool (fitsN π s x), .bool wh]) ∧ (fitsN π s x = true → wh = (wholeN π (s ++ [x])).isSome)
set_option maxHeartbeats 4000000 in
theorem begins1 (str : ByteArray) (x : Int) (w : World) (hq : bytesL str = [x]) :
    Calls Try.prog 29 #[.string str, .bool π] w fun e w' => BegP π [] x e ∧ Below w.heap.size w w' := by
  obtain ⟨h0, m0, e0, n0, l0⟩ := byte_at hq (j := 0) (by simp)
  have hz : str.size = 1 := by rw [← bytesL_length, hq]; rfl
  have hz' : ((str.size : Int) == 1) = true := by rw [hz]; rfl
  have h0' : (0 : Int) < (str.size : Int) := by omega
  have HA : Hid (x = m0) := by simp [nth] at n0; exact n0
  have hw0 : IntKind.u32.wrap (m0 : Int) = m0 := by rw [IntKind.wrap_u32]; omega
  have hw1 : IntKind.u32.wrap ((m0 : Int) * 256) = (m0 : Int) * 256 := by rw [IntKind.wrap_u32]; omega
  clear hq n0 hz
  cases π
  · go_enter Try.func29, Try.ntmps29
    go_wp2
    go_ret2
    exact ⟨⟨false, rfl, fun _ => rfl⟩, Below.refl _ _⟩
  · go_enter Try.func29, Try.ntmps29
    go_wp2_with fail
    refine (lower_any _ _ (by omega) (by omega)).mono ?_
    rintro e w2 ⟨rfl, rfl⟩
    go_wp2
    go_ret2
    exact ⟨⟨false, by rw [HA.out]; simp [fitsN, hiAt], fun _ => rfl⟩, Below.refl _ _⟩
set_option maxHeartbeats 4000000 in
theorem begins3 (str : ByteArray) (a b x : Int) (w : World) (hq : bytesL str = [a, b, x]) :
    Calls Try.prog 29 #[.string str, .bool π] w fun e w' => BegP π [a, b] x e ∧ Below w.heap.size w w' := by
  obtain ⟨h0, m0, e0, n0, l0⟩ := byte_at hq (j := 2) (by simp)
  have hz : str.size = 3 := by rw [← bytesL_length, hq]; rfl
  have hz' : ((str.size : Int) == 1) = false := by rw [hz]; rfl
  have hz2 : ((str.size : Int) == 2) = false := by rw [hz]; rfl
  have hz3 : ((str.size : Int) == 3) = true := by rw [hz]; rfl
  have h0' : (2 : Int) < (str.size : Int) := by omega
  have HA : Hid (x = m0) := by simp [nth] at n0; exact n0
  have hw0 : IntKind.u32.wrap (m0 : Int) = m0 := by rw [IntKind.wrap_u32]; omega
  have hw1 : IntKind.u32.wrap ((m0 : Int) * 256) = (m0 : Int) * 256 := by rw [IntKind.wrap_u32]; omega
  clear hq n0 hz
  cases π
  · go_enter Try.func29, Try.ntmps29
    go_wp2
    go_ret2
    have hf : fitsN false [a, b] x = true := by simp [fitsN, hiAt]
    exact ⟨⟨false, by rw [hf]; rfl, fun _ => rfl⟩, Below.refl _ _⟩
  · go_enter Try.func29, Try.ntmps29
    go_wp2_with fail
    refine (lower_any _ _ (by omega) (by omega)).mono ?_
    rintro e w2 ⟨rfl, rfl⟩
    go_wp2
    go_ret2
    exact ⟨⟨false, by rw [HA.out]; simp [fitsN, hiAt], fun _ => rfl⟩, Below.refl _ _⟩
set_option maxHeartbeats 4000000 in
theorem begins2 (str : ByteArray) (a x : Int) (w : World) (hq : bytesL str = [a, x]) (hg : Good π [a]) :
    Calls Try.prog 29 #[.string str, .bool π] w fun e w' => BegP π [a] x e ∧ Below w.heap.size w w' := by
  have hz : str.size = 2 := by rw [← bytesL_length, hq]; rfl
  have hz' : ((str.size : Int) == 1) = false := by rw [hz]; rfl
  have hz2 : ((str.size : Int) == 2) = true := by rw [hz]; rfl
  have ha := bytesL_byte str a (by rw [hq]; simp)
  have hx := bytesL_byte str x (by rw [hq]; simp)
  have hub := unit_back (π := π) ha hx
  have hlo := lo_hi (π := π) ha hx
  have HF : Hid (fitsN π [a] x = !isLo (unitN π a x)) := by
    show _ = _
    rw [hlo]
    cases π
    · simp [fitsN, hiAt]
    · simp [fitsN, hiAt]; exact hg rfl
  have HQ : Hid (bytesL str = [a, x]) := hq
  have HU : Hid (0 ≤ unitN π a x ∧ unitN π a x < 65536) := hub.2
  clear hq hz hub hlo hg
  go_enter Try.func29, Try.ntmps29
  go_wp2_with fail
  refine (rUnit_any str a x [] w HQ.out).mono ?_
  rintro e w2 ⟨rfl, b2⟩
  have HB2 : Hid (Below w.heap.size w w2) := b2
  clear b2
  obtain ⟨un, hun⟩ : ∃ un, unitN π a x = un := ⟨_, rfl⟩
  rw [hun] at HU HF ⊢
  have HUN : Hid (unitN π a x = un) := hun
  clear hun
  go_wp2_with fail
  refine (lower_any _ _ HU.out.1 (by have := HU.out; omega)).mono ?_
  rintro e w3 ⟨rfl, rfl⟩
  go_wp2_with fail
  refine (lower_any _ _ HU.out.1 (by have := HU.out; omega)).mono ?_
  rintro e w4 ⟨rfl, rfl⟩
  cases hl : isLo un with
  | true =>
    have HL : Hid (isLo un = true) := hl
    clear hl
    go_wp2
    go_ret2
    exact ⟨⟨false, by rw [HF.out, HL.out]; rfl, fun h => by rw [HF.out, HL.out] at h; cases h⟩, HB2.out⟩
  | false =>
    have HL : Hid (isLo un = false) := hl
    clear hl
    go_wp2_with fail
    refine (upper_any _ _ HU.out.1 (by have := HU.out; omega)).mono ?_
    rintro e w5 ⟨rfl, rfl⟩
    go_wp2
    go_ret2
    refine ⟨⟨!isUp un, by rw [HF.out, HL.out]; rfl, fun h => ?_⟩, HB2.out⟩
    simp only [List.cons_append, List.nil_append, wholeN, HUN.out]
    cases isUp un <;> rfl
set_option maxHeartbeats 4000000 in
theorem begins4 (str : ByteArray) (a b c x : Int) (w : World) (hq : bytesL str = [a, b, c, x]) (hg : Good π [a, b, c]) :
    Calls Try.prog 29 #[.string str, .bool π] w fun e w' => BegP π [a, b, c] x e ∧ Below w.heap.size w w' := by
  have hz : str.size = 4 := by rw [← bytesL_length, hq]; rfl
  have hz' : ((str.size : Int) == 1) = false := by rw [hz]; rfl
  have hz2 : ((str.size : Int) == 2) = false := by rw [hz]; rfl
  have hz3 : ((str.size : Int) == 3) = false := by rw [hz]; rfl
  have hz4 : (2 : Int) ≤ (str.size : Int) := by omega
  have ha := bytesL_byte str c (by rw [hq]; simp)
  have hx := bytesL_byte str x (by rw [hq]; simp)
  have hub := unit_back (π := π) ha hx
  have hlo := lo_hi (π := π) ha hx
  have HF : Hid (fitsN π [a, b, c] x = isLo (unitN π c x)) := by
    show _ = _
    rw [hlo]
    cases π
    · simp [fitsN, hiAt]
    · simp [fitsN, hiAt]; exact hg.2 rfl
  have HQ : Hid (bytesL (str.extract 2 str.size) = [c, x]) := by
    show _ = _
    rw [bytesL_drop, hq]; rfl
  have HU : Hid (0 ≤ unitN π c x ∧ unitN π c x < 65536) := hub.2
  clear hq hub hlo hg hz
  go_enter Try.func29, Try.ntmps29
  go_upto_region 9 with fail
  have B5 := (Below.refl w.heap.size w).drew
  go_region_held3 (fun w' => True) (exact trivial) (first
    | (go_at_call 30; refine (rUnit_any (str.extract 2 str.size) c x [] _ HQ.out).mono ?_; rintro e w5 ⟨rfl, b5⟩; have B5 := below_two B5 b5; clear b5)
    | (go_at_call 49; refine (lower_any (unitN π c x) _ HU.out.1 (by have := HU.out; omega)).mono ?_; rintro e w6 ⟨rfl, rfl⟩))
  all_goals
    go_wp2
    go_ret2
    exact ⟨⟨isLo (unitN π c x), by rw [HF.out]; rfl, fun h => by rw [← HF.out, h]; rfl⟩, B5⟩
theorem begins_any (str : ByteArray) (s : St) (x : Int) (w : World) (hq : bytesL str = s ++ [x]) (hg : Good π s) :
    Calls Try.prog 29 #[.string str, .bool π] w fun e w' => BegP π s x e ∧ Below w.heap.size w w' := by
  match s, hg with
  | [], _ => exact begins1 str x w hq
  | [a], hg => exact begins2 str a x w hq hg
  | [a, b], _ => exact begins3 str a b x w hq
  | [a, b, c], hg => exact begins4 str a b c x w hq hg
end U16
end Go.Proofs.Ytajpllhljgpidaa
