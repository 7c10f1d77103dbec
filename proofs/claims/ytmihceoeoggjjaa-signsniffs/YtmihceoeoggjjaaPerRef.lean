/-
  Contracts of the document's functions of layer 7, as walks over the translated text. The condition: texts are of at most a million bytes.
-/
import Derived.Test.YtmihceoeoggjjaaPer1
namespace Go.Proofs.Ytmihceoeoggjjaa
open Go.ChangeShapes Go.WideShapes Go.ChangeAt Go.RowKit
namespace Per
open Bas Txt
set_option linter.unusedVariables false

set_option maxHeartbeats 4000000 in
set_option maxRecDepth 100000 in
theorem rRows_any (w : World) : Calls Try.prog 59 #[] w fun e w' => e = .returned (.string (strOf digL)) ∧ w' = w := by
  have H : Hid (∀ s : ByteArray, s = strOf digL → Ending.returned (.string s) = .returned (.string (strOf digL))) := fun s h => by rw [h]
  go_enter Try.func59, Try.ntmps59
  go_wp2
  go_ret
  exact ⟨H.out _ (by decide +kernel), rfl⟩
set_option maxHeartbeats 400000 in
theorem rDigit_any (c : Int) (w : World) (h0 : 48 ≤ c) (h1 : c < 71) : Calls Try.prog 58 #[.int .u8 c] w fun e w' => e = .returned (.int .i64 (digN c)) ∧ w' = w := by
  by_cases h : 65 ≤ c
  · have he : digN c = c - 65 + 10 := by unfold digN; rw [if_pos h]
    rw [he]
    clear he
    go_enter Try.func58, Try.ntmps58
    go_wp2
    go_ret
    exact ⟨ret_int (by omega), rfl⟩
  · have he : digN c = c - 48 := by unfold digN; rw [if_neg h]
    rw [he]
    clear he
    go_enter Try.func58, Try.ntmps58
    go_wp2
    go_ret
    exact ⟨ret_int (by omega), rfl⟩
theorem digL_bytes : ∀ x ∈ digL, 0 ≤ x ∧ x < 256 := by
  intro x hx
  obtain ⟨i, hi, he⟩ := List.mem_iff_getElem.1 hx
  have hi' : i < 320 := by rw [digL_len] at hi; exact hi
  have := dig_byte ⟨i, hi'⟩
  have h2 : nth digL i = x := by rw [← he, nth, List.getElem?_eq_getElem hi]; rfl
  simp only [h2] at this
  omega
theorem digS_ex : ∃ S, strOf digL = S ∧ S.size = 320 ∧ bytesL S = digL := ⟨_, rfl, by rw [strOf_size, digL_len], bytesL_strOf _ digL_bytes⟩
theorem str_at {S : ByteArray} {l : List Int} (h : bytesL S = l) (k : Nat) (hk : k < S.size) : ((S[k]'hk).toNat : Int) = nth l k := by rw [str_nth, h]
set_option maxHeartbeats 4000000 in
set_option maxRecDepth 100000 in
theorem rKnown_any (k : Nat) (w : World) (h : k < 160) : Calls Try.prog 54 #[.int .i64 k] w fun e w' => e = .returned (.int .i64 (nth rowL k)) ∧ w' = w := by
  have hd1 := dig_byte ⟨2 * k, by omega⟩
  have hd2 := dig_byte ⟨2 * k + 1, by omega⟩
  have HF : Hid (16 * digN (nth digL (2 * k)) + digN (nth digL (2 * k + 1)) = nth rowL k) := dig_fact ⟨k, h⟩
  obtain ⟨S, hS, hz, hX⟩ := digS_ex
  have HR : Hid (∀ w, Calls Try.prog 59 #[] w fun e w' => e = .returned (.string S) ∧ w' = w) := by rw [← hS]; exact rRows_any
  clear hS
  simp only at hd1 hd2
  have e1 : ((S[2 * k]'(by omega)).toNat : Int) = nth digL (2 * k) := str_at hX _ _
  have e2 : ((S[2 * k + 1]'(by omega)).toNat : Int) = nth digL (2 * k + 1) := str_at hX _ _
  have hg1 : 0 ≤ digN (nth digL (2 * k)) ∧ digN (nth digL (2 * k)) ≤ 16 := by unfold digN; split <;> omega
  have hg2 : 0 ≤ digN (nth digL (2 * k + 1)) ∧ digN (nth digL (2 * k + 1)) ≤ 16 := by unfold digN; split <;> omega
  obtain ⟨a, ha⟩ : ∃ a, nth digL (2 * k) = a := ⟨_, rfl⟩
  obtain ⟨b, hb⟩ : ∃ b, nth digL (2 * k + 1) = b := ⟨_, rfl⟩
  rw [ha] at hd1 HF e1 hg1
  rw [hb] at hd2 HF e2 hg2
  clear ha hb hX
  go_enter Try.func54, Try.ntmps54
  go_wp2_with fail
  refine (HR.out w).mono ?_
  rintro e w1 ⟨rfl, hw⟩
  subst hw
  go_wp2_with fail
  refine (rDigit_any a w1 hd1.1 hd1.2).mono ?_
  rintro e w2 ⟨rfl, hw⟩
  subst hw
  go_wp2_with fail
  refine (HR.out w2).mono ?_
  rintro e w3 ⟨rfl, hw⟩
  subst hw
  go_wp2_with fail
  refine (rDigit_any b w3 hd2.1 hd2.2).mono ?_
  rintro e w4 ⟨rfl, hw⟩
  subst hw
  go_wp2
  go_ret
  exact ⟨ret_int HF.out, rfl⟩

end Per
end Go.Proofs.Ytmihceoeoggjjaa
