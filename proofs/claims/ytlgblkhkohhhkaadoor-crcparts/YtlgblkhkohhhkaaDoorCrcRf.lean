/-
  Contracts of the document's Bit and Of of layer 16, as walks over the translated text. The condition: texts are of at most a million bytes.
-/
import Derived.Test.YtlgblkhkohhhkaaDoorCrc2
namespace Go.Proofs.YtlgblkhkohhhkaaDoor
open Go.ChangeShapes Go.WideShapes Go.ChangeAt Go.RowKit
namespace Crc
open Bas Txt
set_option linter.unusedVariables false

theorem bit_div (c i : Nat) : bitOf ((c : Nat) : Int) i = decide (c / 2 ^ i % 2 = 1) := by
  rw [bit_test, Nat.testBit_eq_decide_div_mod_eq]
/-- A bit of a text's bytes. -/
def bitL (l : List Int) (k : Nat) : Bool := bitOf (nth l (k / 8)) (k % 8)
theorem bitL_get {l : List Int} {k : Nat} (h : k < 8 * l.length) : (bitsB l)[k]? = some (bitL l k) := by
  have hk : k / 8 < l.length := by omega
  rw [bitsB_get, List.getElem?_eq_getElem hk]
  unfold bitL nth
  rw [List.getElem?_eq_getElem hk]
  rfl
set_option maxHeartbeats 1000000 in
theorem rBit_any (s : ByteArray) (k : Nat) (w : World) (h : k < 8 * s.size) (hs : s.size ≤ 1000000) :
    Calls Tryd.prog 18 #[.string s, .int .i64 (k : Int)] w fun e w' => e = .returned (.bool (bitL (bytesL s) k)) ∧ w' = w := by
  have hq : k / 8 < s.size := by omega
  have HB : Hid (bitL (bytesL s) k = decide ((s[k / 8]'hq).toNat / 2 ^ (k % 8) % 2 = 1)) := by
    show _ = _
    unfold bitL
    rw [← str_nth s (k / 8) hq, bit_div]
  obtain ⟨q, hqq⟩ : ∃ q, k / 8 = q := ⟨_, rfl⟩
  obtain ⟨r, hrr⟩ : ∃ r, k % 8 = r := ⟨_, rfl⟩
  have hr8 : r < 8 := by omega
  rw [hrr] at HB
  rw [HB.out]
  subst hqq
  have hb := (s[k / 8]'hq).toNat_lt
  clear HB
  go_enter Tryd.func18, Tryd.ntmps18
  go_wp2
  go_loopw [6, 5] (fun i c wr => ∃ j : Nat, i = .int .i64 j ∧ j ≤ r ∧ c = .int .u8 (((s[k / 8]'hq).toNat / 2 ^ j : Nat) : Int) ∧ wr = w) (fun i _ _ => r - (intOf i).toNat)
  case atStart => exact ⟨0, rfl, Nat.zero_le _, by simp, rfl⟩
  case round =>
    obtain ⟨j, rfl, hj, rfl, rfl⟩ := hrel
    obtain ⟨c, hc⟩ : ∃ c, (s[k / 8]'hq).toNat = c := ⟨_, rfl⟩
    rw [hc] at hb ⊢
    have hd : c / 2 ^ j ≤ c := Nat.div_le_self _ _
    have HN : Hid (c / 2 ^ (j + 1) = c / 2 ^ j / 2) := by show _ = _; rw [Nat.pow_succ, Nat.div_div_eq_div_mul]
    obtain ⟨d, hdd⟩ : ∃ d, c / 2 ^ j = d := ⟨_, rfl⟩
    rw [hdd] at HN hd ⊢
    have hd2 : d < 256 := by omega
    have ek : (k : Int) % 8 = (r : Int) := by omega
    by_cases hlt : j < r
    · have i1 : (j : Int) < (r : Int) := by omega
      clear hdd hc
      go_wp2
      go_roundw
      case rel => exact ⟨j + 1, by go_num, by omega, by rw [HN.out]; push_cast; rfl, trivial⟩
      case measure => simp [intOf]; omega
    · have hjr : j = r := by omega
      subst hjr
      have i1 : ¬ (j : Int) < (k : Int) % 8 := by omega
      have HE : Hid ((((d : Int) % 2) == 1) = decide ((s[k / 8]'hq).toNat / 2 ^ j % 2 = 1)) := by
        show _ = _
        rw [hc, hdd]
        by_cases e : d % 2 = 1
        · rw [decide_eq_true e]; simp; omega
        · rw [decide_eq_false e]; simp; omega
      clear hdd hc
      go_wp2
      go_ret
      exact ⟨ret_bool HE.out, rfl⟩
set_option maxHeartbeats 4000000 in
theorem rOf_any (s : ByteArray) (w : World) (hs : s.size ≤ 1000000) :
    Calls Tryd.prog 9 #[.string s] w fun e w' => e = .returned (.int .u32 ((sumI (bytesL s) : Nat) : Int)) ∧ w' = w := by
  have HL : Hid ((bytesL s).length = s.size) := bytesL_length s
  go_enter Tryd.func9, Tryd.ntmps9
  go_wp2
  go_loopw [4, 3] (fun i x wr => ∃ k : Nat, i = .int .i64 k ∧ k ≤ 8 * s.size ∧ x = .int .u32 ((feed ones ((bitsB (bytesL s)).take k) : Nat) : Int) ∧ wr = w) (fun i _ _ => 8 * s.size - (intOf i).toNat)
  case atStart => exact ⟨0, rfl, Nat.zero_le _, rfl, rfl⟩
  case round =>
    obtain ⟨k, rfl, hk, rfl, rfl⟩ := hrel
    by_cases hlt : k < 8 * s.size
    · have HN := feed_take (bitsB (bytesL s)) ones k _ (bitL_get (by rw [HL.out]; exact hlt))
      have hr := feed_lt ((bitsB (bytesL s)).take k) (show ones < 4294967296 by decide)
      have HB : Hid (∀ w, Calls Tryd.prog 18 #[.string s, .int .i64 (k : Int)] w fun e w' => e = .returned (.bool (bitL (bytesL s) k)) ∧ w' = w) := fun w => rBit_any s k w hlt hs
      obtain ⟨B, hBB⟩ : ∃ B, bitL (bytesL s) k = B := ⟨_, rfl⟩
      obtain ⟨x, hx⟩ : ∃ x, feed ones ((bitsB (bytesL s)).take k) = x := ⟨_, rfl⟩
      rw [hBB] at HB HN
      rw [hx] at HN hr ⊢
      rw [step_doc] at HN
      have i1 : (k : Int) < 8 * (s.size : Int) := by omega
      have e1 : bits .xor .u32 ((x : Int) / 2) 3988292384 = ((x / 2 ^^^ poly : Nat) : Int) := u32_xor_nat (x / 2) 3988292384 (by omega) (by decide)
      clear hx hBB
      rcases Nat.mod_two_eq_zero_or_one x with hm | hm
      · have em : (x : Int) % 2 = 0 := by omega
        cases B
        · have HN2 : Hid (feed ones ((bitsB (bytesL s)).take (k + 1)) = x / 2) := by show _ = _; rw [HN, hm]; rfl
          clear HN
          go_wp2_with fail
          refine (HB.out wr).mono ?_
          rintro e w1 ⟨rfl, hw⟩
          subst hw
          go_wp2
          go_roundw
          case rel => exact ⟨k + 1, by go_num, by omega, by rw [HN2.out]; push_cast; rfl, trivial⟩
          case measure => simp [intOf]; omega
        · have HN2 : Hid (feed ones ((bitsB (bytesL s)).take (k + 1)) = x / 2 ^^^ poly) := by show _ = _; rw [HN, hm]; rfl
          clear HN
          go_wp2_with fail
          refine (HB.out wr).mono ?_
          rintro e w1 ⟨rfl, hw⟩
          subst hw
          go_wp2
          go_roundw
          case rel => exact ⟨k + 1, by go_num, by omega, by rw [HN2.out], trivial⟩
          case measure => simp [intOf]; omega
      · have em : (x : Int) % 2 = 1 := by omega
        cases B
        · have HN2 : Hid (feed ones ((bitsB (bytesL s)).take (k + 1)) = x / 2 ^^^ poly) := by show _ = _; rw [HN, hm]; rfl
          clear HN
          go_wp2_with fail
          refine (HB.out wr).mono ?_
          rintro e w1 ⟨rfl, hw⟩
          subst hw
          go_wp2
          go_roundw
          case rel => exact ⟨k + 1, by go_num, by omega, by rw [HN2.out], trivial⟩
          case measure => simp [intOf]; omega
        · have HN2 : Hid (feed ones ((bitsB (bytesL s)).take (k + 1)) = x / 2) := by show _ = _; rw [HN, hm]; rfl
          clear HN
          go_wp2_with fail
          refine (HB.out wr).mono ?_
          rintro e w1 ⟨rfl, hw⟩
          subst hw
          go_wp2
          go_roundw
          case rel => exact ⟨k + 1, by go_num, by omega, by rw [HN2.out]; push_cast; rfl, trivial⟩
          case measure => simp [intOf]; omega
    · have HF : Hid ((bitsB (bytesL s)).take k = bitsB (bytesL s)) := List.take_of_length_le (by rw [bitsB_len, HL.out]; omega)
      rw [HF.out]
      have hr := regI_lt (bytesL s)
      have HE : Hid (4294967295 - ((feed ones (bitsB (bytesL s)) : Nat) : Int) = ((sumI (bytesL s) : Nat) : Int)) := by
        show _ = _
        rw [sumI_reg]; unfold regI at hr ⊢; omega
      unfold regI at hr
      obtain ⟨R, hR⟩ : ∃ R, feed ones (bitsB (bytesL s)) = R := ⟨_, rfl⟩
      rw [hR] at hr HE ⊢
      have i1 : ¬ (k : Int) < 8 * (s.size : Int) := by omega
      clear hR
      go_wp2
      go_ret
      exact ⟨ret_u32 HE.out, rfl⟩
end Crc
end Go.Proofs.YtlgblkhkohhhkaaDoor
