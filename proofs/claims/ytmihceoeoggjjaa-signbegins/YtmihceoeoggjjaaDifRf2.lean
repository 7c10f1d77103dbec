/-
  The contract of the document's Pack of layer 11, as a walk over the translated text. The condition: a difference that has bytes.
-/
import Derived.Test.YtmihceoeoggjjaaDifRf1
namespace Go.Proofs.Ytmihceoeoggjjaa
open Go.ChangeShapes Go.WideShapes Go.ChangeAt Go.RowKit
namespace Dif
open Bas Txt
set_option linter.unusedVariables false

set_option maxHeartbeats 8000000 in
set_option maxRecDepth 100000 in
theorem rPack_any (d : Int) (w : World) (h : inR d) :
    Calls Try.prog 26 #[.int .i64 d] w fun e w' => e = .returned (.string (strOf (packL d))) ∧ Below w.heap.size w w' := by
  have HI : Hid (∀ b : Nat, 34 ≤ b → b ≤ 254 → (lbI b ≤ d ↔ (b : Int) ≤ firstB d)) := fun b h1 h2 => first_iff h (by omega) (by omega)
  have HFL : Hid (ltI (firstB d) = (trN (rowD d) : Int) ∧ d - lbI (firstB d) = ((abv d % p243 (trN (rowD d)) : Nat) : Int)) := first_least h
  have hfr := first_rng h
  have HP : Hid (packL d = firstB d :: digs (trN (rowD d)) (abv d)) := rfl
  have hal := abv_le h
  have htl := trN_le (rowD d)
  have hd : -1114111 ≤ d ∧ d ≤ 1114111 := h
  have hlb : -20000000 ≤ lbI (firstB d) ∧ lbI (firstB d) ≤ 20000000 := by
    have h2 := HFL.out.2
    have h3 := Nat.mod_le (abv d) (p243 (trN (rowD d)))
    omega
  obtain ⟨L, hL⟩ : ∃ L, packL d = L := ⟨_, rfl⟩
  obtain ⟨t, ht⟩ : ∃ t, trN (rowD d) = t := ⟨_, rfl⟩
  obtain ⟨a, ha⟩ : ∃ a, abv d = a := ⟨_, rfl⟩
  obtain ⟨f, hf⟩ : ∃ f : Nat, firstB d = (f : Int) := ⟨(firstB d).toNat, by omega⟩
  rw [hL] at HP ⊢
  rw [ht] at HFL HP htl
  rw [ha] at HFL HP hal
  rw [hf] at HI HFL hfr HP hlb
  clear hL ht ha hf h
  obtain ⟨hd1, hd2⟩ := hd
  have HLB : Hid (∀ (b : Nat) w, 34 ≤ b → b ≤ 254 → Calls Try.prog 38 #[.int .u8 b] w fun e w' => e = .returned (.tuple #[.int .i64 (lbI b), .int .i64 (ltI b)]) ∧ w' = w) := fun b w h1 h2 => rLeast_any b w (by omega) (by omega)
  have HLF : Hid (∀ w, Calls Try.prog 38 #[.int .u8 f] w fun e w' => e = .returned (.tuple #[.int .i64 (lbI f), .int .i64 t]) ∧ w' = w) := fun w => by
    have := rLeast_any f w (by omega) (by omega)
    rwa [HFL.out.1] at this
  have HDM : Hid (d - lbI f = ((a % p243 t : Nat) : Int)) := HFL.out.2
  clear HFL
  go_enter Try.func26, Try.ntmps26
  go_wp2
  go_loopw [3, 4] (fun x i wr => ∃ (b c : Nat), i = .int .i64 b ∧ x = .int .u8 c ∧ 34 ≤ b ∧ b ≤ 255 ∧ c = min (b - 1) f ∧ wr = w) (fun _ i _ => 255 - (intOf i).toNat)
  case atStart => exact ⟨34, 33, rfl, rfl, by decide, by decide, by omega, rfl⟩
  case round =>
    obtain ⟨b, c, rfl, rfl, hb1, hb2, hc, hw⟩ := hrel
    have HC : Hid (c = min (b - 1) f) := hc
    rw [hw]
    clear hc hw wr
    by_cases hlt : b ≤ 254
    · have i1 : (b : Int) ≤ 254 := by omega
      have e1 : IntKind.u8.wrap (b : Int) = (b : Int) := by rw [IntKind.wrap_u8]; omega
      have hiff := HI.out b hb1 hlt
      go_wp2_with fail
      refine (HLB.out b w hb1 hlt).mono ?_
      rintro e w1 ⟨rfl, hw⟩
      rw [hw]
      clear hw w1
      by_cases hle : lbI b ≤ d
      · have HF : Hid ((b : Int) ≤ f) := hiff.1 hle
        obtain ⟨y, hy⟩ : ∃ y, lbI b = y := ⟨_, rfl⟩
        rw [hy] at hle ⊢
        obtain ⟨z, hz⟩ : ∃ z, ltI b = z := ⟨_, rfl⟩
        rw [hz]
        clear hy hz hiff
        go_wp2
        go_roundw
        case rel => exact ⟨b + 1, b, by go_num, by go_num, by omega, by omega, by have := HF.out; omega, trivial⟩
        case measure => simp [intOf]; omega
      · have HF : Hid (¬ (b : Int) ≤ f) := mt hiff.2 hle
        obtain ⟨y, hy⟩ : ∃ y, lbI b = y := ⟨_, rfl⟩
        rw [hy] at hle ⊢
        obtain ⟨z, hz⟩ : ∃ z, ltI b = z := ⟨_, rfl⟩
        rw [hz]
        clear hy hz hiff
        go_wp2
        go_roundw
        case rel => exact ⟨b + 1, c, by go_num, rfl, by omega, by omega, by have := HF.out; have := HC.out; omega, trivial⟩
        case measure => simp [intOf]; omega
    · have HE : Hid (c = f) := (by have := HC.out; omega : c = f)
      have i1 : ¬ (b : Int) ≤ 254 := by omega
      obtain ⟨g, hg⟩ : ∃ g, lbI f = g := ⟨_, rfl⟩
      rw [hg] at HLF HDM hlb
      clear hg HC
      rw [HE.out]
      clear HE HI HLB
      obtain ⟨m, hm⟩ : ∃ m, a % p243 t = m := ⟨_, rfl⟩
      have HML : Hid (m ≤ 14348906 ∧ L = (f : Int) :: digs t m) := by
        have := Nat.mod_le a (p243 t)
        exact ⟨by omega, by rw [HP.out, ← hm, digs_mod]⟩
      rw [hm] at HDM
      clear hm HP
      go_wp2_with fail
      refine (HLF.out w).mono ?_
      rintro e w1 ⟨rfl, hw⟩
      rw [hw]
      clear hw w1
      have hdm := HDM.out
      go_wp2
      have HO0 : Hid (OutOf w (w.alloc (.cells #[] 5)) (.slice (some ⟨w.heap.size, 0, none⟩) 0 0) []) := ⟨seg_none w _ rfl, fun g hg => by simp [Value.ownBlock] at hg; omega, (Below.refl _ _).alloc (Nat.le_refl _) _⟩
      clear hdm HDM hlb HLF hlt hb1 hb2 i1
      go_loopw [9, 10, 11] (fun y o i wr => ∃ (k : Nat), i = .int .i64 k ∧ y = .int .i64 ((m / p243 k : Nat) : Int) ∧ k ≤ t ∧ OutOf w wr o (digs k m)) (fun _ _ i _ => t - (intOf i).toNat)
      case atStart => exact ⟨0, rfl, by rw [p243_0, Nat.div_one], Nat.zero_le _, HO0.out⟩
      case round =>
        clear HO0
        obtain ⟨k, rfl, rfl, hk, hO⟩ := hrel
        have HO : Hid (OutOf w wr u10 (digs k m)) := hO
        clear hO
        have HLN : Hid ((digs k m).length = k) := digs_len k m
        have hyl := Nat.div_le_self m (p243 k)
        have HUP : Hid (digs (k + 1) m = trB (m / p243 k % 243) :: digs k m) := digs_up k m
        have HNX : Hid (m / p243 k / 243 = m / p243 (k + 1)) := by
          show _ = _
          rw [Nat.div_div_eq_div_mul, p243_succ, Nat.mul_comm]
        have hm := HML.out.1
        obtain ⟨a0, c0, hvo, hrow, hT0, -, hc0, hnil⟩ := HO.out.1.form
        rw [HLN.out] at hvo
        by_cases hlt : k < t
        · have hql := Nat.mod_lt (m / p243 k) (show 0 < 243 by decide)
          obtain ⟨y, hy⟩ : ∃ y, m / p243 k = y := ⟨_, rfl⟩
          rw [hy] at hyl HUP HNX hql ⊢
          have hq1 : (y : Int) % 243 = ((y % 243 : Nat) : Int) := by omega
          have hq2 : (y : Int) / 243 = ((y / 243 : Nat) : Int) := by omega
          obtain ⟨q, hq⟩ : ∃ q, y % 243 = q := ⟨_, rfl⟩
          rw [hq] at HUP hql hq1
          obtain ⟨y2, hy2⟩ : ∃ y2, y / 243 = y2 := ⟨_, rfl⟩
          rw [hy2] at HNX hq2
          have hy3 : y2 ≤ 14348906 := by omega
          have HAT : Hid (nth allT q = trB q) := allT_nth hql
          have hrr := trB_rng hql
          obtain ⟨r, hr⟩ : ∃ r, trB q = r := ⟨_, rfl⟩
          rw [hr] at HUP HAT hrr
          obtain ⟨T, hTe⟩ : ∃ T, digs k m = T := ⟨_, rfl⟩
          rw [hTe] at HO HLN HUP hrow
          have HRW : Hid (Row .u8 wr a0 T) := hrow
          have HNI : Hid (a0 = none → c0 = 0) := hnil
          have HK : Hid (k + 1 ≤ t) := hlt
          clear hy hq hr hTe hrow hnil hT0 hy2
          have i1 : (k : Int) < (t : Int) := by omega
          have i2 : (q : Int) < 243 := by omega
          go_wp2_with fail
          refine (rTrails_any wr).mono ?_
          rintro e w2 ⟨v, rfl, hO2⟩
          obtain ⟨a2, c2, rfl, hrow2, -⟩ := hO2.1.form
          have HB2 : Hid (Below wr.heap.size wr w2) := hO2.2.2
          obtain ⟨bk, off, ha2, hcell⟩ := hrow2
          obtain rfl := ha2 (by intro e; have := allT_len; rw [e] at this; simp at this)
          have hc := hcell q (by rw [allT_len]; exact hql)
          rw [HAT.out] at hc
          rw [allT_len]
          clear hcell hO2 ha2
          have HON : Hid (∀ ty, OutOf w (w2.alloc (.cells #[.int .u8 r] ty)) (.slice (some ⟨w2.heap.size, 0, none⟩) 1 1) [r]) := fun ty => ⟨seg_one w2 r _ rfl, fun g hg => by
            simp [Value.ownBlock] at hg
            have h1 := HO.out.2.2.size
            have h2 := HB2.out.size
            omega, below_two (below_two HO.out.2.2 HB2.out) ((Below.refl _ _).alloc (Nat.le_refl _) _)⟩
          have HR2 : Hid (∀ o, Row .u8 (w2.alloc o) a0 T) := fun o => HRW.out.mono (below_two HB2.out ((Below.refl _ _).alloc (Nat.le_refl _) _))
          subst hvo
          go_wp2_with (at_builtin; go_must (refine wpList_append_seg rfl _ _ 40 40 rfl .u8 5 1 Try.underlying40 info_u8 (.slice (some ⟨w2.heap.size, 0, none⟩) 1 1) [r] T rfl (seg_one w2 r _ rfl) _ rfl (src_row (l := T) Try.underlying40 (HR2.out _) HLN.out HNI.out) (by have := HLN.out; unfold maxLen; simp; omega) (by have := HLN.out; simp; omega) ?_; intro vo w4 hs4 hc4 hm4))
          have HF4 : Hid (OutOf w w4 vo (digs (k + 1) m)) := by rw [HUP.out]; exact (HON.out _).app (Below.refl _ _) hs4 hc4 hm4
          clear hs4 hc4 hm4 HON HR2
          exact ⟨⟨k + 1, by go_num, by rw [← HNX.out], HK.out, HF4.out⟩, by simp [intOf]; omega⟩
        · obtain rfl : k = t := by omega
          have HFL : Hid (L = (f : Int) :: digs k m) := HML.out.2
          obtain ⟨T, hTe⟩ : ∃ T, digs k m = T := ⟨_, rfl⟩
          rw [hTe] at HO HLN HFL hrow
          obtain ⟨y, hy⟩ : ∃ y, m / p243 k = y := ⟨_, rfl⟩
          rw [hy] at hyl ⊢
          have HRW : Hid (Row .u8 wr a0 T) := hrow
          have HNI : Hid (a0 = none → c0 = 0) := hnil
          clear hTe hy hrow hnil hT0 HUP HNX HML
          have HON : Hid (∀ ty, OutOf w (wr.alloc (.cells #[.int .u8 f] ty)) (.slice (some ⟨wr.heap.size, 0, none⟩) 1 1) [(f : Int)]) := fun ty => ⟨seg_one wr f _ rfl, fun g hg => by
            simp [Value.ownBlock] at hg
            have h1 := HO.out.2.2.size
            omega, below_two HO.out.2.2 ((Below.refl _ _).alloc (Nat.le_refl _) _)⟩
          have HR2 : Hid (∀ o, Row .u8 (wr.alloc o) a0 T) := fun o => HRW.out.mono ((Below.refl _ _).alloc (Nat.le_refl _) _)
          subst hvo
          go_wp2_with (at_builtin; go_must (refine wpList_append_seg rfl _ _ 40 40 rfl .u8 5 1 Try.underlying40 info_u8 (.slice (some ⟨wr.heap.size, 0, none⟩) 1 1) [(f : Int)] T rfl (seg_one wr f _ rfl) _ rfl (src_row (l := T) Try.underlying40 (HR2.out _) HLN.out HNI.out) (by have := HLN.out; unfold maxLen; simp; omega) (by have := HLN.out; simp; omega) ?_; intro vo w4 hs4 hc4 hm4; have HF4 : Hid (OutOf w w4 vo ([(f : Int)] ++ T)) := (HON.out _).app (Below.refl _ _) hs4 hc4 hm4; obtain ⟨ao, co, hvo, hro, -⟩ := hs4.form; obtain ⟨ln, hln⟩ : ∃ ln, ([(f : Int)] ++ T).length = ln := ⟨_, rfl⟩; rw [hln] at hvo; subst hvo; have hcv := run_string w4 ao ln co ([(f : Int)] ++ T) hro hln; rw [show [(f : Int)] ++ T = L from HFL.out.symm] at hcv; clear hs4 hc4 hm4 HON HR2 hro hln))
          go_ret
          exact ⟨rfl, HF4.out.2.2⟩
end Dif
end Go.Proofs.Ytmihceoeoggjjaa
