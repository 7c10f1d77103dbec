/-
  The contracts of puny.denoted and puny.basicAhead, as walks over the translated text. The condition: texts are of at most 4000 bytes; of math/bits.Len that it tells how many bits a number takes.
-/
import Derived.Test.YtemgbmacdpnepaaPunFil
import Derived.Test.YtemgbmacdpnepaaStrs
namespace Go.Proofs.Ytemgbmacdpnepaa
open Go.ChangeShapes Go.WideShapes Go.ChangeAt Go.RowKit
namespace Pun
open Bas Cod Bia Sca Fen Stp
set_option linter.unusedVariables false

/-- The last place of a byte, or -1. -/
def lastK (t : List Int) (x : Int) : Nat → Int
  | 0 => -1
  | k + 1 => if nth t k = x then (k : Int) else lastK t x k
theorem lastK_hyp (t : List Int) (k : Nat) : (0 < lastK t 45 k ∧ lastK t 45 k = (hypK t k : Int)) ∨ (¬ 0 < lastK t 45 k ∧ hypK t k = 0) := by
  induction k with
  | zero => right; simp [lastK, hypK]
  | succ k ih =>
    by_cases h : nth t k = 45
    · rw [lastK, if_pos h, hypK_hit h]; omega
    · rw [lastK, if_neg h, hypK_miss h]; exact ih

set_option maxHeartbeats 2000000 in
theorem lastS_any (str : ByteArray) (x : Int) (w : World) (hs : str.size ≤ 100000) (hx : 0 ≤ x ∧ x < 256) :
    Calls Try.prog 80 #[.string str, .int .u8 x] w fun e w' => e = .returned (.int .i64 (lastK (bytesL str) x str.size)) ∧ w' = w := by
  obtain ⟨R, hR⟩ : ∃ R, lastK (bytesL str) x str.size = R := ⟨_, rfl⟩
  rw [hR]
  have HR : Hid (lastK (bytesL str) x str.size = R) := hR
  clear hR
  go_enter Try.func80, Try.ntmps80
  go_wp2
  go_loopw [5] (fun i wr => ∃ k : Nat, i = .int .i64 ((k : Int) - 1) ∧ k ≤ str.size ∧ lastK (bytesL str) x k = R ∧ wr = w) (fun i _ => (intOf i + 1).toNat)
  case atStart => exact ⟨str.size, rfl, Nat.le_refl _, HR.out, rfl⟩
  case round =>
    clear HR
    obtain ⟨k, rfl, hk, hr, rfl⟩ := hrel
    have HR : Hid (lastK (bytesL str) x k = R) := hr
    clear hr
    cases k with
    | zero =>
      rw [show ((0 : Nat) : Int) - 1 = -1 by rfl]
      go_wp2
      go_ret
      exact ⟨ret_int HR.out, rfl⟩
    | succ j =>
      have i1 : ((j + 1 : Nat) : Int) - 1 = (j : Int) := by omega
      rw [i1]
      clear i1
      have hlt : j < str.size := by omega
      have e1 : ((str[j]'hlt).toNat : Int) = nth (bytesL str) j := str_nth str _ hlt
      have i2 : (j : Int) ≥ 0 := by omega
      have i3 : (j : Int) < (str.size : Int) := by omega
      by_cases hh : nth (bytesL str) j = x
      · have HF : Hid ((j : Int) = R) := by
          have := HR.out
          rw [lastK, if_pos hh] at this
          exact this
        rw [hh] at e1
        clear hh HR
        go_wp2
        go_ret
        exact ⟨ret_int HF.out, rfl⟩
      · have HF : Hid (lastK (bytesL str) x j = R) := by
          have := HR.out
          rw [lastK, if_neg hh] at this
          exact this
        obtain ⟨y, hy⟩ : ∃ y, nth (bytesL str) j = y := ⟨_, rfl⟩
        rw [hy] at e1 hh
        have hh2 : (y == x) = false := by simpa using hh
        clear hy HR
        go_wp2
        go_roundw
        case rel => exact ⟨j, rfl, by omega, HF.out, trivial⟩
        case measure => simp [intOf]
set_option maxHeartbeats 1000000 in
theorem last_any (str : ByteArray) (x : Int) (w : World) (hs : str.size ≤ 100000) (hx : 0 ≤ x ∧ x < 256) :
    Calls Try.prog 57 #[.string str, .int .u8 x] w fun e w' => e = .returned (.int .i64 (lastK (bytesL str) x str.size)) ∧ w' = w := by
  obtain ⟨R, hR⟩ : ∃ R, lastK (bytesL str) x str.size = R := ⟨_, rfl⟩
  have HR : Hid (lastK (bytesL str) x str.size = R) := hR
  rw [hR]
  clear hR
  go_enter Try.func57, Try.ntmps57
  go_wp2_with (go_at_call 80; refine (lastS_any str x _ hs hx).mono ?_; rintro e w5 ⟨rfl, rfl⟩; rw [HR.out])
  go_ret
  exact ⟨rfl, rfl⟩
/-- How many bytes stand ahead of the first one that isn't basic. -/
def bahL : List Int → Nat
  | [] => 0
  | x :: r => if x < 128 then bahL r + 1 else 0
theorem bahL_le (l : List Int) : bahL l ≤ l.length := by
  induction l with
  | nil => exact Nat.le_refl _
  | cons x r ih => rw [bahL]; split <;> simp <;> omega
theorem bahL_plain (l : List Int) : ∀ x ∈ l.take (bahL l), x < 128 := by
  induction l with
  | nil => intro x hx; simp at hx
  | cons y r ih =>
    intro x hx
    rw [bahL] at hx
    split at hx
    · rename_i h
      rw [List.take_succ_cons] at hx
      rcases List.mem_cons.1 hx with rfl | hx
      · exact h
      · exact ih x hx
    · simp at hx
theorem bahL_all {l : List Int} (h : bahL l = l.length) : ∀ x ∈ l, x < 128 := by
  have := bahL_plain l
  rw [h, List.take_of_length_le (Nat.le_refl _)] at this
  exact this
theorem bahL_of {l : List Int} (h : ∀ x ∈ l, x < 128) : bahL l = l.length := by
  induction l with
  | nil => rfl
  | cons y r ih =>
    rw [bahL, if_pos (h y (by simp)), ih (fun x hx => h x (by simp [hx]))]; rfl
theorem bahL_app {l m : List Int} (h : ∀ x ∈ l, x < 128) : bahL (l ++ m) = l.length + bahL m := by
  induction l with
  | nil => simp
  | cons y r ih =>
    rw [List.cons_append, bahL, if_pos (h y (by simp)), ih (fun x hx => h x (by simp [hx])), List.length_cons]; omega

set_option maxHeartbeats 2000000 in
theorem bah_any (str : ByteArray) (w : World) (hs : str.size ≤ 4611686018427387904) :
    Calls Try.prog 53 #[.string str] w fun e w' => e = .returned (.int .i64 (bahL (bytesL str))) ∧ w' = w := by
  have HL : Hid ((bytesL str).length = str.size) := bytesL_length str
  obtain ⟨R, hR⟩ : ∃ R, bahL (bytesL str) = R := ⟨_, rfl⟩
  rw [hR]
  have HR : Hid (0 + bahL ((bytesL str).drop 0) = R) := by show _ = _; simpa using hR
  clear hR
  go_enter Try.func53, Try.ntmps53
  go_wp2
  go_loopw [6] (fun i wr => ∃ k : Nat, i = .int .i64 k ∧ k ≤ str.size ∧ k + bahL ((bytesL str).drop k) = R ∧ wr = w) (fun i _ => str.size - (intOf i).toNat)
  case atStart => exact ⟨0, rfl, Nat.zero_le _, HR.out, rfl⟩
  case round =>
    clear HR
    obtain ⟨k, rfl, hk, hr, rfl⟩ := hrel
    have HR : Hid (k + bahL ((bytesL str).drop k) = R) := hr
    clear hr
    by_cases hlt : k < str.size
    · have hkL : k < (bytesL str).length := by rw [HL.out]; exact hlt
      have e1 : ((str[k]'hlt).toNat : Int) = nth (bytesL str) k := str_nth str _ hlt
      have i3 : (k : Int) < (str.size : Int) := by omega
      by_cases hh : nth (bytesL str) k < 128
      · have HF : Hid (k + 1 + bahL ((bytesL str).drop (k + 1)) = R) := by
          have := HR.out
          rw [drop_at _ _ hkL, bahL, if_pos hh] at this
          show _ = _
          omega
        obtain ⟨y, hy⟩ : ∃ y, nth (bytesL str) k = y := ⟨_, rfl⟩
        rw [hy] at e1 hh
        have hh2 : ¬ y ≥ 128 := by omega
        clear hy HR hkL
        go_wp2
        go_roundw
        case rel => exact ⟨k + 1, by go_num, by omega, HF.out, trivial⟩
        case measure => simp [intOf]; omega
      · have HF : Hid (k = R) := by
          have := HR.out
          rw [drop_at _ _ hkL, bahL, if_neg hh] at this
          exact this
        obtain ⟨y, hy⟩ : ∃ y, nth (bytesL str) k = y := ⟨_, rfl⟩
        rw [hy] at e1 hh
        have hh2 : y ≥ 128 := by omega
        clear hy HR hkL
        go_wp2
        go_ret
        exact ⟨ret_int (by rw [HF.out]), rfl⟩
    · have HF : Hid (str.size = R) := by
        have := HR.out
        rw [List.drop_of_length_le (by rw [HL.out]; omega), bahL] at this
        show _ = _
        omega
      have i3 : ¬ (k : Int) < (str.size : Int) := by omega
      clear HR
      go_wp2
      go_ret
      exact ⟨ret_int (by rw [HF.out]), rfl⟩
/-- What 'denoted' leaves. -/
def DenQ (R : Option (List Int)) (base : Nat) (e : Ending) (w' : World) : Prop :=
  (R = none ∧ e = .returned (.tuple #[.slice none 0 0, .bool false])) ∨
  ∃ v L, R = some L ∧ e = .returned (.tuple #[v, .bool true]) ∧ Seg .u32 w' v L ∧ (∀ g, v.ownBlock = some g → base ≤ g)
theorem den_fin {R : Option (List Int)} {base : Nat} {w' : World} {v : Value} {L : List Int} (hR : R = some L) (hs : Seg .u32 w' v L) (hf : ∀ g, v.ownBlock = some g → base ≤ g) : DenQ R base (.returned (.tuple #[v, .bool true])) w' := .inr ⟨v, L, hR, rfl, hs, hf⟩

set_option maxHeartbeats 4000000 in
theorem denoted_any (HLen : LenOK) (str : ByteArray) (w : World) (hs : str.size ≤ 4000) :
    Calls Try.prog 41 #[.string str] w fun e w' => DenQ (textD (bytesL str)) w.heap.size e w' ∧ Below w.heap.size w w' := by
  obtain ⟨R, hR⟩ : ∃ R, textD (bytesL str) = R := ⟨_, rfl⟩
  rw [hR]
  have hlk := lastK_hyp (bytesL str) str.size
  have hsz := bytesL_length str
  rw [← hsz] at hlk
  have hyl := hyp_le (bytesL str)
  obtain ⟨K, hK⟩ : ∃ K, lastK (bytesL str) 45 str.size = K := ⟨_, rfl⟩
  rw [hsz, hK] at hlk
  have HK : Hid (lastK (bytesL str) 45 str.size = K) := hK
  by_cases h0 : 0 < hyp (bytesL str)
  · have hKe : K = (hyp (bytesL str) : Int) ∧ 0 < K := by
      rcases hlk with h | h
      · refine ⟨?_, h.1⟩; rw [h.2]; unfold hyp; rw [hsz]
      · exfalso; have h2 := h.2; unfold hyp at h0; rw [hsz] at h0; omega
    rw [textD_some h0] at hR
    have hlt := (hyp_part h0).1
    rw [hsz] at hlt hyl
    obtain ⟨c, hc⟩ : ∃ c, hyp (bytesL str) = c := ⟨_, rfl⟩
    rw [hc] at hR hKe hlt hyl h0
    obtain ⟨rfl, hK0⟩ := hKe
    have hb1 : bytesL (str.extract 0 c) = (bytesL str).take c := bytesL_take str c
    have hb2 : bytesL (str.extract (c + 1) str.size) = (bytesL str).drop (c + 1) := bytesL_drop str (c + 1)
    have hz1 : (str.extract 0 c).size = c := by simp; omega
    have hz2 : (str.extract (c + 1) str.size).size = str.size - (c + 1) := by simp
    rw [← hb1, ← hb2] at hR
    have HE : Hid (∀ w, Calls Try.prog 58 #[.string (str.extract (c + 1) str.size), .int .i64 c] w fun e w' => EntQ R (bytesL (str.extract 0 c)) (str.size - (c + 1)) w.heap.size e w' ∧ Below w.heap.size w w') := fun w => by
      have := entries_any (str.extract (c + 1) str.size) (bytesL (str.extract 0 c)) c w (by rw [hz2]; omega) (by rw [bytesL_length, hz1]) (by omega)
      rw [hR, hz2] at this
      exact this
    have HZ : Hid ((str.extract 0 c).size = c ∧ (bytesL (str.extract 0 c)).length = c) := ⟨hz1, by rw [bytesL_length, hz1]⟩
    have i1 : (c : Int) ≤ (str.size : Int) := by omega
    have i2 : (c : Int) + 1 ≤ (str.size : Int) := by omega
    clear hb1 hb2 hz1 hz2 hR hc hK hlk hsz
    go_enter Try.func41, Try.ntmps41
    go_wp2_with fail
    refine (last_any str 45 w (by omega) (by omega)).mono ?_
    rintro e w1 ⟨rfl, hw1⟩
    subst hw1
    rw [HK.out]
    go_wp2
    go_quiet (fail)
    have HBq : Hid (Below w1.heap.size w1 (w1.drewN nq)) := below_dn w1 nq
    have HSq : Hid ((w1.drewN nq).heap.size = w1.heap.size) := (rfl : (w1.drewN nq).heap.size = w1.heap.size)
    generalize w1.drewN nq = w2 at *
    go_wp2_with fail
    refine (HE.out w2).mono ?_
    rintro e w3 ⟨hq, hb3⟩
    rw [HSq.out] at hq hb3
    have HB3 : Hid (Below w1.heap.size w1 w3) := HBq.out.trans hb3
    clear hb3 HE
    rcases hq with ⟨hR, rfl⟩ | ⟨v, es, hR, rfl, hO, hle, hpl, hva⟩
    · have HR : Hid (R = none) := hR
      clear hR
      go_wp2
      go_ret2
      exact ⟨.inl ⟨HR.out, rfl⟩, HB3.out⟩
    · have HR : Hid (R = some (builtL (bytesL (str.extract 0 c)) es)) := hR
      have HF : Hid (Calls Try.prog 59 #[.string (str.extract 0 c), v] w3 fun e w' => ∃ vo, e = .returned vo ∧ Seg .u32 w' vo (builtL (bytesL (str.extract 0 c)) es) ∧ (∀ g, vo.ownBlock = some g → w3.heap.size ≤ g) ∧ Below w3.heap.size w3 w') :=
        filled_any HLen (str.extract 0 c) v es w1.heap.size (c + es.length) w3 hO (by rw [HZ.out.1]) (by omega) (fun k hk => by have := hpl k hk; rw [HZ.out.2] at this; rw [HZ.out.1]; exact this) hva
      clear hR hO hle hpl hva
      go_wp2_with fail
      refine HF.out.mono ?_
      rintro e w4 ⟨vo, rfl, hs4, hf4, hb4⟩
      have HQ : Hid (DenQ R w1.heap.size (.returned (.tuple #[vo, .bool true])) w4 ∧ Below w1.heap.size w1 w4) := ⟨den_fin HR.out hs4 (fun g hg => by have := hf4 g hg; have := HB3.out.size; omega), HB3.out.trans (hb4.mono HB3.out.size)⟩
      clear hs4 hf4 hb4
      go_wp2
      go_ret2
      exact HQ.out
  · have hKe : ¬ 0 < K := by
      rcases hlk with h | h
      · exfalso; have h2 := h.2; have h3 := h.1; unfold hyp at h0; rw [hsz] at h0; omega
      · exact h.1
    rw [textD_none h0] at hR
    have HE : Hid (∀ w, Calls Try.prog 58 #[.string str, .int .i64 0] w fun e w' => EntQ R [] str.size w.heap.size e w' ∧ Below w.heap.size w w') := fun w => by
      have := entries_any str [] 0 w (by omega) rfl (by omega)
      rw [hR] at this
      exact this
    clear hR hK hlk hsz hyl h0
    have hKe2 : ¬ K > 0 := hKe
    clear hKe
    go_enter Try.func41, Try.ntmps41
    go_wp2_with fail
    refine (last_any str 45 w (by omega) (by omega)).mono ?_
    rintro e w1 ⟨rfl, hw1⟩
    subst hw1
    rw [HK.out]
    go_wp2_with fail
    refine (HE.out w1).mono ?_
    rintro e w3 ⟨hq, hb3⟩
    have HB3 : Hid (Below w1.heap.size w1 w3) := hb3
    clear hb3 HE
    rcases hq with ⟨hR, rfl⟩ | ⟨v, es, hR, rfl, hO, hle, hpl, hva⟩
    · have HR : Hid (R = none) := hR
      clear hR
      go_wp2
      go_ret2
      exact ⟨.inl ⟨HR.out, rfl⟩, HB3.out⟩
    · have HR : Hid (R = some (builtL [] es)) := hR
      have HF : Hid (Calls Try.prog 59 #[.string ⟨#[]⟩, v] w3 fun e w' => ∃ vo, e = .returned vo ∧ Seg .u32 w' vo (builtL [] es) ∧ (∀ g, vo.ownBlock = some g → w3.heap.size ≤ g) ∧ Below w3.heap.size w3 w') :=
        filled_any HLen ⟨#[]⟩ v es w1.heap.size (es.length) w3 hO (by rw [show (⟨#[]⟩ : ByteArray).size = 0 from rfl, Nat.zero_add]) (by omega) (fun k hk => by have := hpl k hk; rw [show (⟨#[]⟩ : ByteArray).size = 0 from rfl]; simpa using this) hva
      clear hR hO hle hpl hva
      go_wp2_with fail
      refine HF.out.mono ?_
      rintro e w4 ⟨vo, rfl, hs4, hf4, hb4⟩
      have HQ : Hid (DenQ R w1.heap.size (.returned (.tuple #[vo, .bool true])) w4 ∧ Below w1.heap.size w1 w4) := ⟨den_fin HR.out hs4 (fun g hg => by have := hf4 g hg; have := HB3.out.size; omega), HB3.out.trans (hb4.mono HB3.out.size)⟩
      clear hs4 hf4 hb4
      go_wp2
      go_ret2
      exact HQ.out
end Pun
end Go.Proofs.Ytemgbmacdpnepaa
