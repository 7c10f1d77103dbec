/-
  The contract of bias.Get, as a walk over the translated text. The condition: texts are of at most a million bytes.
-/
import Derived.Test.YthidlkgnghicoaaBia1
namespace Go.Proofs.Ythidlkgnghicoaa
open Go.ChangeShapes Go.WideShapes Go.ChangeAt Go.RowKit
namespace Bia
open Bas Txt
set_option linter.unusedVariables false

/-- What is known of a number that is being got, from a place a of a row of bytes on. -/
structure GetRel (R : Nat × Nat × Nat) (b : Int) (l : List Int) (a n v p : Nat) : Prop where
  eq : R = getF b p (a + p) n v (l.drop (a + p))
  n : n ≤ 4611686018427387904
  v1 : 1 ≤ v
  v2 : v ≤ 4611686018427387905
  p : a + p ≤ l.length
theorem GetRel.zero (b : Int) {l : List Int} {a : Nat} (h : a ≤ l.length) : GetRel (getF b 0 a 0 1 (l.drop a)) b l a 0 1 0 :=
  ⟨rfl, by decide, by decide, by decide, h⟩
theorem GetRel.cut {R : Nat × Nat × Nat} {b : Int} {l : List Int} {a n v p : Nat} (h : GetRel R b l a n v p) (hp : ¬ a + p < l.length) : R = (0, 0, 4) := by
  have := h.p
  rw [h.eq, List.drop_of_length_le (by omega), getF_nil]
theorem GetRel.form {R : Nat × Nat × Nat} {b : Int} {l : List Int} {a n v p : Nat} (h : GetRel R b l a n v p) (hp : a + p < l.length) (hd : digI (nth l (a + p)) < 0) : R = (0, 0, 3) := by
  rw [h.eq, drop_at _ _ hp, getF_form hd]
theorem GetRel.long {R : Nat × Nat × Nat} {b : Int} {l : List Int} {a n v p d : Nat} (h : GetRel R b l a n v p) (hp : a + p < l.length) (hd : digI (nth l (a + p)) = (d : Int)) (hl : d * v > 4611686018427387904 - n) : R = (0, 0, 5) := by
  rw [h.eq, drop_at _ _ hp, getF_long hd hl]
theorem GetRel.last {R : Nat × Nat × Nat} {b : Int} {l : List Int} {a n v p d : Nat} (h : GetRel R b l a n v p) (hp : a + p < l.length) (hd : digI (nth l (a + p)) = (d : Int)) (hl : ¬ d * v > 4611686018427387904 - n) (ht : d < thr b p) : R = (n + d * v, a + p + 1, 0) := by
  rw [h.eq, drop_at _ _ hp, getF_last hd hl ht]
theorem GetRel.next {R : Nat × Nat × Nat} {b : Int} {l : List Int} {a n v p d : Nat} (h : GetRel R b l a n v p) (hp : a + p < l.length) (hd : digI (nth l (a + p)) = (d : Int)) (hl : ¬ d * v > 4611686018427387904 - n) (ht : ¬ d < thr b p) : GetRel R b l a (n + d * v) (heavy v (thr b p)) (p + 1) := by
  have h1 := heavy_pos h.v1 (thr_rng b p).2
  unfold top at h1
  have h2 := h.n
  exact ⟨by rw [h.eq, drop_at _ _ hp, getF_more hd hl ht]; rfl, by omega, h1.1, h1.2, by omega⟩
theorem getF_small (b : Int) (l : List Int) : ∀ p q n w : Nat, n ≤ 4611686018427387904 → (getF b p q n w l).1 ≤ 4611686018427387904 := by
  induction l with
  | nil => intro p q n w _; rw [getF_nil]; decide
  | cons c r ih =>
    intro p q n w h
    by_cases h1 : digI c < 0
    · rw [getF_form h1]; decide
    · obtain ⟨d, hd, -⟩ := dig_nat h1
      by_cases h2 : d * w > top - n
      · rw [getF_long hd h2]; decide
      · by_cases h3 : d < thr b p
        · rw [getF_last hd h2 h3]; unfold top at h2; show n + d * w ≤ _; omega
        · rw [getF_more hd h2 h3]; unfold top at h2; exact ih _ _ _ _ (by omega)

/-- What is answered, as a value. -/
def getV (R : Nat × Nat × Nat) : Value := .tuple #[.int .u64 R.1, .int .i64 R.2.1, .int .i64 R.2.2]
theorem ret_get {x y z : Int} {R : Nat × Nat × Nat} {n q e : Nat} (h : R = (n, q, e)) (hx : x = (n : Int)) (hy : y = (q : Int)) (hz : z = (e : Int)) : Ending.returned (.tuple #[.int .u64 x, .int .i64 y, .int .i64 z]) = .returned (getV R) := by rw [h, hx, hy, hz]; rfl

set_option maxHeartbeats 1000000 in
theorem get_arg (s : ByteArray) (a b : Int) (w : World) (h : a < 0 ∨ (s.size : Int) < a) :
    Calls Try.prog 21 #[.string s, .int .i64 a, .int .i64 b] w fun e w' => e = .returned (getV (0, 0, 1)) ∧ w' = w := by
  rcases h with h | h
  all_goals
    go_enter Try.func21, Try.ntmps21
    go_wp2
    go_ret3
    exact ⟨rfl, rfl⟩
set_option maxHeartbeats 4000000 in
set_option maxRecDepth 100000 in
theorem get_any (s : ByteArray) (a : Nat) (b : Int) (w : World) (hs : s.size ≤ 1000000) (ha : a ≤ s.size) :
    Calls Try.prog 21 #[.string s, .int .i64 a, .int .i64 b] w fun e w' => e = .returned (getV (getF b 0 a 0 1 ((bytesL s).drop a))) ∧ w' = w := by
  have HL : Hid ((bytesL s).length = s.size) := bytesL_length s
  have HS : Hid (GetRel (getF b 0 a 0 1 ((bytesL s).drop a)) b (bytesL s) a 0 1 0) := GetRel.zero b (by rw [bytesL_length]; exact ha)
  obtain ⟨R, hR⟩ : ∃ R, getF b 0 a 0 1 ((bytesL s).drop a) = R := ⟨_, rfl⟩
  rw [hR] at HS ⊢
  clear hR
  have ha2 : ¬ s.size < a := by omega
  go_enter Try.func21, Try.ntmps21
  go_wp2
  go_loopw [9, 10, 11] (fun x y i wr => ∃ (n v p : Nat), x = .int .u64 n ∧ y = .int .u64 v ∧ i = .int .i64 p ∧ GetRel R b (bytesL s) a n v p ∧ wr = w) (fun _ _ i _ => s.size - (intOf i).toNat)
  case atStart => exact ⟨0, 1, 0, rfl, rfl, rfl, HS.out, rfl⟩
  case round =>
    clear HS
    obtain ⟨n, v, p, rfl, rfl, rfl, hr, hw⟩ := hrel
    subst hw
    have HR : Hid (GetRel R b (bytesL s) a n v p) := hr
    have hn := hr.n
    have hv1 := hr.v1
    have hv2 := hr.v2
    have hp := hr.p
    rw [HL.out] at hp
    clear hr
    by_cases hlt : a + p < s.size
    · have HP : Hid (a + p < (bytesL s).length) := (by rw [HL.out]; exact hlt : a + p < (bytesL s).length)
      have i1 : (a : Int) + (p : Int) < (s.size : Int) := by omega
      have e1 : ((s[a + p]'hlt).toNat : Int) = nth (bytesL s) (a + p) := str_nth s _ hlt
      have hc := bytesL_byte s _ (nth_mem HP.out)
      by_cases hd : digI (nth (bytesL s) (a + p)) < 0
      · have HF : Hid (R = (0, 0, 3)) := HR.out.form HP.out hd
        have HD : Hid (∀ w, Calls Try.prog 15 #[.int .u8 (nth (bytesL s) (a + p))] w fun e w' => e = .returned (.tuple #[.int .i64 0, .bool false]) ∧ w' = w) := fun w => digit_no _ w hd hc.1 hc.2
        obtain ⟨c, hce⟩ : ∃ c, nth (bytesL s) (a + p) = c := ⟨_, rfl⟩
        rw [hce] at e1 HD
        clear hce hd hc
        go_wp2_with fail
        refine (HD.out wr).mono ?_
        rintro e w1 ⟨rfl, hw⟩
        subst hw
        go_wp2
        go_ret3
        exact ⟨ret_get HF.out rfl rfl rfl, rfl⟩
      · obtain ⟨d, hde, hd36⟩ := dig_nat hd
        have HD : Hid (∀ w, Calls Try.prog 15 #[.int .u8 (nth (bytesL s) (a + p))] w fun e w' => e = .returned (.tuple #[.int .i64 d, .bool true]) ∧ w' = w) := fun w => digit_yes _ _ w hde (by omega) hc.1 hc.2
        have HE : Hid (digI (nth (bytesL s) (a + p)) = (d : Int)) := hde
        obtain ⟨c, hce⟩ : ∃ c, nth (bytesL s) (a + p) = c := ⟨_, rfl⟩
        rw [hce] at e1 HD
        clear hce hd hc hde
        obtain ⟨z, hze⟩ : ∃ z, (4611686018427387904 - n) / v = z := ⟨_, rfl⟩
        have hz : ((4611686018427387904 : Int) - (n : Int)) / (v : Int) = (z : Int) := by rw [← hze, Int.natCast_ediv, Int.natCast_sub hn]; rfl
        have hzd : z < d ↔ 4611686018427387904 - n < d * v := by rw [← hze]; exact Nat.div_lt_iff_lt_mul hv1
        clear hze
        go_wp2_with fail
        refine (HD.out wr).mono ?_
        rintro e w1 ⟨rfl, hw⟩
        subst hw
        by_cases hlo : d * v > 4611686018427387904 - n
        · have HF : Hid (R = (0, 0, 5)) := HR.out.long HP.out HE.out hlo
          have i2 : (z : Int) < (d : Int) := by have := hzd.2 hlo; omega
          clear hlo hzd
          go_wp2
          go_ret3
          exact ⟨ret_get HF.out rfl rfl rfl, rfl⟩
        · have i2 : (d : Int) ≤ (z : Int) := by have := mt hzd.1 hlo; omega
          have HO : Hid (¬ d * v > 4611686018427387904 - n) := hlo
          obtain ⟨m, hm⟩ : ∃ m, d * v = m := ⟨_, rfl⟩
          have hmi : (d : Int) * (v : Int) = (m : Int) := by rw [← hm, Int.natCast_mul]
          rw [hm] at hlo
          have hmb : m ≤ 4611686018427387904 - n := by omega
          have HM : Hid (d * v = m) := hm
          clear hzd hlo hm
          go_wp2_with fail
          refine (span_any p b w1).mono ?_
          rintro e w2 ⟨rfl, hw⟩
          subst hw
          have hth := thr_rng b p
          by_cases hlast : d < thr b p
          · have HF : Hid (R = (n + d * v, a + p + 1, 0)) := HR.out.last HP.out HE.out HO.out hlast
            rw [HM.out] at HF
            obtain ⟨t, ht⟩ : ∃ t, thr b p = t := ⟨_, rfl⟩
            rw [ht] at hlast hth ⊢
            clear ht
            go_wp2
            go_ret3
            exact ⟨ret_get HF.out (by omega) (by omega) rfl, rfl⟩
          · have HN : Hid (GetRel R b (bytesL s) a (n + d * v) (heavy v (thr b p)) (p + 1)) := HR.out.next HP.out HE.out HO.out hlast
            rw [HM.out] at HN
            obtain ⟨t, ht⟩ : ∃ t, thr b p = t := ⟨_, rfl⟩
            rw [ht] at hlast hth HN ⊢
            clear ht
            go_wp2_with fail
            refine (heavy_any v t w2 hth.1 hth.2 hv2).mono ?_
            rintro e w3 ⟨rfl, hw⟩
            subst hw
            obtain ⟨v', hv'⟩ : ∃ v', heavy v t = v' := ⟨_, rfl⟩
            rw [hv'] at HN ⊢
            clear hv'
            go_wp2
            go_roundw
            case rel => exact ⟨n + m, v', p + 1, by go_num, rfl, by go_num, HN.out, trivial⟩
            case measure => simp [intOf]; omega
    · have HF : Hid (R = (0, 0, 4)) := HR.out.cut (by rw [HL.out]; exact hlt)
      have i1 : (s.size : Int) ≤ (a : Int) + (p : Int) := by omega
      go_wp2
      go_ret3
      exact ⟨ret_get HF.out rfl rfl rfl, rfl⟩
end Bia
end Go.Proofs.Ythidlkgnghicoaa
