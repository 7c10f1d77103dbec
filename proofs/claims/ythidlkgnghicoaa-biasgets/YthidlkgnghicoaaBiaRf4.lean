/-
  The contract of the document's Get of layer 9, as a walk over the translated text. The condition: texts are of at most a million bytes.
-/
import Derived.Test.YthidlkgnghicoaaBia4
import Derived.Test.YthidlkgnghicoaaBiaRf1
namespace Go.Proofs.Ythidlkgnghicoaa
open Go.ChangeShapes Go.WideShapes Go.ChangeAt Go.RowKit
namespace Bia
open Bas Txt
set_option linter.unusedVariables false

/-- A digit's weight, added so often. -/
structure InRel (n v d m j : Nat) : Prop where
  eq : m = n + j * v
  j : j ≤ d
  m : m ≤ 4611686018427387904
theorem InRel.zero {n : Nat} (v d : Nat) (h : n ≤ 4611686018427387904) : InRel n v d n 0 := ⟨by simp, Nat.zero_le _, h⟩
theorem InRel.next {n v d m j : Nat} (h : InRel n v d m j) (hj : j < d) (hv : ¬ v > 4611686018427387904 - m) : InRel n v d (m + v) (j + 1) := by
  have h3 := h.m
  exact ⟨by rw [h.eq, Nat.add_mul]; omega, hj, by omega⟩
theorem InRel.long {n v d m j : Nat} (h : InRel n v d m j) (hj : j < d) (hv : v > 4611686018427387904 - m) : d * v > 4611686018427387904 - n := by
  have h1 := h.eq
  have h3 := h.m
  have h4 := Nat.mul_le_mul_right v (show j + 1 ≤ d by omega)
  rw [Nat.add_mul] at h4
  omega
theorem InRel.done {n v d m j : Nat} (h : InRel n v d m j) (hj : ¬ j < d) : m = n + d * v ∧ ¬ d * v > 4611686018427387904 - n := by
  have h1 := h.eq
  have h3 := h.m
  obtain rfl : j = d := by have := h.j; omega
  exact ⟨h1, by omega⟩

set_option maxHeartbeats 1000000 in
theorem rGet_arg (s : ByteArray) (a b : Int) (w : World) (h : a < 0 ∨ (s.size : Int) < a) :
    Calls Try.prog 22 #[.string s, .int .i64 a, .int .i64 b] w fun e w' => e = .returned (getV (0, 0, 1)) ∧ w' = w := by
  rcases h with h | h
  all_goals
    go_enter Try.func22, Try.ntmps22
    go_wp2
    go_ret3
    exact ⟨rfl, rfl⟩
set_option maxHeartbeats 8000000 in
set_option maxRecDepth 100000 in
theorem rGet_any (s : ByteArray) (a : Nat) (b : Int) (w : World) (hs : s.size ≤ 1000000) (ha : a ≤ s.size) :
    Calls Try.prog 22 #[.string s, .int .i64 a, .int .i64 b] w fun e w' => e = .returned (getV (getF b 0 a 0 1 ((bytesL s).drop a))) ∧ w' = w := by
  have HL : Hid ((bytesL s).length = s.size) := bytesL_length s
  have HS : Hid (GetRel (getF b 0 a 0 1 ((bytesL s).drop a)) b (bytesL s) a 0 1 0) := GetRel.zero b (by rw [bytesL_length]; exact ha)
  obtain ⟨R, hR⟩ : ∃ R, getF b 0 a 0 1 ((bytesL s).drop a) = R := ⟨_, rfl⟩
  rw [hR] at HS ⊢
  clear hR
  have ha2 : ¬ s.size < a := by omega
  go_enter Try.func22, Try.ntmps22
  go_wp2
  go_loopw [1, 9, 10, 12] (fun z x y i wr => ∃ (n v p q : Nat), z = .int .i64 q ∧ x = .int .u64 n ∧ y = .int .u64 v ∧ i = .int .i64 p ∧ q = a + p ∧ GetRel R b (bytesL s) a n v p ∧ wr = w) (fun _ _ _ i _ => s.size - (intOf i).toNat)
  case atStart => exact ⟨0, 1, 0, a, rfl, rfl, rfl, rfl, rfl, HS.out, rfl⟩
  case round =>
    clear HS
    obtain ⟨n, v, p, q, rfl, rfl, rfl, rfl, hq, hr, hw⟩ := hrel
    subst hw
    have HR : Hid (GetRel R b (bytesL s) a n v p ∧ q = a + p) := ⟨hr, hq⟩
    have hn := hr.n
    have hv1 := hr.v1
    have hv2 := hr.v2
    have hp := hr.p
    rw [HL.out] at hp
    clear hr
    by_cases hlt : q < s.size
    · have HP : Hid (a + p < (bytesL s).length) := (by rw [HL.out, ← hq]; exact hlt : a + p < (bytesL s).length)
      have i1 : (q : Int) < (s.size : Int) := by omega
      have e1 : ((s[q]'hlt).toNat : Int) = nth (bytesL s) q := str_nth s _ hlt
      have hc := bytesL_byte s _ (nth_mem HP.out)
      have HE0 : Hid (digI (nth (bytesL s) (a + p)) = digI (nth (bytesL s) q)) := by
        show _ = _
        rw [hq]
      rw [← hq] at hc
      have hp' : p < s.size := by omega
      clear hq
      have HD : Hid (∀ w, Calls Try.prog 16 #[.int .u8 (nth (bytesL s) q)] w fun e w' => e = .returned (.int .i64 (digI (nth (bytesL s) q))) ∧ w' = w) := fun w => rDigit_any _ w hc.1 hc.2
      obtain ⟨c, hce⟩ : ∃ c, nth (bytesL s) q = c := ⟨_, rfl⟩
      rw [hce] at e1 HD HE0
      clear hce hc
      go_wp2_with fail
      refine (HD.out wr).mono ?_
      rintro e w1 ⟨rfl, hw⟩
      subst hw
      by_cases hd : digI c < 0
      · have HF : Hid (R = (0, 0, 3)) := HR.out.1.form HP.out (by rw [HE0.out]; exact hd)
        obtain ⟨g, hge⟩ : ∃ g, digI c = g := ⟨_, rfl⟩
        rw [hge] at hd ⊢
        clear hge HE0 HD
        go_wp2
        go_ret3
        exact ⟨ret_get HF.out rfl rfl rfl, rfl⟩
      · obtain ⟨d, hde, hd36⟩ := dig_nat hd
        have HE : Hid (digI (nth (bytesL s) (a + p)) = (d : Int)) := HE0.out.trans hde
        rw [hde]
        clear hde hd HD HE0
        go_wp2
        go_loopw [9, 14] (fun x i wq => ∃ (m j : Nat), x = .int .u64 m ∧ i = .int .i64 j ∧ InRel n v d m j ∧ wq = w1) (fun _ i _ => d - (intOf i).toNat)
        case atStart => exact ⟨n, 0, rfl, rfl, InRel.zero v d hn, rfl⟩
        case round =>
          obtain ⟨m, j, rfl, rfl, hi, hw⟩ := hrel
          subst hw
          have HI : Hid (InRel n v d m j) := hi
          have hjd := hi.j
          have hm := hi.m
          clear hi
          by_cases hj : j < d
          · have i2 : (j : Int) < (d : Int) := by omega
            by_cases hlo : v > 4611686018427387904 - m
            · have HF : Hid (R = (0, 0, 5)) := HR.out.1.long HP.out HE.out (HI.out.long hj hlo)
              have i3 : (4611686018427387904 : Int) - (m : Int) < (v : Int) := by omega
              go_wp2
              go_ret3
              exact ⟨ret_get HF.out rfl rfl rfl, rfl⟩
            · have HN : Hid (InRel n v d (m + v) (j + 1)) := HI.out.next hj hlo
              have i3 : (v : Int) ≤ (4611686018427387904 : Int) - (m : Int) := by omega
              go_wp2
              go_roundw
              case rel => exact ⟨m + v, j + 1, by go_num, by go_num, HN.out, trivial⟩
              case measure => simp [intOf]; omega
          · have i2 : (d : Int) ≤ (j : Int) := by omega
            have HO : Hid (m = n + d * v ∧ ¬ d * v > 4611686018427387904 - n) := HI.out.done hj
            go_wp2_with fail
            refine (rThr_any p b _).mono ?_
            rintro e w2 ⟨rfl, hw⟩
            subst hw
            have hth := thr_rng b p
            rw [thr_eq]
            by_cases hlast : d < thr b p
            · have HF : Hid (R = (n + d * v, a + p + 1, 0)) := HR.out.1.last HP.out HE.out HO.out.2 hlast
              rw [← HO.out.1] at HF
              obtain ⟨t, ht⟩ : ∃ t, thr b p = t := ⟨_, rfl⟩
              rw [ht] at hlast hth ⊢
              clear ht
              go_wp2
              go_ret3
              exact ⟨ret_get HF.out rfl (by have := HR.out.2; omega) rfl, rfl⟩
            · have HN : Hid (GetRel R b (bytesL s) a (n + d * v) (heavy v (thr b p)) (p + 1)) := HR.out.1.next HP.out HE.out HO.out.2 hlast
              rw [← HO.out.1] at HN
              obtain ⟨t, ht⟩ : ∃ t, thr b p = t := ⟨_, rfl⟩
              rw [ht] at hlast hth HN ⊢
              clear ht
              obtain ⟨f, hf, h0, h1⟩ : ∃ f : Nat, 36 - t = f ∧ 10 ≤ f ∧ f ≤ 35 := ⟨_, rfl, by omega, by omega⟩
              have e0 : (36 - (t : Int)) = (f : Int) := by omega
              obtain ⟨y, hye⟩ : ∃ y, top / f = y := ⟨_, rfl⟩
              have hy : (4611686018427387904 : Int) / (f : Int) = (y : Int) := by rw [← hye, Int.natCast_ediv]; rfl
              by_cases hh : v > y
              · have HH : Hid (heavy v t = 4611686018427387905) := heavy_gt (by rw [hf, hye]; exact hh)
                rw [HH.out] at HN
                have i3 : (y : Int) < (v : Int) := by omega
                clear hye
                go_wp2
                exact ⟨⟨m, 4611686018427387905, p + 1, q + 1, by go_num, rfl, rfl, by go_num, by have := HR.out.2; omega, HN.out, trivial⟩, by simp [intOf]; omega⟩
              · have HH : Hid (heavy v t = v * f) := by
                  have := heavy_le (w := v) (t := t) (by rw [hf, hye]; exact hh)
                  rw [hf] at this
                  exact this
                rw [HH.out] at HN
                have i3 : (v : Int) ≤ (y : Int) := by omega
                obtain ⟨g, hg⟩ : ∃ g, v * f = g := ⟨_, rfl⟩
                have hgi : (v : Int) * (f : Int) = (g : Int) := by rw [← hg, Int.natCast_mul]
                have hgb : g ≤ 4611686018427387905 := by rw [← hg]; exact HN.out.v2
                rw [hg] at HN
                clear hye hg
                go_wp2
                exact ⟨⟨m, g, p + 1, q + 1, by go_num, rfl, rfl, by go_num, by have := HR.out.2; omega, HN.out, trivial⟩, by simp [intOf]; omega⟩
    · have HF : Hid (R = (0, 0, 4)) := HR.out.1.cut (by rw [HL.out, ← hq]; exact hlt)
      have i1 : (s.size : Int) ≤ (q : Int) := by omega
      go_wp2
      go_ret3
      exact ⟨ret_get HF.out rfl rfl rfl, rfl⟩
end Bia
end Go.Proofs.Ythidlkgnghicoaa
