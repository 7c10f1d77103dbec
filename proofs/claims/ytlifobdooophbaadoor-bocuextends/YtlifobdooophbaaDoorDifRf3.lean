/-
  The contract of the document's Range of layer 11, as a walk over the translated text. The condition: texts are of at most a million bytes.
-/
import Derived.Test.YtlifobdooophbaaDoorDifRf1
import Derived.Test.YtlifobdooophbaaDoorDif4
namespace Go.Proofs.YtlifobdooophbaaDoor
open Go.ChangeShapes Go.WideShapes Go.ChangeAt Go.RowKit
namespace Dif
open Bas Txt
set_option linter.unusedVariables false

/-- What the document's Range tells, as a value. -/
def rrV (R : Option (Int × Int × Nat)) : Value := match R with
  | none => .tuple #[.int .i64 0, .int .i64 0, .int .i64 0]
  | some (x, y, n) => .tuple #[.int .i64 x, .int .i64 y, .int .i64 n]
theorem ret_rr {R : Option (Int × Int × Nat)} (h : R = none) : Ending.returned (.tuple #[.int .i64 0, .int .i64 0, .int .i64 0]) = .returned (rrV R) := by rw [h]; rfl
theorem ret_rr2 {R : Option (Int × Int × Nat)} {x y z : Int} {a b : Int} {n : Nat} (h : R = some (a, b, n)) (h1 : x = a) (h2 : y = b) (h3 : z = (n : Int)) : Ending.returned (.tuple #[.int .i64 x, .int .i64 y, .int .i64 z]) = .returned (rrV R) := by rw [h, h1, h2, h3]; rfl
/-- What is known of the two numbers on the way, behind k places of t: of a row D of trail bytes. -/
structure RRel (P : Option (Int × Int)) (g : Int) (t : Nat) (D : List Int) (x y k : Nat) : Prop where
  kt : k ≤ t
  xl : x < p243 k
  yl : y < p243 k
  got : (k ≤ D.length ∧ x = y ∧ P = rngF (t - k) (g + (x : Int) * (p243 (t - k) : Int)) (D.drop k)) ∨ (D.length ≤ k ∧ P = some (g + (x : Int) * (p243 (t - k) : Int), g + (y : Int) * (p243 (t - k) : Int) + (p243 (t - k) : Int) - 1))
theorem RRel.zero (g : Int) (t : Nat) (D : List Int) : RRel (rngF t g D) g t D 0 0 0 :=
  ⟨Nat.zero_le _, by decide, by decide, .inl ⟨Nat.zero_le _, rfl, by simp⟩⟩
theorem RRel.none {P : Option (Int × Int)} {g : Int} {t : Nat} {D : List Int} {x y k : Nat} (h : RRel P g t D x y k) (hk : k < D.length) (hw : wor (nth D k) < 0) : P = none := by
  rcases h.got with ⟨-, -, e⟩ | ⟨h1, -⟩
  · rw [e, drop_at D k hk, rngF_none hw]
  · omega
theorem up_mul (a p : Int) (v : Int) : (243 * a + v) * p = a * (243 * p) + v * p := by
  rw [Int.add_mul, Int.mul_comm 243 a, Int.mul_assoc]
theorem RRel.next {P : Option (Int × Int)} {g : Int} {t : Nat} {D : List Int} {x y k v : Nat} (h : RRel P g t D x y k) (hk : k < D.length) (hkt : k < t) (hw : wor (nth D k) = (v : Int)) : RRel P g t D (243 * x + v) (243 * y + v) (k + 1) := by
  have hv : v ≤ 242 := by have := wor_rng (nth D k); omega
  have h1 := h.xl
  have h2 := h.yl
  refine ⟨hkt, by rw [p243_succ]; omega, by rw [p243_succ]; omega, .inl ?_⟩
  rcases h.got with ⟨-, e0, e⟩ | ⟨h1, -⟩
  · refine ⟨hk, by omega, ?_⟩
    obtain ⟨m, hm⟩ : ∃ m, t - k = m + 1 := ⟨t - k - 1, by omega⟩
    have hm2 : t - (k + 1) = m := by omega
    rw [hm, drop_at D k hk, rngF_more (by omega), hw] at e
    rw [hm2, e]
    congr 1
    rw [p243_succ, Int.natCast_add, Int.natCast_mul, Int.natCast_mul]
    have := up_mul x (p243 m) v
    have e243 : ((243 : Nat) : Int) = 243 := rfl
    rw [e243, this]
    omega
  · omega
theorem RRel.more {P : Option (Int × Int)} {g : Int} {t : Nat} {D : List Int} {x y k : Nat} (h : RRel P g t D x y k) (hk : D.length ≤ k) (hkt : k < t) : RRel P g t D (243 * x) (243 * y + 242) (k + 1) := by
  have h1 := h.xl
  have h2 := h.yl
  refine ⟨hkt, by rw [p243_succ]; omega, by rw [p243_succ]; omega, .inr ⟨by omega, ?_⟩⟩
  obtain ⟨m, hm⟩ : ∃ m, t - k = m + 1 := ⟨t - k - 1, by omega⟩
  have hm2 : t - (k + 1) = m := by omega
  have fin : P = some (g + (x : Int) * (p243 (m + 1) : Int), g + (y : Int) * (p243 (m + 1) : Int) + (p243 (m + 1) : Int) - 1) := by
    rcases h.got with ⟨h3, e0, e⟩ | ⟨-, e⟩
    · rw [e, List.drop_of_length_le hk, rngF_nil, hm, e0]
    · rw [e, hm]
  rw [fin, hm2]
  have e243 : ((243 : Nat) : Int) = 243 := rfl
  have a1 := up_mul x (p243 m) 0
  have a2 := up_mul y (p243 m) 242
  have e1 : g + ((243 * x : Nat) : Int) * (p243 m : Int) = g + (x : Int) * (p243 (m + 1) : Int) := by
    rw [p243_succ, Int.natCast_mul, Int.natCast_mul, e243]
    rw [Int.add_zero, Int.zero_mul, Int.add_zero] at a1
    rw [a1]
  have e2 : g + ((243 * y + 242 : Nat) : Int) * (p243 m : Int) + (p243 m : Int) - 1 = g + (y : Int) * (p243 (m + 1) : Int) + (p243 (m + 1) : Int) - 1 := by
    rw [p243_succ, Int.natCast_add, Int.natCast_mul, Int.natCast_mul, e243, show ((242 : Nat) : Int) = 242 from rfl, a2]
    omega
  rw [e1, e2]
theorem RRel.last {P : Option (Int × Int)} {g : Int} {t : Nat} {D : List Int} {x y : Nat} (h : RRel P g t D x y t) (hl : D.length ≤ t) : P = some (g + (x : Int), g + (y : Int)) := by
  rcases h.got with ⟨h1, e0, e⟩ | ⟨h1, e⟩
  · rw [e, Nat.sub_self, List.drop_of_length_le hl, rngF_nil, p243_0, e0]
    congr 2
    · omega
    · omega
  · rw [e, Nat.sub_self, p243_0]
    congr 2
    · omega
    · omega
theorem lb_rng {b : Int} : -14536567 ≤ lbI b ∧ lbI b ≤ 187660 := by
  unfold lbI; repeat' split
  all_goals omega
theorem lt_rng {b : Int} : -1 ≤ ltI b ∧ ltI b ≤ 3 := by
  unfold ltI; repeat' split
  all_goals omega
set_option maxHeartbeats 1000000 in
theorem rRange_nil (w : World) : Calls Tryd.prog 55 #[.string { data := #[] }] w fun e w' => e = .returned (rrV none) ∧ w' = w := by
  go_enter Tryd.func55, Tryd.ntmps55
  go_wp2
  go_ret3
  exact ⟨ret_rr rfl, rfl⟩
set_option maxHeartbeats 8000000 in
set_option maxRecDepth 100000 in
theorem rRange_any (s : ByteArray) (w : World) (h0 : 0 < s.size) (hs : s.size ≤ 1000000) :
    Calls Tryd.prog 55 #[.string s] w fun e w' => e = .returned (rrV (rngL (bytesL s))) ∧ Below w.heap.size w w' := by
  have HLN : Hid ((bytesL s).length = s.size) := bytesL_length s
  have HC : Hid (bytesL s = nth (bytesL s) 0 :: (bytesL s).drop 1) := bytesL_cons h0
  have hb := bytesL_byte s _ (nth_mem (l := bytesL s) (i := 0) (by rw [bytesL_length]; exact h0))
  have e1 : ((s[0]'h0).toNat : Int) = nth (bytesL s) 0 := str_nth s 0 h0
  obtain ⟨b, hbe⟩ : ∃ b, nth (bytesL s) 0 = b := ⟨_, rfl⟩
  rw [hbe] at hb e1 HC
  obtain ⟨R, hR⟩ : ∃ R, rngL (bytesL s) = R := ⟨_, rfl⟩
  rw [hR]
  have HR : Hid (R = rngL (b :: (bytesL s).drop 1)) := by show _ = _; rw [← HC.out, hR]
  clear hR hbe HC
  have HLE : Hid (∀ w, Calls Tryd.prog 57 #[.int .u8 b] w fun e w' => e = .returned (.tuple #[.int .i64 (lbI b), .int .i64 (ltI b)]) ∧ w' = w) := fun w => rLeast_any b w hb.1 hb.2
  have hlb := @lb_rng b
  have hlt := @lt_rng b
  have hz1 : ¬ s.size = 0 := by omega
  by_cases hneg : ltI b = -1
  · have HN : Hid (R = none) := by show _ = _; rw [HR.out]; exact rng_not hneg
    rw [hneg] at HLE
    obtain ⟨g, hg⟩ : ∃ g, lbI b = g := ⟨_, rfl⟩
    rw [hg] at HLE
    clear hneg hg hlb hlt HR
    go_enter Tryd.func55, Tryd.ntmps55
    go_wp2_with fail
    refine (HLE.out w).mono ?_
    rintro e w1 ⟨rfl, hw⟩
    rw [hw]
    clear hw w1
    go_wp2
    go_ret3
    exact ⟨ret_rr HN.out, Below.refl _ _⟩
  · obtain ⟨t, ht⟩ : ∃ t : Nat, ltI b = (t : Int) := ⟨(ltI b).toNat, by omega⟩
    have HS : Hid (R = (rngF t (lbI b) ((bytesL s).drop 1)).map fun x => (x.1, x.2, t + 1)) := by show _ = _; rw [HR.out]; exact rng_is ht
    rw [ht] at HLE hlt
    obtain ⟨g, hg⟩ : ∃ g, lbI b = g := ⟨_, rfl⟩
    rw [hg] at HLE HS hlb
    clear hneg ht hg HR
    have ht3 : t ≤ 3 := by omega
    clear hlt
    go_enter Tryd.func55, Tryd.ntmps55
    go_wp2_with fail
    refine (HLE.out w).mono ?_
    rintro e w1 ⟨rfl, hw⟩
    rw [hw]
    clear hw w1 HLE
    by_cases hlong : t + 1 < s.size
    · have HN : Hid (R = none) := by
        show _ = _
        rw [HS.out, rngF_long _ _ _ (by rw [List.length_drop, HLN.out]; omega)]; rfl
      have i8 : (t : Int) + 1 < (s.size : Int) := by omega
      go_wp2
      go_ret3
      exact ⟨ret_rr HN.out, Below.refl _ _⟩
    · have i8 : (s.size : Int) ≤ (t : Int) + 1 := by omega
      obtain ⟨D, hD⟩ : ∃ D, (bytesL s).drop 1 = D := ⟨_, rfl⟩
      have HDL : Hid (D.length + 1 = s.size) := by
        have := congrArg List.length hD
        rw [List.length_drop, HLN.out] at this
        show _ = _
        omega
      have HDN : Hid (∀ k, nth D k = nth (bytesL s) (k + 1)) := fun k => by rw [← hD, nth_drop1, Nat.add_comm]
      rw [hD] at HS
      obtain ⟨P, hP⟩ : ∃ P, rngF t g D = P := ⟨_, rfl⟩
      rw [hP] at HS
      have HZ : Hid (RRel P g t D 0 0 0) := by rw [← hP]; exact RRel.zero g t D
      clear hD hP e1 hb
      go_wp2
      rw [show decide ((t : Int) + 1 < (s.size : Int)) = false by rw [decide_eq_false_iff_not]; omega, show decide ((t : Int) < 0) = false by rw [decide_eq_false_iff_not]; omega, Bool.or_false]
      go_loopw [7, 8, 9] (fun x y i wr => ∃ (p q k : Nat), x = .int .i64 p ∧ y = .int .i64 q ∧ i = .int .i64 ((k : Int) + 1) ∧ RRel P g t D p q k ∧ Below w.heap.size w wr) (fun _ _ i _ => t + 1 - (intOf i).toNat)
      case atStart => exact ⟨0, 0, 0, rfl, rfl, rfl, HZ.out, Below.refl _ _⟩
      case round =>
        clear HZ
        obtain ⟨x, y, k, rfl, rfl, rfl, hr, hB⟩ := hrel
        have HRR : Hid (RRel P g t D x y k) := hr
        have HB : Hid (Below w.heap.size w wr) := hB
        have hk := hr.kt
        have hx := hr.xl
        have hy := hr.yl
        have hp := p243_le (show k ≤ 3 by omega)
        have hx2 : x ≤ 14348907 := by omega
        have hy2 : y ≤ 14348907 := by omega
        clear hr hB hx hy hp
        by_cases hkt : k < t
        · have i1 : (k : Int) + 1 ≤ (t : Int) := by omega
          by_cases hks : k + 1 < s.size
          · have hkD : k < D.length := by have := HDL.out; omega
            have e1 : ((s[k + 1]'hks).toNat : Int) = nth D k := by rw [HDN.out]; exact str_nth s (k + 1) hks
            have hb := bytesL_byte s (nth D k) (by rw [HDN.out]; exact nth_mem (by rw [HLN.out]; exact hks))
            have HW : Hid (∀ w, Calls Tryd.prog 40 #[.int .u8 (nth D k)] w fun e w' => e = .returned (.int .i64 (wor (nth D k))) ∧ Below w.heap.size w w') := fun w => rWorth_any _ w hb.1 hb.2
            have hwr := wor_rng (nth D k)
            have HNO : Hid (wor (nth D k) < 0 → P = none) := fun h => HRR.out.none hkD h
            have HYE : Hid (∀ v : Nat, wor (nth D k) = (v : Int) → RRel P g t D (243 * x + v) (243 * y + v) (k + 1)) := fun v h => HRR.out.next hkD hkt h
            obtain ⟨c, hc⟩ : ∃ c, nth D k = c := ⟨_, rfl⟩
            rw [hc] at e1 HW hwr HNO HYE
            clear hc hb
            obtain ⟨z, hz⟩ : ∃ z, wor c = z := ⟨_, rfl⟩
            rw [hz] at HW hwr HNO HYE
            clear hz
            have i2 : (k : Int) + 1 < (s.size : Int) := by omega
            go_wp2_with fail
            refine (HW.out wr).mono ?_
            rintro e w2 ⟨rfl, b1⟩
            have H2 : Hid (Below w.heap.size w w2) := below_two HB.out b1
            clear b1 HW
            by_cases hneg : z < 0
            · have HN : Hid (R = none) := by show _ = _; rw [HS.out, HNO.out hneg]; rfl
              clear HNO HYE
              go_wp2
              go_ret3
              exact ⟨ret_rr HN.out, H2.out⟩
            · obtain ⟨v, rfl⟩ : ∃ v : Nat, z = (v : Int) := ⟨z.toNat, by omega⟩
              have HY : Hid (RRel P g t D (243 * x + v) (243 * y + v) (k + 1)) := HYE.out v rfl
              clear HNO HYE hneg
              go_wp2
              go_roundw
              case rel => exact ⟨243 * x + v, 243 * y + v, k + 1, by go_num, by go_num, by go_num, HY.out, H2.out⟩
              case measure => simp [intOf]; omega
          · have i2 : (s.size : Int) ≤ (k : Int) + 1 := by omega
            have HY : Hid (RRel P g t D (243 * x) (243 * y + 242) (k + 1)) := HRR.out.more (by have := HDL.out; omega) hkt
            go_wp2
            go_roundw
            case rel => exact ⟨243 * x, 243 * y + 242, k + 1, by go_num, by go_num, by go_num, HY.out, HB.out⟩
            case measure => simp [intOf]; omega
        · have HE : Hid (k = t) := (by omega : k = t)
          have HL : Hid (P = some (g + (x : Int), g + (y : Int))) := by
            have h := HRR.out
            rw [HE.out] at h
            exact h.last (by have := HDL.out; omega)
          have HF : Hid (R = some (g + (x : Int), g + (y : Int), t + 1)) := by show _ = _; rw [HS.out, HL.out]; rfl
          have i1 : (t : Int) < (k : Int) + 1 := by omega
          clear HE HL
          go_wp2
          go_ret3
          exact ⟨ret_rr2 HF.out rfl rfl (by omega), HB.out⟩
end Dif
end Go.Proofs.YtlifobdooophbaaDoor
