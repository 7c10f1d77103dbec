/-
  The contract of diff.Pack, as a walk over the translated text. The condition: the tables are as the program's text lays them.
-/
import Derived.Test.YtlifobdooophbaaDoorDif1
namespace Go.Proofs.YtlifobdooophbaaDoor
open Go.ChangeShapes Go.WideShapes Go.ChangeAt Go.RowKit
namespace Dif
open Bas Txt
set_option linter.unusedVariables false

/-- The bytes so far: the program's own, in new memory. -/
def OutOf (w wr : World) (o : Value) (t : List Int) : Prop := Seg .u8 wr o t ∧ (∀ g, o.ownBlock = some g → w.heap.size ≤ g) ∧ Below w.heap.size w wr
theorem OutOf.below {w wr w2 : World} {o : Value} {t : List Int} (h : OutOf w wr o t) (b : Below wr.heap.size wr w2) : OutOf w w2 o t :=
  ⟨h.1.chg (chg_of_below b (Nat.le_refl _) (fun _ _ => False)) (fun _ _ _ h => h), h.2.1, below_two h.2.2 b⟩
theorem OutOf.app {w wr w2 w3 : World} {o o' : Value} {t t' : List Int} (h : OutOf w wr o t) (b : Below wr.heap.size wr w2) (hs : Seg .u8 w3 o' t') (hc : Chg (fun b _ => o.ownBlock = some b) w2 w3) (hm : Mov w2 o o') : OutOf w w3 o' t' := by
  have hz := h.2.2.size
  have hb := below_two h.2.2 b
  refine ⟨hs, fun g hg => ?_, hb.trans (hc.below (by have := b.size; omega) (fun k j hk hh => by have := h.2.1 k hh; omega))⟩
  rcases hm g hg with e | e
  · exact h.2.1 g e
  · have := b.size; omega
/-- A slice of one byte, new. -/
theorem seg_one (w : World) (x : Int) (t : TypeId) {g : Nat} (hg : g = w.heap.size) : Seg .u8 (w.alloc (.cells #[.int .u8 x] t)) (.slice (some ⟨g, 0, none⟩) 1 1) [x] := by
  subst hg
  refine .inr ⟨w.heap.size, 0, 1, rfl, by simp, by simp, by simp [maxLen], fun i hi => ?_, fun i hi => ?_, fun o => by simp⟩
  · have : i = 0 := by simpa using hi
    subst this
    rw [World.cell?_alloc_at _ _ _ _ rfl]; rfl
  · have : i = 0 := by omega
    subst this
    rw [World.cell?_alloc_at _ _ _ _ rfl]; rfl

set_option maxHeartbeats 1000000 in
theorem pack_no (d : Int) (w : World) (h : ¬ inR d) :
    Calls Tryd.prog 66 #[.int .i64 d] w fun e w' => e = .returned (.tuple #[.string { data := #[] }, .bool false]) ∧ w' = w := by
  by_cases h1 : d < -1114111
  · clear h
    go_enter Tryd.func66, Tryd.ntmps66
    go_wp2
    go_ret2
    exact ⟨rfl, rfl⟩
  · have h2 : 1114111 < d := by unfold inR at h; omega
    clear h
    go_enter Tryd.func66, Tryd.ntmps66
    go_wp2
    go_ret2
    exact ⟨rfl, rfl⟩
set_option maxHeartbeats 4000000 in
set_option maxRecDepth 100000 in
theorem pack_yes (d : Int) (w : World) (hT : Tabs w) (h : inR d) :
    Calls Tryd.prog 66 #[.int .i64 d] w fun e w' => e = .returned (.tuple #[.string (strOf (packL d)), .bool true]) ∧ Below w.heap.size w w' := by
  have HT : Hid (Tabs w) := hT
  have hr := rowD_le d
  have ha := abv_eq h
  have hal := abv_le h
  have ht := trN_le (rowD d)
  have hfr := first_rng h
  have HP : Hid (packL d = firstB d :: digs (trN (rowD d)) (abv d)) := rfl
  have HF : Hid (firstB d = fromI (rowD d) + ((abv d / p243 (trN (rowD d)) : Nat) : Int)) := rfl
  have HR : Hid (∀ w, Tabs w → Calls Tryd.prog 72 #[.int .i64 d] w fun e w' => e = .returned (.int .i64 (rowD d)) ∧ w' = w) := fun w hT => rowOf_any d w hT
  unfold inR at h
  obtain ⟨h1, h2⟩ := h
  obtain ⟨L, hL⟩ : ∃ L, packL d = L := ⟨_, rfl⟩
  obtain ⟨i, hi⟩ : ∃ i, rowD d = i := ⟨_, rfl⟩
  obtain ⟨a, hae⟩ : ∃ a, abv d = a := ⟨_, rfl⟩
  obtain ⟨x, hx⟩ : ∃ x, firstB d = x := ⟨_, rfl⟩
  rw [hL] at HP ⊢
  rw [hx] at HP HF hfr
  rw [hi] at hr ha ht HP HF HR
  rw [hae] at ha hal HP HF
  clear hL hi hae hx hT
  have c0 := HT.out.a i (by omega)
  have c1 := HT.out.b i (by omega)
  have c2 := HT.out.c i (by omega)
  have c3 := HT.out.d i (by omega)
  have hF0 := (fr_rng (show i < 7 by omega))
  obtain ⟨F, hF⟩ : ∃ F, fromI i = F := ⟨_, rfl⟩
  obtain ⟨G, hG⟩ : ∃ G, toI i = G := ⟨_, rfl⟩
  obtain ⟨t, hte⟩ : ∃ t, trN i = t := ⟨_, rfl⟩
  obtain ⟨V, hV⟩ : ∃ V, leastI i = V := ⟨_, rfl⟩
  rw [hF] at c0 HF hF0
  rw [hG] at c1 hF0
  rw [hte] at c2 HP HF ht
  rw [hV] at c3 ha
  clear hF hG hte hV
  have hp := p243_pos t
  have hple := p243_le ht
  have HS : Hid (∀ w, Calls Tryd.prog 73 #[.int .i64 t] w fun e w' => e = .returned (.int .i64 (p243 t)) ∧ w' = w) := fun w => span_any t w ht
  obtain ⟨p, hpe⟩ : ∃ p, p243 t = p := ⟨_, rfl⟩
  have HPP : Hid (p243 t = p) := hpe
  rw [hpe] at hp hple HF HS
  clear hpe
  obtain ⟨q, hq⟩ : ∃ q, a / p = q := ⟨_, rfl⟩
  have hqi : (a : Int) / (p : Int) = (q : Int) := by rw [← hq, Int.natCast_ediv]
  rw [hq] at HF
  clear hq
  have hxq : x = F + (q : Int) := HF.out
  have hq1 : q ≤ 254 := by omega
  have i7 : (i : Int) < 7 := by omega
  go_enter Tryd.func66, Tryd.ntmps66
  go_wp2_with fail
  refine (HR.out w HT.out).mono ?_
  rintro e w1 ⟨rfl, hw⟩
  subst hw
  go_wp2_with fail
  refine (HS.out _).mono ?_
  rintro e w2 ⟨rfl, hw⟩
  rw [hw]
  clear hw w2
  go_upto_region 6 with fail
  go_region
  rw [← ha, hqi, show (q : Int) % 256 = (q : Int) by omega, show (F + (q : Int)) % 256 = x by omega]
  clear ha
  obtain ⟨W, hW⟩ : ∃ W, ((w1.alloc (.cells #[.int .u8 F, .int .u8 G, .int .i64 t, .int .i64 V] 124)).alloc (.cells #[.int .u8 x] 5)).drew = W := ⟨_, rfl⟩
  rw [hW]
  have HO : Hid (OutOf w1 W (.slice (some ⟨w1.heap.size + 1, 0, none⟩) 1 1) [x]) := by
    rw [← hW]
    refine ⟨(seg_one _ x _ (by simp)).chg ((Chg.refl (fun _ _ => False) _).drew) (fun _ _ _ h => h), fun g hg => by simp [Value.ownBlock] at hg; omega, ?_⟩
    exact (((Below.refl _ _).alloc (Nat.le_refl _) _).alloc (by simp) _).drew
  have hc2 : W.cell? ⟨w1.heap.size, 2, none⟩ = some (.int .i64 t) := by rw [← hW]; simp
  clear hW c0 c1 c2 c3 HR HS HF
  have HP2 : Hid (L = [x] ++ digs t a) := HP.out
  clear HP hxq hq1 hqi
  rw [← HPP.out]
  clear hp hple HPP
  go_wp2
  go_loopw [5, 6, 7, 37] (fun s y o j wr => ∃ (m a k : Nat) (T : List Int), s = .int .i64 (p243 m) ∧ y = .int .i64 a ∧ j = .int .i64 k ∧ k + m = t ∧ a ≤ 14348906 ∧ L = T ++ digs m a ∧ T.length = k + 1 ∧ OutOf w1 wr o T) (fun _ _ _ j _ => t - (intOf j).toNat)
  case atStart => exact ⟨t, a, 0, [x], rfl, rfl, rfl, Nat.zero_add _, hal, HP2.out, rfl, HO.out⟩
  case round =>
    clear HP2 HO hc2
    obtain ⟨m, b, k, T, rfl, rfl, rfl, hkm, hb, hLT, hTl, hO⟩ := hrel
    have HO : Hid (OutOf w1 wr u7 T) := hO
    have HL : Hid (L = T ++ digs m b) := hLT
    have HTL : Hid (T.length = k + 1) := hTl
    clear hO hLT hTl
    by_cases hlt : k < t
    · obtain ⟨m, rfl⟩ : ∃ m', m = m' + 1 := ⟨m - 1, by omega⟩
      have HTK : Hid (k + 1 + m = t) := (by omega : k + 1 + m = t)
      have HD : Hid (L = (T ++ [trB (b % p243 (m + 1) / p243 m)]) ++ digs m (b % p243 (m + 1))) := by
        show _ = _
        rw [HL.out, List.append_assoc]; rfl
      have hdl := dig_lt m b
      have hp1 := p243_pos (m + 1)
      have hp0 := p243_pos m
      have hp1l := p243_le (show m + 1 ≤ 3 by omega)
      have hp0l := p243_le (show m ≤ 3 by omega)
      have hpq : ((p243 (m + 1) : Nat) : Int) / 243 = ((p243 m : Nat) : Int) := by have := p243_half m; omega
      have hA : (b : Int) % ((p243 (m + 1) : Nat) : Int) = ((b % p243 (m + 1) : Nat) : Int) := by rw [Int.natCast_emod]
      have hAl := Nat.mod_le b (p243 (m + 1))
      have hDg : ((b % p243 (m + 1) : Nat) : Int) / ((p243 m : Nat) : Int) = ((b % p243 (m + 1) / p243 m : Nat) : Int) := by rw [Int.natCast_ediv]
      obtain ⟨P1, e1⟩ : ∃ P1, p243 (m + 1) = P1 := ⟨_, rfl⟩
      obtain ⟨P0, e0⟩ : ∃ P0, p243 m = P0 := ⟨_, rfl⟩
      have HE0 : Hid (p243 m = P0) := e0
      rw [e1] at hp1 hp1l hpq hA hAl hDg HD hdl ⊢
      rw [e0] at hp0 hp0l hpq hDg HD hdl
      obtain ⟨A1, eA⟩ : ∃ A1, b % P1 = A1 := ⟨_, rfl⟩
      rw [eA] at hA hAl hDg HD hdl
      obtain ⟨dg, eD⟩ : ∃ dg, A1 / P0 = dg := ⟨_, rfl⟩
      rw [eD] at hDg HD hdl
      have hrr := trB_rng hdl
      have HBY : Hid (∀ w, Tabs w → Calls Tryd.prog 74 #[.int .i64 dg] w fun e w' => e = .returned (.tuple #[.int .u8 (trB dg), .bool true]) ∧ ∃ n, w' = w.drewN n) := fun w hT => byte_yes dg w hT hdl
      obtain ⟨r, eR⟩ : ∃ r, trB dg = r := ⟨_, rfl⟩
      rw [eR] at HD HBY hrr
      clear e1 e0 eA eD eR HL
      have i1 : (k : Int) < (t : Int) := by omega
      go_wp2_with fail
      refine (HBY.out wr (HT.out.below HO.out.2.2)).mono ?_
      rintro e w2 ⟨rfl, n2, hw2⟩
      have HW2 : Hid (Below wr.heap.size wr w2) := by rw [hw2]; exact below_dn _ _
      clear hw2
      have HSA : Hid (∀ o, OutOf w1 (w2.alloc o) u7 T) := fun o => HO.out.below (below_two HW2.out ((Below.refl _ _).alloc (Nat.le_refl _) o))
      go_wp2_with (at_builtin; go_must (refine wpList_append_seg rfl _ _ 46 46 rfl .u8 5 1 Tryd.underlying46 info_u8 u7 T [r] rfl (HSA.out _).1 _ rfl (src_row (l := [r]) Tryd.underlying46 (by exact row_new .u8 w2 [r] _ _ rfl) rfl (fun h => by cases h)) (by have := HTL.out; unfold maxLen; simp; omega) (by have := HTL.out; simp; omega) ?_; intro vo w4 hs4 hc4 hm4))
      have HF4 : Hid (OutOf w1 w4 vo (T ++ [r])) := HO.out.app (below_two HW2.out ((Below.refl _ _).alloc (Nat.le_refl _) _)) hs4 hc4 hm4
      clear hs4 hc4 hm4 HSA
      exact ⟨⟨m, A1, k + 1, T ++ [r], by rw [HE0.out], rfl, by go_num, HTK.out, by omega, HD.out, by have := HTL.out; simp; omega, HF4.out⟩, by simp [intOf]; omega⟩
    · obtain rfl : m = 0 := by omega
      have HLT : Hid (L = T) := (by have := HL.out; rw [this]; simp [digs] : L = T)
      obtain ⟨ao, co, hvo, hro, -⟩ := HO.out.1.form
      obtain ⟨ln, hln⟩ : ∃ ln, T.length = ln := ⟨_, rfl⟩
      rw [hln] at hvo
      have hcv := run_string wr ao ln co T hro hln
      rw [← HLT.out] at hcv
      subst hvo
      have HB : Hid (Below w1.heap.size w1 wr) := HO.out.2.2
      clear hro hln HL HTL HLT HO
      have i1 : (t : Int) ≤ (k : Int) := by omega
      go_wp2
      go_ret2
      exact ⟨rfl, HB.out⟩
end Dif
end Go.Proofs.YtlifobdooophbaaDoor
