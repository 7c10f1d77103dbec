/-
  The two tables of layer 13 in memory, and the contracts of the program's plain functions and of most calls of its Windows, wherever they lie, as walks over the translated text. The condition: the tables are as the program's text lays them.
-/
import Derived.Test.YtpglmfhlgaliaaaDoorMem
import Derived.Test.YtpglmfhlgaliaaaDoorMemS
import Derived.Test.YtpglmfhlgaliaaaDoorWinMath
import Derived.Lib.MinMax
import Derived.OwnWalk
import Derived.Laws.BitsAllLaws
import Derived.BigQuiet
import Derived.Deep.RegionHeld3
import Derived.Deep.CutBlock
namespace Go.Proofs.YtpglmfhlgaliaaaDoor
open Go.ChangeShapes Go.WideShapes Go.ChangeAt Go.RowKit
namespace Win
open Bas
set_option linter.unusedVariables false

/-- The tables, as the program's text lays them. -/
structure Tabs (w : World) : Prop where
  nm : ∀ i : Nat, i < 7 → w.cell? ⟨0, i, none⟩ = some (.int .u32 (fixI (249 + (i : Int))))
  st : ∀ i : Nat, i < 8 → w.cell? ⟨1, i, none⟩ = some (.int .u32 (nth statL i))
theorem Tabs.chg {S : Nat → Nat → Prop} {w w' : World} (h : Tabs w) (hc : Chg S w w') (h0 : ∀ k, k < 2 → ∀ j, ¬ S k j) : Tabs w' :=
  ⟨fun i hi => hc.cellAt (h.nm i hi) (h0 _ (by decide) _), fun i hi => hc.cellAt (h.st i hi) (h0 _ (by decide) _)⟩
theorem Tabs.below {w w' : World} (h : Tabs w) (hb : Below w.heap.size w w') : Tabs w' :=
  h.chg (chg_of_below hb (Nat.le_refl _) (fun _ _ => False)) (fun _ _ _ h => h)
theorem Tabs.drewN {w : World} (h : Tabs w) (n : Nat) : Tabs (w.drewN n) := ⟨h.nm, h.st⟩
theorem wrap_i64w (x : Int) (h1 : -9223372036854775808 ≤ x) (h2 : x < 9223372036854775808) : IntKind.i64.wrap x = x := by
  rw [IntKind.wrap_i64]; omega
theorem Tabs.two {w : World} (h : Tabs w) : 1 < w.heap.size := World.block_lt_of_cell? w _ (h.st 0 (by decide))

theorem byte_of {x : Int} (h : (Lit.int .u8 x).wf = true) : 0 ≤ x ∧ x < 256 := by
  have e1 : IntKind.u8.min = 0 := rfl
  have e2 : IntKind.u8.max = 255 := rfl
  simp only [Lit.wf, e1, e2, Bool.and_eq_true, decide_eq_true_eq] at h
  omega
theorem u32_of {x : Int} (h : (Lit.int .u32 x).wf = true) : 0 ≤ x ∧ x < 4294967296 := by
  have e1 : IntKind.u32.min = 0 := rfl
  have e2 : IntKind.u32.max = 4294967295 := rfl
  simp only [Lit.wf, e1, e2, Bool.and_eq_true, decide_eq_true_eq] at h
  omega
theorem i64_of {x : Int} (h : (Lit.int .i64 x).wf = true) : -9223372036854775808 ≤ x ∧ x < 9223372036854775808 := by
  have e1 : IntKind.i64.min = -9223372036854775808 := rfl
  have e2 : IntKind.i64.max = 9223372036854775807 := rfl
  simp only [Lit.wf, e1, e2, Bool.and_eq_true, decide_eq_true_eq] at h
  omega

set_option maxHeartbeats 1000000 in
theorem holds_any (o c : Int) (w : World) (o0 : 0 ≤ o) (o1 : o < 4294967296) (c0 : 0 ≤ c) (c1 : c < 4294967296) :
    Calls Tryd.prog 69 #[.int .u32 o, .int .u32 c] w fun e w' => e = .returned (.bool (hasI o c)) ∧ w' = w := by
  by_cases h : o ≤ c
  · by_cases h2 : c - o < 128
    · have HE : Hid (hasI o c = true) := has_iff.2 ⟨h, by omega⟩
      rw [HE.out]
      have hw : IntKind.u32.wrap (c - o) = c - o := by rw [IntKind.wrap_u32]; omega
      go_enter Tryd.func69, Tryd.ntmps69
      go_wp2
      go_ret
      exact ⟨rfl, rfl⟩
    · have HE : Hid (hasI o c = false) := has_no.2 (by omega)
      rw [HE.out]
      have hw : IntKind.u32.wrap (c - o) = c - o := by rw [IntKind.wrap_u32]; omega
      go_enter Tryd.func69, Tryd.ntmps69
      go_wp2
      go_ret
      exact ⟨rfl, rfl⟩
  · have HE : Hid (hasI o c = false) := has_no.2 (by omega)
    rw [HE.out]
    go_enter Tryd.func69, Tryd.ntmps69
    go_wp2
    go_ret
    exact ⟨rfl, rfl⟩
/-- Is it a window's number? -/
def isW (n : Int) : Bool := decide (0 ≤ n ∧ n ≤ 7)
theorem isW_yes {n : Int} (h : 0 ≤ n) (h2 : n ≤ 7) : isW n = true := by unfold isW; simp; omega
theorem isW_no {n : Int} (h : n < 0 ∨ 7 < n) : isW n = false := by unfold isW; simp; omega
set_option maxHeartbeats 400000 in
theorem is_any (n : Int) (w : World) : Calls Tryd.prog 79 #[.int .i64 n] w fun e w' => e = .returned (.bool (isW n)) ∧ w' = w := by
  by_cases h : 0 ≤ n
  · by_cases h2 : n < 8
    · rw [isW_yes h (by omega)]
      go_enter Tryd.func79, Tryd.ntmps79
      go_wp2
      go_ret
      exact ⟨rfl, rfl⟩
    · rw [isW_no (by omega)]
      go_enter Tryd.func79, Tryd.ntmps79
      go_wp2
      go_ret
      exact ⟨rfl, rfl⟩
  · rw [isW_no (by omega)]
    go_enter Tryd.func79, Tryd.ntmps79
    go_wp2
    go_ret
    exact ⟨rfl, rfl⟩
/-- A number of a list at a window's number; 0 if it is none. -/
def atW (l : List Int) (n : Int) : Int := if 0 ≤ n ∧ n ≤ 7 then nth l n.toNat else 0
theorem atW_yes (l : List Int) (k : Nat) (h : k < 8) : atW l (k : Int) = nth l k := by unfold atW; rw [if_pos ⟨by omega, by omega⟩]; rfl
theorem atW_no (l : List Int) {n : Int} (h : n < 0 ∨ 7 < n) : atW l n = 0 := by unfold atW; rw [if_neg (by omega)]
theorem ret_ub {a b : Int} {s t : Bool} (h : a = b) (g : s = t) : Ending.returned (.tuple #[.int .u32 a, .bool s]) = .returned (.tuple #[.int .u32 b, .bool t]) := by rw [h, g]
theorem ret_bb {a b : Int} {s t : Bool} (h : a = b) (g : s = t) : Ending.returned (.tuple #[.int .u8 a, .bool s]) = .returned (.tuple #[.int .u8 b, .bool t]) := by rw [h, g]
theorem ret_ib {a b : Int} {s t : Bool} (h : a = b) (g : s = t) : Ending.returned (.tuple #[.int .i64 a, .bool s]) = .returned (.tuple #[.int .i64 b, .bool t]) := by rw [h, g]
set_option maxHeartbeats 1000000 in
theorem static_any (n : Int) (w : World) (hT : Tabs w) : Calls Tryd.prog 78 #[.int .i64 n] w fun e w' => e = .returned (.tuple #[.int .u32 (atW statL n), .bool (isW n)]) ∧ w' = w := by
  by_cases h : 0 ≤ n ∧ n ≤ 7
  · obtain ⟨k, rfl⟩ := Int.eq_ofNat_of_zero_le h.1
    have hk : k < 8 := by omega
    have hc := hT.st k hk
    have HI : Hid (∀ w, Calls Tryd.prog 79 #[.int .i64 (k : Int)] w fun e w' => e = .returned (.bool true) ∧ w' = w) := by have := is_any (k : Int); rwa [isW_yes h.1 h.2] at this
    rw [atW_yes _ k hk, isW_yes h.1 h.2]
    clear hT h
    go_enter Tryd.func78, Tryd.ntmps78
    go_wp2_with fail
    refine (HI.out w).mono ?_
    rintro e w1 ⟨rfl, hw⟩
    subst hw
    go_wp2
    go_ret2
    exact ⟨rfl, rfl⟩
  · have HI : Hid (∀ w, Calls Tryd.prog 79 #[.int .i64 n] w fun e w' => e = .returned (.bool false) ∧ w' = w) := by have := is_any n; rwa [isW_no (by omega)] at this
    rw [atW_no _ (by omega), isW_no (by omega)]
    clear hT h
    go_enter Tryd.func78, Tryd.ntmps78
    go_wp2_with fail
    refine (HI.out w).mono ?_
    rintro e w1 ⟨rfl, hw⟩
    subst hw
    go_wp2
    go_ret2
    exact ⟨rfl, rfl⟩
/-- What is told of an index. -/
def offV (x : Int) : Int := if offI x < 0 then 0 else offI x
def offB (x : Int) : Bool := decide (0 ≤ offI x)
theorem off_yes {x : Int} {o : Int} (h : offI x = o) (ho : 0 ≤ o) : offV x = o ∧ offB x = true := by
  unfold offV offB; rw [h, if_neg (by omega)]; exact ⟨rfl, by simp; exact ho⟩
theorem off_not {x : Int} (h : offI x = -1) : offV x = 0 ∧ offB x = false := by
  unfold offV offB; rw [h]; exact ⟨rfl, rfl⟩
set_option maxHeartbeats 2000000 in
theorem offset_any (x : Int) (w : World) (hT : Tabs w) (x0 : 0 ≤ x) (x1 : x < 256) :
    Calls Tryd.prog 80 #[.int .u8 x] w fun e w' => e = .returned (.tuple #[.int .u32 (offV x), .bool (offB x)]) ∧ w' = w := by
  by_cases h : 249 ≤ x
  · obtain ⟨k, hk⟩ := Int.eq_ofNat_of_zero_le (show 0 ≤ x - 249 by omega)
    have hk7 : k < 7 := by omega
    have hc := hT.nm k hk7
    have hx : x = 249 + (k : Int) := by omega
    have HE := off_yes (off_fix h (by omega)) (by have := fix_rng x; omega)
    rw [HE.1, HE.2, hx]
    subst hx
    have i1 : IntKind.u8.wrap (249 + (k : Int) - 249) = (k : Int) := by rw [IntKind.wrap_u8]; omega
    have i2 : (k : Int) < 7 := by omega
    have i3 : 249 + (k : Int) ≥ 249 := by omega
    clear HE hT hk
    obtain ⟨F, hF⟩ : ∃ F, fixI (249 + (k : Int)) = F := ⟨_, rfl⟩
    rw [hF] at hc ⊢
    clear hF
    go_enter Tryd.func80, Tryd.ntmps80
    go_wp2
    go_ret2
    exact ⟨rfl, rfl⟩
  · by_cases h1 : x < 1
    · have HE := off_not (off_none (x := x) (by omega))
      rw [HE.1, HE.2]
      clear HE hT
      go_enter Tryd.func80, Tryd.ntmps80
      go_wp2
      go_ret2
      exact ⟨rfl, rfl⟩
    · by_cases h2 : 167 < x
      · have HE := off_not (off_none (x := x) (by omega))
        rw [HE.1, HE.2]
        clear HE hT
        go_enter Tryd.func80, Tryd.ntmps80
        go_wp2
        go_ret2
        exact ⟨rfl, rfl⟩
      · by_cases h3 : x ≤ 103
        · have HE : Hid (offV x = 128 * x ∧ offB x = true) := off_yes (off_one (x := x) (by omega) h3) (by omega)
          rw [HE.out.1, HE.out.2]
          have e1 : IntKind.u32.wrap (IntKind.u32.wrap x * 128) = x * 128 := by rw [IntKind.wrap_u32, IntKind.wrap_u32]; omega
          have e2 : x * 128 < 13312 := by omega
          clear hT
          go_enter Tryd.func80, Tryd.ntmps80
          go_wp2
          go_ret2
          exact ⟨ret_ub (by omega) rfl, rfl⟩
        · have HE : Hid (offV x = 128 * x + 44032 ∧ offB x = true) := off_yes (off_two (x := x) (by omega) (by omega)) (by omega)
          rw [HE.out.1, HE.out.2]
          have e1 : IntKind.u32.wrap (IntKind.u32.wrap x * 128) = x * 128 := by rw [IntKind.wrap_u32, IntKind.wrap_u32]; omega
          have e3 : IntKind.u32.wrap (x * 128 + 44032) = x * 128 + 44032 := by rw [IntKind.wrap_u32]; omega
          have e2 : 13312 ≤ x * 128 := by omega
          clear hT
          go_enter Tryd.func80, Tryd.ntmps80
          go_wp2
          go_ret2
          exact ⟨ret_ub (by omega) rfl, rfl⟩
theorem and31_b : ∀ i : Fin 256, bits .and .u8 ((i.val : Nat) : Int) 31 = ((i.val : Nat) : Int) % 32 := by decide +kernel
theorem and31 {x : Int} (h : 0 ≤ x) (h1 : x < 256) : bits .and .u8 x 31 = x % 32 := by
  obtain ⟨k, rfl⟩ := Int.eq_ofNat_of_zero_le h
  exact and31_b ⟨k, by omega⟩
theorem ret_iu {a b c d : Int} (h : a = b) (g : c = d) : Ending.returned (.tuple #[.int .i64 a, .int .u32 c]) = .returned (.tuple #[.int .i64 b, .int .u32 d]) := by rw [h, g]
theorem ret_bbb {a b c d : Int} {s : Bool} (h : a = b) (g : c = d) : Ending.returned (.tuple #[.int .u8 a, .int .u8 c, .bool s]) = .returned (.tuple #[.int .u8 b, .int .u8 d, .bool s]) := by rw [h, g]
set_option maxHeartbeats 1000000 in
theorem ext_any (h l : Int) (w : World) (h0 : 0 ≤ h) (h1 : h < 256) (l0 : 0 ≤ l) (l1 : l < 256) :
    Calls Tryd.prog 81 #[.int .u8 h, .int .u8 l] w fun e w' => e = .returned (.tuple #[.int .i64 (extN h), .int .u32 (extO h l)]) ∧ w' = w := by
  have HE : Hid (extN h = h / 32 ∧ extO h l = 65536 + 128 * (h % 32 * 256 + l)) := ⟨rfl, rfl⟩
  have ha := and31 h0 h1
  go_enter Tryd.func81, Tryd.ntmps81
  go_wp2
  go_ret2
  exact ⟨ret_iu HE.out.1.symm HE.out.2.symm, rfl⟩
/-- Does Pair answer? -/
def pairB (n c : Int) : Bool := decide (0 ≤ n ∧ n ≤ 7 ∧ 65536 ≤ c ∧ c ≤ 1114111)
def pairV (n c x : Int) : Int := if pairB n c = true then x else 0
theorem pairB_iff {n c : Int} : pairB n c = true ↔ 0 ≤ n ∧ n ≤ 7 ∧ 65536 ≤ c ∧ c ≤ 1114111 := by unfold pairB; simp
theorem pairB_not {n c : Int} : pairB n c = false ↔ ¬ (0 ≤ n ∧ n ≤ 7 ∧ 65536 ≤ c ∧ c ≤ 1114111) := by unfold pairB; rw [decide_eq_false_iff_not]
set_option maxHeartbeats 2000000 in
theorem pair_any (n c : Int) (w : World) (c0 : 0 ≤ c) (c1 : c < 4294967296) :
    Calls Tryd.prog 77 #[.int .i64 n, .int .u32 c] w fun e w' => e = .returned (.tuple #[.int .u8 (pairV n c (pairH n c)), .int .u8 (pairV n c (pairL c)), .bool (pairB n c)]) ∧ w' = w := by
  have HI : Hid (∀ w, Calls Tryd.prog 79 #[.int .i64 n] w fun e w' => e = .returned (.bool (isW n)) ∧ w' = w) := is_any n
  by_cases h : 0 ≤ n ∧ n ≤ 7
  · rw [isW_yes h.1 h.2] at HI
    by_cases h2 : c < 65536
    · have HE : Hid (pairB n c = false) := pairB_not.2 (by omega)
      unfold pairV
      rw [HE.out, if_neg (by decide), if_neg (by decide)]
      clear h
      go_enter Tryd.func77, Tryd.ntmps77
      go_wp2_with fail
      refine (HI.out w).mono ?_
      rintro e w1 ⟨rfl, hw⟩
      subst hw
      go_wp2
      refine bodyPost_ret (results_tmp3 rfl _ _ _) rfl ?_
      exact ⟨rfl, rfl⟩
    · by_cases h3 : 1114111 < c
      · have HE : Hid (pairB n c = false) := pairB_not.2 (by omega)
        unfold pairV
        rw [HE.out, if_neg (by decide), if_neg (by decide)]
        clear h
        go_enter Tryd.func77, Tryd.ntmps77
        go_wp2_with fail
        refine (HI.out w).mono ?_
        rintro e w1 ⟨rfl, hw⟩
        subst hw
        go_wp2
        refine bodyPost_ret (results_tmp3 rfl _ _ _) rfl ?_
        exact ⟨rfl, rfl⟩
      · have HE : Hid (pairB n c = true) := pairB_iff.2 (by omega)
        unfold pairV
        rw [HE.out, if_pos rfl, if_pos rfl]
        have HP : Hid (pairH n c = 32 * n + (c - 65536) / 128 / 256 ∧ pairL c = (c - 65536) / 128 % 256) := ⟨rfl, rfl⟩
        have hg := pair_rng h.1 h.2 (show 65536 ≤ c by omega) (show c ≤ 1114111 by omega)
        have hw : IntKind.u32.wrap (c - 65536) = c - 65536 := by rw [IntKind.wrap_u32]; omega
        obtain ⟨m, hm⟩ : ∃ m, (c - 65536) / 128 = m := ⟨_, rfl⟩
        rw [hm] at HP
        have m0 : 0 ≤ m := by omega
        have m1 : m < 8192 := by omega
        obtain ⟨n0, n7⟩ := h
        clear hg
        go_enter Tryd.func77, Tryd.ntmps77
        go_wp2_with fail
        refine (HI.out w).mono ?_
        rintro e w1 ⟨rfl, hw⟩
        subst hw
        go_wp2
        refine bodyPost_ret (results_tmp3 rfl _ _ _) rfl ?_
        exact ⟨ret_bbb (by have := HP.out.1; omega) HP.out.2.symm, rfl⟩
  · rw [isW_no (by omega)] at HI
    have HE : Hid (pairB n c = false) := pairB_not.2 (by omega)
    unfold pairV
    rw [HE.out, if_neg (by decide), if_neg (by decide)]
    clear h
    go_enter Tryd.func77, Tryd.ntmps77
    go_wp2_with fail
    refine (HI.out w).mono ?_
    rintro e w1 ⟨rfl, hw⟩
    subst hw
    go_wp2
    refine bodyPost_ret (results_tmp3 rfl _ _ _) rfl ?_
    exact ⟨rfl, rfl⟩
end Win
end Go.Proofs.YtpglmfhlgaliaaaDoor
