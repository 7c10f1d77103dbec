/-
  The two tables of layer 11 in memory, and the contracts of what reads them, as walks over the translated text. The condition: the tables are as the program's text lays them.
-/
import Derived.Test.YtlifobdooophbaaDoorTxt
import Derived.Test.YtlifobdooophbaaDoorDifMath
import Derived.Lib.MinMax
import Derived.OwnWalk
import Derived.Laws.BitsAllLaws
import Derived.BigQuiet
import Derived.Deep.RegionHeld3
import Derived.Deep.CutBlock
namespace Go.Proofs.YtlifobdooophbaaDoor
open Go.ChangeShapes Go.WideShapes Go.ChangeAt Go.RowKit
namespace Dif
open Bas Txt
set_option linter.unusedVariables false

/-- The runs of trail bytes. -/
def rfI (i : Nat) : Int := if i = 0 then 1 else if i = 1 then 16 else if i = 2 then 28 else 33
def rtI (i : Nat) : Int := if i = 0 then 6 else if i = 1 then 25 else if i = 2 then 31 else 255
def rwI (i : Nat) : Int := if i = 0 then 0 else if i = 1 then 6 else if i = 2 then 16 else 20
theorem rf_rng {i : Nat} (h : i < 4) : 1 ≤ rfI i ∧ rfI i ≤ 33 ∧ 6 ≤ rtI i ∧ rtI i ≤ 255 ∧ 0 ≤ rwI i ∧ rwI i ≤ 20 := by
  have hcs : i = 0 ∨ i = 1 ∨ i = 2 ∨ i = 3 := by omega
  rcases hcs with rfl | rfl | rfl | rfl <;> decide
theorem fr_rng {i : Nat} (h : i < 7) : 33 ≤ fromI i ∧ fromI i ≤ 254 ∧ 33 ≤ toI i ∧ toI i ≤ 254 := by
  have hcs : i = 0 ∨ i = 1 ∨ i = 2 ∨ i = 3 ∨ i = 4 ∨ i = 5 ∨ i = 6 := by omega
  rcases hcs with rfl | rfl | rfl | rfl | rfl | rfl | rfl <;> decide
/-- The tables, as the program's text lays them. -/
structure Tabs (w : World) : Prop where
  a : ∀ i, i < 7 → w.cell? ⟨0, i * 4, none⟩ = some (.int .u8 (fromI i))
  b : ∀ i, i < 7 → w.cell? ⟨0, i * 4 + 1, none⟩ = some (.int .u8 (toI i))
  c : ∀ i, i < 7 → w.cell? ⟨0, i * 4 + 2, none⟩ = some (.int .i64 (trN i))
  d : ∀ i, i < 7 → w.cell? ⟨0, i * 4 + 3, none⟩ = some (.int .i64 (leastI i))
  e : ∀ i, i < 4 → w.cell? ⟨1, i * 3, none⟩ = some (.int .u8 (rfI i))
  f : ∀ i, i < 4 → w.cell? ⟨1, i * 3 + 1, none⟩ = some (.int .u8 (rtI i))
  g : ∀ i, i < 4 → w.cell? ⟨1, i * 3 + 2, none⟩ = some (.int .i64 (rwI i))
theorem Tabs.chg {S : Nat → Nat → Prop} {w w' : World} (h : Tabs w) (hc : Chg S w w') (h0 : ∀ j, ¬ S 0 j) (h1 : ∀ j, ¬ S 1 j) : Tabs w' :=
  ⟨fun i hi => hc.cellAt (h.a i hi) (h0 _), fun i hi => hc.cellAt (h.b i hi) (h0 _), fun i hi => hc.cellAt (h.c i hi) (h0 _), fun i hi => hc.cellAt (h.d i hi) (h0 _),
   fun i hi => hc.cellAt (h.e i hi) (h1 _), fun i hi => hc.cellAt (h.f i hi) (h1 _), fun i hi => hc.cellAt (h.g i hi) (h1 _)⟩
theorem Tabs.below {w w' : World} (h : Tabs w) (hb : Below w.heap.size w w') : Tabs w' :=
  h.chg (chg_of_below hb (Nat.le_refl _) (fun _ _ => False)) (fun _ h => h) (fun _ h => h)
theorem Tabs.two {w : World} (h : Tabs w) : 1 < w.heap.size := World.block_lt_of_cell? w _ (h.e 0 (by decide))

set_option maxHeartbeats 1000000 in
theorem span_any (t : Nat) (w : World) (ht : t ≤ 3) :
    Calls Tryd.prog 73 #[.int .i64 t] w fun e w' => e = .returned (.int .i64 (p243 t)) ∧ w' = w := by
  have HT : Hid (t ≤ 3) := ht
  go_enter Tryd.func73, Tryd.ntmps73
  go_wp2
  go_loopw [3, 5] (fun s i wr => ∃ k : Nat, s = .int .i64 (p243 k) ∧ i = .int .i64 k ∧ k ≤ t ∧ wr = w) (fun _ i _ => t - (intOf i).toNat)
  case atStart => exact ⟨0, rfl, rfl, Nat.zero_le _, rfl⟩
  case round =>
    obtain ⟨k, rfl, rfl, hk, hw⟩ := hrel
    subst hw
    have hp := p243_le (show k ≤ 3 by omega)
    have HS : Hid (p243 (k + 1) = 243 * p243 k) := p243_succ k
    obtain ⟨q, hq⟩ : ∃ q, p243 k = q := ⟨_, rfl⟩
    rw [hq] at hp HS ⊢
    by_cases hlt : k < t
    · clear hq
      have i1 : (k : Int) < (t : Int) := by omega
      go_wp2
      go_roundw
      case rel => exact ⟨k + 1, by rw [HS.out]; go_num, by go_num, by omega, trivial⟩
      case measure => simp [intOf]; omega
    · have HK : Hid (p243 t = q) := by rw [show t = k by omega]; exact hq
      clear hq
      have i1 : (t : Int) ≤ (k : Int) := by omega
      go_wp2
      go_ret
      exact ⟨ret_int (by rw [HK.out]), rfl⟩
set_option maxHeartbeats 2000000 in
theorem rowOf_any (d : Int) (w : World) (hT : Tabs w) :
    Calls Tryd.prog 72 #[.int .i64 d] w fun e w' => e = .returned (.int .i64 (rowD d)) ∧ w' = w := by
  have HI : Hid _ := rowD_iff d
  have HL : Hid (rowD d ≤ 6) := rowD_le d
  have HT : Hid (Tabs w) := hT
  clear hT
  go_enter Tryd.func72, Tryd.ntmps72
  go_wp2
  go_loopw [3] (fun i wr => ∃ k : Nat, i = .int .i64 k ∧ k ≤ 6 ∧ rowD d ≤ k ∧ wr = w) (fun i _ => (intOf i).toNat)
  case atStart => exact ⟨6, rfl, by omega, HL.out, rfl⟩
  case round =>
    obtain ⟨k, rfl, hk, hr, rfl⟩ := hrel
    by_cases h0 : k = 0
    · subst h0
      have HR : Hid (rowD d = 0) := (by omega : rowD d = 0)
      clear hr
      go_wp2
      go_ret
      exact ⟨by rw [HR.out]; rfl, rfl⟩
    · have hc := HT.out.d k (by omega)
      have HR : Hid (rowD d ≤ k) := hr
      clear hr
      have i1 : (k : Int) > 0 := by omega
      have i2 : (k : Int) < 7 := by omega
      have HLE : Hid (d < leastI k ↔ ¬ rowD d = k) := by
        have hi := HI.out
        have hr := HR.out
        have hcs : k = 1 ∨ k = 2 ∨ k = 3 ∨ k = 4 ∨ k = 5 ∨ k = 6 := by omega
        show _ ↔ _
        rcases hcs with rfl | rfl | rfl | rfl | rfl | rfl <;> simp only [leastI] <;> simp <;> omega
      obtain ⟨L, hL⟩ : ∃ L, leastI k = L := ⟨_, rfl⟩
      rw [hL] at hc HLE
      clear hL
      by_cases hlt : d < L
      · go_wp2
        go_roundw
        case rel => exact ⟨k - 1, by go_num, by omega, by have := HLE.out.1 hlt; have := HR.out; omega, by simp⟩
        case measure => simp [intOf]; omega
      · have HE : Hid (rowD d = k) := by
          have := mt HLE.out.2 hlt
          exact Classical.not_not.1 this
        go_wp2
        go_ret
        exact ⟨by rw [HE.out]; rfl, rfl⟩
/-- The run of a worth. -/
def runV (v : Nat) : Nat := if v < 6 then 0 else if v < 16 then 1 else if v < 20 then 2 else 3
theorem runV_iff (v : Nat) : (runV v = 0 ↔ v < 6) ∧ (runV v = 1 ↔ 6 ≤ v ∧ v < 16) ∧ (runV v = 2 ↔ 16 ≤ v ∧ v < 20) ∧ (runV v = 3 ↔ 20 ≤ v) ∧ runV v ≤ 3 := by
  unfold runV; repeat' split
  all_goals omega
theorem runV_byte (v : Nat) : trB v = rfI (runV v) + ((v : Int) - rwI (runV v)) := by
  unfold trB runV; repeat' split
  all_goals simp only [rfI, rwI]
  all_goals simp
  all_goals omega
theorem runV_rng {v : Nat} (h : v < 243) : 0 ≤ rwI (runV v) ∧ rwI (runV v) ≤ v ∧ 1 ≤ rfI (runV v) ∧ rfI (runV v) + ((v : Int) - rwI (runV v)) ≤ 255 := by
  unfold runV; repeat' split
  all_goals simp only [rfI, rwI]
  all_goals simp
  all_goals omega
theorem ret_byte {a b : Int} {s : Bool} (h : a = b) : Ending.returned (.tuple #[.int .u8 a, .bool s]) = .returned (.tuple #[.int .u8 b, .bool s]) := by rw [h]
set_option maxHeartbeats 2000000 in
theorem byte_no (v : Int) (w : World) (h : v < 0 ∨ 243 ≤ v) :
    Calls Tryd.prog 74 #[.int .i64 v] w fun e w' => e = .returned (.tuple #[.int .u8 0, .bool false]) ∧ w' = w := by
  rcases h with h | h
  all_goals
    go_enter Tryd.func74, Tryd.ntmps74
    go_wp2
    go_ret2
    exact ⟨rfl, rfl⟩
set_option maxHeartbeats 4000000 in
set_option maxRecDepth 100000 in
theorem byte_yes (v : Nat) (w : World) (hT : Tabs w) (hv : v < 243) :
    Calls Tryd.prog 74 #[.int .i64 v] w fun e w' => e = .returned (.tuple #[.int .u8 (trB v), .bool true]) ∧ ∃ n, w' = w.drewN n := by
  have HI : Hid ((runV v = 0 ↔ v < 6) ∧ (runV v = 1 ↔ 6 ≤ v ∧ v < 16) ∧ (runV v = 2 ↔ 16 ≤ v ∧ v < 20) ∧ (runV v = 3 ↔ 20 ≤ v) ∧ runV v ≤ 3) := runV_iff v
  have HB : Hid (trB v = rfI (runV v) + ((v : Int) - rwI (runV v))) := runV_byte v
  have HR : Hid (0 ≤ rwI (runV v) ∧ rwI (runV v) ≤ v ∧ 1 ≤ rfI (runV v) ∧ rfI (runV v) + ((v : Int) - rwI (runV v)) ≤ 255) := runV_rng hv
  have HT : Hid (Tabs w) := hT
  clear hT
  have i0 : (v : Int) < 243 := by omega
  go_enter Tryd.func74, Tryd.ntmps74
  go_wp2
  go_loopw [4] (fun i wr => ∃ k : Nat, i = .int .i64 k ∧ k ≤ 3 ∧ runV v ≤ k ∧ wr = w) (fun i _ => (intOf i).toNat)
  case atStart => exact ⟨3, rfl, by omega, HI.out.2.2.2.2, rfl⟩
  case round =>
    obtain ⟨k, rfl, hk, hr, rfl⟩ := hrel
    have hc := HT.out.g k (by omega)
    have hd := HT.out.e k (by omega)
    have HK : Hid (runV v ≤ k) := hr
    clear hr
    have i2 : (k : Int) < 4 := by omega
    have HLE : Hid ((v : Int) < rwI k ↔ ¬ runV v = k) := by
      have hi := HI.out
      have hr := HK.out
      have hcs : k = 0 ∨ k = 1 ∨ k = 2 ∨ k = 3 := by omega
      show _ ↔ _
      rcases hcs with rfl | rfl | rfl | rfl <;> simp only [rwI] <;> simp <;> omega
    have HP : Hid ((v : Int) < rwI k → 1 ≤ k) := fun h => by
      have := HLE.out.1 h
      have := HK.out
      omega
    by_cases hlt : (v : Int) < rwI k
    · obtain ⟨L, hL⟩ : ∃ L, rwI k = L := ⟨_, rfl⟩
      have hk1 := HP.out hlt
      have HN := HLE.out.1 hlt
      have HN2 : Hid (runV v ≤ k - 1) := (by have := HK.out; omega : runV v ≤ k - 1)
      rw [hL] at hc hlt
      clear hL HN HLE HP
      have i3 : (1 : Int) ≤ (k : Int) := by omega
      go_wp2
      go_roundw
      case rel => exact ⟨k - 1, by go_num, by omega, HN2.out, by simp⟩
      case measure => simp [intOf]; omega
    · have HE : Hid (runV v = k) := Classical.not_not.1 (mt HLE.out.2 hlt)
      have hr := HR.out
      have hb := HB.out
      rw [HE.out] at hr hb
      obtain ⟨L, hL⟩ : ∃ L, rwI k = L := ⟨_, rfl⟩
      obtain ⟨F, hF⟩ : ∃ F, rfI k = F := ⟨_, rfl⟩
      rw [hL] at hc hlt hr hb
      rw [hF] at hd hr hb
      obtain ⟨r1, r2, r3, r4⟩ := hr
      have HBB : Hid (trB v = F + ((v : Int) - L)) := hb
      clear hb hL hF HE HLE HP HB HR
      have e1 : IntKind.u8.wrap ((v : Int) - L) = (v : Int) - L := by rw [IntKind.wrap_u8]; omega
      have e2 : IntKind.u8.wrap (F + ((v : Int) - L)) = F + ((v : Int) - L) := by rw [IntKind.wrap_u8]; omega
      go_upto_region 6 with fail
      go_quiet (fail)
      go_wp2
      go_ret2
      exact ⟨ret_byte HBB.out.symm, _, rfl⟩
/-- The bits of 32 above the seventh. -/
theorem and_mask (a : Nat) (h : a < 4294967296) : a &&& 4294967168 = a / 128 * 128 := by
  apply Nat.eq_of_testBit_eq
  intro i
  rw [Nat.testBit_and, show (4294967168 : Nat) = (2 ^ 25 - 1) * 2 ^ 7 from rfl, show a / 128 * 128 = a / 2 ^ 7 * 2 ^ 7 from rfl, Nat.testBit_mul_two_pow, Nat.testBit_mul_two_pow, Nat.testBit_two_pow_sub_one, Nat.testBit_div_two_pow]
  by_cases h7 : 7 ≤ i
  · have e : i - 7 + 7 = i := by omega
    rw [e]
    by_cases h32 : i - 7 < 25
    · simp [h7, h32]
    · have : a.testBit i = false := Nat.testBit_lt_two_pow (Nat.lt_of_lt_of_le h (by
        have : 2 ^ 32 ≤ 2 ^ i := Nat.pow_le_pow_right (by decide) (by omega)
        exact this))
      simp [this]
  · simp [h7]
theorem not7 {c : Int} (h0 : 0 ≤ c) (h1 : c < 4294967296) : bits .andNot .u32 c 127 = c / 128 * 128 := by
  rw [u32_andNot c 127 h0 h1 (by decide) (by decide)]
  have := and_mask c.toNat (by omega)
  rw [show (4294967295 - (127 : Int).toNat) = 4294967168 from rfl, this]
  omega
set_option maxHeartbeats 2000000 in
theorem prev_any (c : Int) (w : World) (h0 : 0 ≤ c) (h1 : c < 4294967296) :
    Calls Tryd.prog 67 #[.int .u32 c] w fun e w' => e = .returned (.int .u32 (prevI c)) ∧ w' = w := by
  by_cases a1 : 12352 ≤ c ∧ c ≤ 12447
  · have H : Hid (prevI c = 12400) := by show _ = _; unfold prevI; rw [if_pos a1]
    obtain ⟨b1, b2⟩ := a1
    rw [H.out]
    go_enter Tryd.func67, Tryd.ntmps67
    go_wp2
    go_ret
    exact ⟨rfl, rfl⟩
  · by_cases a2 : 19968 ≤ c ∧ c ≤ 40869
    · have H : Hid (prevI c = 30481) := by show _ = _; unfold prevI; rw [if_neg a1, if_pos a2]
      obtain ⟨b1, b2⟩ := a2
      have b3 : ¬ c ≤ 12447 := by omega
      rw [H.out]
      clear a1
      go_enter Tryd.func67, Tryd.ntmps67
      go_wp2
      go_ret
      exact ⟨rfl, rfl⟩
    · by_cases a3 : 44032 ≤ c ∧ c ≤ 55203
      · have H : Hid (prevI c = 49617) := by show _ = _; unfold prevI; rw [if_neg a1, if_neg a2, if_pos a3]
        obtain ⟨b1, b2⟩ := a3
        have b3 : ¬ c ≤ 12447 := by omega
        have b4 : ¬ c ≤ 40869 := by omega
        rw [H.out]
        clear a1 a2
        go_enter Tryd.func67, Tryd.ntmps67
        go_wp2
        go_ret
        exact ⟨rfl, rfl⟩
      · have H : Hid (prevI c = c / 128 * 128 + 64) := by show _ = _; unfold prevI; rw [if_neg a1, if_neg a2, if_neg a3]
        have hn := not7 h0 h1
        rw [H.out]
        go_enter Tryd.func67, Tryd.ntmps67
        go_wp2
        all_goals
          go_ret
          exact ⟨rfl, rfl⟩
end Dif
end Go.Proofs.YtlifobdooophbaaDoor
