/-
  The table of layer 6 in memory, and the contracts of what reads it, as walks over the translated text. The condition: the table is as the program's text lays it.
-/
import Derived.Test.YtjbgcclbomimiaaDoorStp3
import Derived.Test.YtjbgcclbomimiaaDoorSca1
import Derived.Test.YtjbgcclbomimiaaDoorM8Mth
import Derived.Test.YtjbgcclbomimiaaDoorBld
import Derived.Laws.BitsAll
import Derived.Deep.RegionHeld3
import Derived.Deep.CutBlock
import Derived.BigQuiet
namespace Go.Proofs.YtjbgcclbomimiaaDoor
open Go.ChangeShapes Go.WideShapes Go.ChangeAt Go.RowKit
namespace M8
open Bas Sca Stp Scn Cod
set_option linter.unusedVariables false

/-- The table of rows, as the program's text lays it. -/
structure Tabs (w : World) : Prop where
  a0 : w.cell? ⟨0, 0, none⟩ = some (.int .u32 0)
  b0 : w.cell? ⟨0, 1, none⟩ = some (.int .u8 0)
  a1 : w.cell? ⟨0, 2, none⟩ = some (.int .u32 160)
  b1 : w.cell? ⟨0, 3, none⟩ = some (.int .u8 192)
  a2 : w.cell? ⟨0, 4, none⟩ = some (.int .u32 1024)
  b2 : w.cell? ⟨0, 5, none⟩ = some (.int .u8 224)
  a3 : w.cell? ⟨0, 6, none⟩ = some (.int .u32 16384)
  b3 : w.cell? ⟨0, 7, none⟩ = some (.int .u8 240)
  a4 : w.cell? ⟨0, 8, none⟩ = some (.int .u32 262144)
  b4 : w.cell? ⟨0, 9, none⟩ = some (.int .u8 248)
theorem Tabs.chg {S : Nat → Nat → Prop} {w w' : World} (h : Tabs w) (hc : Chg S w w') (h0 : ∀ j, ¬ S 0 j) : Tabs w' :=
  ⟨hc.cellAt h.a0 (h0 _), hc.cellAt h.b0 (h0 _), hc.cellAt h.a1 (h0 _), hc.cellAt h.b1 (h0 _), hc.cellAt h.a2 (h0 _), hc.cellAt h.b2 (h0 _), hc.cellAt h.a3 (h0 _), hc.cellAt h.b3 (h0 _), hc.cellAt h.a4 (h0 _), hc.cellAt h.b4 (h0 _)⟩
theorem Tabs.kp {X : Nat → Prop} {w w' : World} (h : Tabs w) (hc : Kp X w w') (h0 : ¬ X 0) : Tabs w' :=
  ⟨hc.cellAt h.a0 h0, hc.cellAt h.b0 h0, hc.cellAt h.a1 h0, hc.cellAt h.b1 h0, hc.cellAt h.a2 h0, hc.cellAt h.b2 h0, hc.cellAt h.a3 h0, hc.cellAt h.b3 h0, hc.cellAt h.a4 h0, hc.cellAt h.b4 h0⟩
theorem Tabs.below {w w' : World} (h : Tabs w) (hb : Below w.heap.size w w') : Tabs w' :=
  h.chg (chg_of_below hb (Nat.le_refl _) (fun _ _ => False)) (fun _ h => h)
theorem Tabs.pos {w : World} (h : Tabs w) : 0 < w.heap.size := World.block_lt_of_cell? w _ h.a0
set_option maxHeartbeats 1000000 in
theorem rowOf_any (c : Int) (w : World) (h0 : 0 ≤ c) (hT : Tabs w) :
    Calls Tryd.prog 91 #[.int .u32 c] w fun e w' => e = .returned (.int .i64 (rowC c)) ∧ w' = w := by
  have hiff := rowC_iff c
  have HI : Hid ((rowC c = 0 ↔ c < 160) ∧ (rowC c = 1 ↔ 160 ≤ c ∧ c < 1024) ∧ (rowC c = 2 ↔ 1024 ≤ c ∧ c < 16384) ∧ (rowC c = 3 ↔ 16384 ≤ c ∧ c < 262144) ∧ (rowC c = 4 ↔ 262144 ≤ c)) := hiff
  have HL : Hid (rowC c ≤ 4) := rowC_le c
  clear hiff
  go_enter Tryd.func91, Tryd.ntmps91
  go_wp2
  go_loopw [3] (fun i wr => ∃ k : Nat, i = .int .i64 k ∧ k ≤ 4 ∧ rowC c ≤ k ∧ wr = w) (fun i _ => (intOf i).toNat)
  case atStart => exact ⟨4, rfl, by omega, HL.out, rfl⟩
  case round =>
    obtain ⟨k, rfl, hk, hr, rfl⟩ := hrel
    have hcs : k = 0 ∨ k = 1 ∨ k = 2 ∨ k = 3 ∨ k = 4 := by omega
    rcases hcs with rfl | rfl | rfl | rfl | rfl
    · have ht := hT.a0
      have hlt : ¬ c < 0 := by omega
      go_wp2
      go_ret
      exact ⟨by rw [show rowC c = 0 by omega]; rfl, rfl⟩
    · have ht := hT.a1
      by_cases hlt : c < 160
      · go_wp2
        go_roundw
        case rel => exact ⟨0, by go_num, by omega, by have := HI.out; omega, by simp⟩
        case measure => simp [intOf]
      · go_wp2
        go_ret
        exact ⟨by rw [show rowC c = 1 by have := HI.out; omega]; rfl, rfl⟩
    · have ht := hT.a2
      by_cases hlt : c < 1024
      · go_wp2
        go_roundw
        case rel => exact ⟨1, by go_num, by omega, by have := HI.out; omega, by simp⟩
        case measure => simp [intOf]
      · go_wp2
        go_ret
        exact ⟨by rw [show rowC c = 2 by have := HI.out; omega]; rfl, rfl⟩
    · have ht := hT.a3
      by_cases hlt : c < 16384
      · go_wp2
        go_roundw
        case rel => exact ⟨2, by go_num, by omega, by have := HI.out; omega, by simp⟩
        case measure => simp [intOf]
      · go_wp2
        go_ret
        exact ⟨by rw [show rowC c = 3 by have := HI.out; omega]; rfl, rfl⟩
    · have ht := hT.a4
      by_cases hlt : c < 262144
      · go_wp2
        go_roundw
        case rel => exact ⟨3, by go_num, by omega, by have := HI.out; omega, by simp⟩
        case measure => simp [intOf]
      · go_wp2
        go_ret
        exact ⟨by rw [show rowC c = 4 by have := HI.out; omega]; rfl, rfl⟩
set_option maxHeartbeats 1000000 in
theorem rowLed_any (c : Int) (w : World) (h0 : 0 ≤ c) (hT : Tabs w) :
    Calls Tryd.prog 92 #[.int .u8 c] w fun e w' => e = .returned (.int .i64 (rowB c)) ∧ w' = w := by
  have hiff := rowB_iff c
  have HI : Hid ((rowB c = 0 ↔ c < 192) ∧ (rowB c = 1 ↔ 192 ≤ c ∧ c < 224) ∧ (rowB c = 2 ↔ 224 ≤ c ∧ c < 240) ∧ (rowB c = 3 ↔ 240 ≤ c ∧ c < 248) ∧ (rowB c = 4 ↔ 248 ≤ c)) := hiff
  have HL : Hid (rowB c ≤ 4) := rowB_le c
  clear hiff
  go_enter Tryd.func92, Tryd.ntmps92
  go_wp2
  go_loopw [3] (fun i wr => ∃ k : Nat, i = .int .i64 k ∧ k ≤ 4 ∧ rowB c ≤ k ∧ wr = w) (fun i _ => (intOf i).toNat)
  case atStart => exact ⟨4, rfl, by omega, HL.out, rfl⟩
  case round =>
    obtain ⟨k, rfl, hk, hr, rfl⟩ := hrel
    have hcs : k = 0 ∨ k = 1 ∨ k = 2 ∨ k = 3 ∨ k = 4 := by omega
    rcases hcs with rfl | rfl | rfl | rfl | rfl
    · have ht := hT.b0
      have hlt : ¬ c < 0 := by omega
      go_wp2
      go_ret
      exact ⟨by rw [show rowB c = 0 by omega]; rfl, rfl⟩
    · have ht := hT.b1
      by_cases hlt : c < 192
      · go_wp2
        go_roundw
        case rel => exact ⟨0, by go_num, by omega, by have := HI.out; omega, by simp⟩
        case measure => simp [intOf]
      · go_wp2
        go_ret
        exact ⟨by rw [show rowB c = 1 by have := HI.out; omega]; rfl, rfl⟩
    · have ht := hT.b2
      by_cases hlt : c < 224
      · go_wp2
        go_roundw
        case rel => exact ⟨1, by go_num, by omega, by have := HI.out; omega, by simp⟩
        case measure => simp [intOf]
      · go_wp2
        go_ret
        exact ⟨by rw [show rowB c = 2 by have := HI.out; omega]; rfl, rfl⟩
    · have ht := hT.b3
      by_cases hlt : c < 240
      · go_wp2
        go_roundw
        case rel => exact ⟨2, by go_num, by omega, by have := HI.out; omega, by simp⟩
        case measure => simp [intOf]
      · go_wp2
        go_ret
        exact ⟨by rw [show rowB c = 3 by have := HI.out; omega]; rfl, rfl⟩
    · have ht := hT.b4
      by_cases hlt : c < 248
      · go_wp2
        go_roundw
        case rel => exact ⟨3, by go_num, by omega, by have := HI.out; omega, by simp⟩
        case measure => simp [intOf]
      · go_wp2
        go_ret
        exact ⟨by rw [show rowB c = 4 by have := HI.out; omega]; rfl, rfl⟩
theorem ret_part {a b : Int} {n m k l : Int} (h : a = b) (h1 : n = m) (h2 : k = l) : Ending.returned (.agg #[.int .u32 a, .int .i64 n, .int .i64 k]) = .returned (.agg #[.int .u32 b, .int .i64 m, .int .i64 l]) := by rw [h, h1, h2]
set_option maxHeartbeats 1000000 in
theorem first_any (x : Int) (w : World) (hx : 0 ≤ x ∧ x < 256) (hT : Tabs w) :
    Calls Tryd.prog 81 #[.int .u8 x] w fun e w' => e = .returned (.agg #[.int .u32 (bitsN [x]), .int .i64 (rowN [x]), .int .i64 (lackN [x])]) ∧ Below w.heap.size w w' := by
  have HI : Hid (0 ≤ x ∧ x < 256) := hx
  have hT1 : Tabs (w.alloc (.cells #[.int .u32 0, .int .i64 0, .int .i64 0] 45)) := hT.below ((Below.refl _ _).alloc (Nat.le_refl _) _)
  have HB : Hid (Below w.heap.size w (w.alloc (.cells #[.int .u32 0, .int .i64 0, .int .i64 0] 45))) := (Below.refl _ _).alloc (Nat.le_refl _) _
  have hr := rowB_iff x
  have hle := rowB_le x
  have hcs : rowB x = 0 ∨ rowB x = 1 ∨ rowB x = 2 ∨ rowB x = 3 ∨ rowB x = 4 := by omega
  go_enter Tryd.func81, Tryd.ntmps81
  go_wp2_with fail
  refine (rowLed_any x _ HI.out.1 hT1).mono ?_
  rintro e w2 ⟨rfl, rfl⟩
  rcases hcs with h | h | h | h | h
  · rw [h]
    have ht := hT1.b0
    have hw : IntKind.u8.wrap (x - 0) = x - 0 := by rw [IntKind.wrap_u8]; have := HI.out; omega
    go_wp2
    exact bodyPost_ret (v := .agg #[.int .u32 (x), .int .i64 0, .int .i64 0]) (by simp [results, Tryd.results81, go_sem]) rfl ⟨ret_part (by rw [bits_as h]; simp only [goN, leadN]; simp) (by simp [rowN, h]) (by simp [lackN, h]), (Below.refl _ _).alloc (Nat.le_refl _) _⟩
  · rw [h]
    have ht := hT1.b1
    have hw : IntKind.u8.wrap (x - 192) = x - 192 := by rw [IntKind.wrap_u8]; have := HI.out; omega
    go_wp2
    exact bodyPost_ret (v := .agg #[.int .u32 (x - 192), .int .i64 1, .int .i64 1]) (by simp [results, Tryd.results81, go_sem]) rfl ⟨ret_part (by rw [bits_as h]; simp only [goN, leadN]; simp) (by simp [rowN, h]) (by simp [lackN, h]), (Below.refl _ _).alloc (Nat.le_refl _) _⟩
  · rw [h]
    have ht := hT1.b2
    have hw : IntKind.u8.wrap (x - 224) = x - 224 := by rw [IntKind.wrap_u8]; have := HI.out; omega
    go_wp2
    exact bodyPost_ret (v := .agg #[.int .u32 (x - 224), .int .i64 2, .int .i64 2]) (by simp [results, Tryd.results81, go_sem]) rfl ⟨ret_part (by rw [bits_as h]; simp only [goN, leadN]; simp) (by simp [rowN, h]) (by simp [lackN, h]), (Below.refl _ _).alloc (Nat.le_refl _) _⟩
  · rw [h]
    have ht := hT1.b3
    have hw : IntKind.u8.wrap (x - 240) = x - 240 := by rw [IntKind.wrap_u8]; have := HI.out; omega
    go_wp2
    exact bodyPost_ret (v := .agg #[.int .u32 (x - 240), .int .i64 3, .int .i64 3]) (by simp [results, Tryd.results81, go_sem]) rfl ⟨ret_part (by rw [bits_as h]; simp only [goN, leadN]; simp) (by simp [rowN, h]) (by simp [lackN, h]), (Below.refl _ _).alloc (Nat.le_refl _) _⟩
  · rw [h]
    have ht := hT1.b4
    have hw : IntKind.u8.wrap (x - 248) = x - 248 := by rw [IntKind.wrap_u8]; have := HI.out; omega
    go_wp2
    exact bodyPost_ret (v := .agg #[.int .u32 (x - 248), .int .i64 4, .int .i64 4]) (by simp [results, Tryd.results81, go_sem]) rfl ⟨ret_part (by rw [bits_as h]; simp only [goN, leadN]; simp) (by simp [rowN, h]) (by simp [lackN, h]), (Below.refl _ _).alloc (Nat.le_refl _) _⟩
theorem or_join (i : Nat) (x y : Int) (hi : i ≤ 32) (hx0 : 0 ≤ x) (hx : x % 2 ^ i = 0) (hx1 : x < 4294967296) (hy0 : 0 ≤ y) (hy : y < 2 ^ i) (hy1 : y < 4294967296) : bits .or .u32 x y = x + y :=
  bits_join .u32 32 (by decide) (fun n h0 h1 => by rw [IntKind.wrap_u32]; omega) i x y hx0 hx hx1 hy0 hy hy1
theorem and5_b : ∀ i : Fin 256, bits .and .u8 ((i.val : Nat) : Int) 31 = ((i.val : Nat) : Int) % 32 := by decide +kernel
theorem not5_b : ∀ i : Fin 256, bits .andNot .u8 ((i.val : Nat) : Int) 31 = ((i.val : Nat) : Int) / 32 * 32 := by decide +kernel
theorem and5 {x : Int} (h : 0 ≤ x ∧ x < 256) : bits .and .u8 x 31 = x % 32 := by
  obtain ⟨m, rfl⟩ := Int.eq_ofNat_of_zero_le h.1
  exact and5_b ⟨m, by omega⟩
theorem not5 {x : Int} (h : 0 ≤ x ∧ x < 256) : bits .andNot .u8 x 31 = x / 32 * 32 := by
  obtain ⟨m, rfl⟩ := Int.eq_ofNat_of_zero_le h.1
  exact not5_b ⟨m, by omega⟩
set_option maxHeartbeats 1000000 in
theorem with_any (m x : Int) (n k : Nat) (w : World) (hx : 160 ≤ x ∧ x ≤ 191) (hm : 0 ≤ m ∧ m < 16777216) (hk : 1 ≤ k ∧ k ≤ 4) :
    Calls Tryd.prog 82 #[.agg #[.int .u32 m, .int .i64 n, .int .i64 k], .int .u8 x] w fun e w' => e = .returned (.agg #[.int .u32 (m * 32 + (x - 160)), .int .i64 n, .int .i64 ((k - 1 : Nat) : Int)]) ∧ Below w.heap.size w w' := by
  have e1 : bits .and .u8 x 31 = x - 160 := by rw [and5 (by omega)]; omega
  have e2 : bits .or .u32 (m * 32) (x - 160) = m * 32 + (x - 160) := or_join 5 _ _ (by decide) (by omega) (by omega) (by omega) (by omega) (by omega) (by omega)
  have HE : Hid (bits .or .u32 (m * 32) (x - 160) = m * 32 + (x - 160)) := e2
  have HK : Hid (IntKind.i64.wrap ((k : Int) - 1) = ((k - 1 : Nat) : Int)) := by show _ = _; rw [wrap_i64s _ (by omega) (by omega)]; omega
  clear e2
  go_enter Tryd.func82, Tryd.ntmps82
  go_wp2
  exact bodyPost_ret (v := .agg #[.int .u32 (bits .or .u32 (m * 32) (x - 160)), .int .i64 n, .int .i64 ((k : Int) - 1)]) (by simp [results, Tryd.results82, go_sem]) rfl ⟨ret_part HE.out rfl (by omega), ((Below.refl _ _).alloc (Nat.le_refl _) _).alloc (by simp) _⟩
theorem p32_pow {k : Nat} (h : k ≤ 4) : (2 : Int) ^ (5 * k) = p32 k ∧ 1 ≤ p32 k ∧ p32 k ≤ 1048576 := by
  have : k = 0 ∨ k = 1 ∨ k = 2 ∨ k = 3 ∨ k = 4 := by omega
  rcases this with rfl | rfl | rfl | rfl | rfl <;> decide
theorem beq_nat (a b : Nat) : ((a : Int) == (b : Int)) = decide (a = b) := by
  by_cases h : a = b
  · subst h; simp
  · rw [decide_eq_false h, beq_eq_false_iff_ne]; omega
theorem sIs_as (c : Int) (t : Bool) (w : World) (h : isB c = t) : Calls Tryd.prog 72 #[.int .u32 c] w fun e w' => e = .returned (.bool t) ∧ w' = w := by
  rw [← h]; exact sIs_any c w
set_option maxHeartbeats 1000000 in
theorem open_any (m : Int) (n k : Nat) (w : World) (hT : Tabs w) (hm : 0 ≤ m ∧ m * p32 k < 16777216) (hk : k ≤ 4) (hn : n ≤ 4) :
    Calls Tryd.prog 83 #[.agg #[.int .u32 m, .int .i64 n, .int .i64 k]] w fun e w' => e = .returned (.bool (openP m n k)) ∧ Below w.heap.size w w' := by
  obtain ⟨hp, hp1, hp2⟩ := p32_pow hk
  obtain ⟨L, hL⟩ : ∃ L, m * p32 k = L := ⟨_, rfl⟩
  have hL0 : 0 ≤ L := by rw [← hL]; exact Int.mul_nonneg hm.1 (by omega)
  have hl1 : m * 2 ^ (5 * k) % 4294967296 = L := by rw [hp, hL]; omega
  have hg1 : bits .or .u32 L ((2 ^ (5 * k) - 1) % 4294967296) = L + (p32 k - 1) := by
    rw [hp, Int.emod_eq_of_lt (by omega) (by omega)]
    refine or_join (5 * k) _ _ (by omega) hL0 ?_ (by omega) (by omega) (by rw [hp]; omega) (by omega)
    rw [hp, ← hL]; exact Int.mul_emod_left m _
  obtain ⟨G, hG⟩ : ∃ G, L + (p32 k - 1) = G := ⟨_, rfl⟩
  rw [hG] at hg1
  have hG0 : 0 ≤ G := by omega
  have HO : Hid (openP m n k = (isB L && decide (rowC G = n))) := by show _ = _; unfold openP; rw [hL, hG]
  have HL : Hid (m * 2 ^ (5 * k) % 4294967296 = L) := hl1
  have HG : Hid (bits .or .u32 L ((2 ^ (5 * k) - 1) % 4294967296) = G ∧ 0 ≤ G) := ⟨hg1, hG0⟩
  have HB : Hid (Below w.heap.size w (w.alloc (.cells #[.int .u32 m, .int .i64 n, .int .i64 k] 45))) := ((Below.refl _ _).alloc (Nat.le_refl _) _)
  have hT1 : Tabs (w.alloc (.cells #[.int .u32 m, .int .i64 n, .int .i64 k] 45)) := hT.below HB.out
  clear hl1 hg1 hG hL hL0 hG0 hp hp1 hp2 hm
  obtain ⟨t, ht⟩ : ∃ t, isB L = t := ⟨_, rfl⟩
  have HT : Hid (isB L = t) := ht
  rw [ht] at HO
  clear ht
  cases t with
  | false =>
    go_enter Tryd.func83, Tryd.ntmps83
    go_upto_region 3 with fail
    rw [HL.out, HG.out.1]
    go_quiet (first
      | (go_at_call 72; refine Calls.quiet_of_same (sIs_as L false _ HT.out))
      | (go_at_call 91; refine Calls.quiet_of_same (rowOf_any G _ HG.out.2 (hT1.below (below_dn _ _)))))
    go_wp2
    go_ret
    exact ⟨ret_bool (by rw [HO.out]; rfl), below_two HB.out (below_dn _ _)⟩
  | true =>
    go_enter Tryd.func83, Tryd.ntmps83
    go_upto_region 3 with fail
    rw [HL.out, HG.out.1]
    go_quiet (first
      | (go_at_call 72; refine Calls.quiet_of_same (sIs_as L true _ HT.out))
      | (go_at_call 91; refine Calls.quiet_of_same (rowOf_any G _ HG.out.2 (hT1.below (below_dn _ _)))))
    go_wp2
    go_ret
    exact ⟨ret_bool (by rw [HO.out, Bool.true_and]; exact beq_nat _ _), below_two HB.out (below_dn _ _)⟩
end M8
end Go.Proofs.YtjbgcclbomimiaaDoor
