/-
  Contracts of diff's Trail and rowWith, which go through a table by value, as walks over the translated text. The condition: the tables are as the program's text lays them.
-/
import Derived.Test.YtlifobdooophbaaDoorDif1
namespace Go.Proofs.YtlifobdooophbaaDoor
open Go.ChangeShapes Go.WideShapes Go.ChangeAt Go.RowKit
namespace Dif
open Bas Txt
set_option linter.unusedVariables false

/-- An element of a table by value. -/
theorem run_at0 (w : World) : (Instr.index 133 (.agg #[.int .u8 1, .int .u8 6, .int .i64 0, .int .u8 16, .int .u8 25, .int .i64 6, .int .u8 28, .int .u8 31, .int .i64 16, .int .u8 33, .int .u8 255, .int .i64 20]) (.int .i64 0)).run Tryd.prog w = .ok (.agg #[.int .u8 1, .int .u8 6, .int .i64 0]) w := by kernel_rfl
theorem run_at1 (w : World) : (Instr.index 133 (.agg #[.int .u8 1, .int .u8 6, .int .i64 0, .int .u8 16, .int .u8 25, .int .i64 6, .int .u8 28, .int .u8 31, .int .i64 16, .int .u8 33, .int .u8 255, .int .i64 20]) (.int .i64 1)).run Tryd.prog w = .ok (.agg #[.int .u8 16, .int .u8 25, .int .i64 6]) w := by kernel_rfl
theorem run_at2 (w : World) : (Instr.index 133 (.agg #[.int .u8 1, .int .u8 6, .int .i64 0, .int .u8 16, .int .u8 25, .int .i64 6, .int .u8 28, .int .u8 31, .int .i64 16, .int .u8 33, .int .u8 255, .int .i64 20]) (.int .i64 2)).run Tryd.prog w = .ok (.agg #[.int .u8 28, .int .u8 31, .int .i64 16]) w := by kernel_rfl
theorem run_at3 (w : World) : (Instr.index 133 (.agg #[.int .u8 1, .int .u8 6, .int .i64 0, .int .u8 16, .int .u8 25, .int .i64 6, .int .u8 28, .int .u8 31, .int .i64 16, .int .u8 33, .int .u8 255, .int .i64 20]) (.int .i64 3)).run Tryd.prog w = .ok (.agg #[.int .u8 33, .int .u8 255, .int .i64 20]) w := by kernel_rfl
theorem lead_at0 (w : World) : (Instr.index 125 (.agg #[.int .u8 33, .int .u8 33, .int .i64 3, .int .i64 (-14536567), .int .u8 34, .int .u8 36, .int .i64 2, .int .i64 (-187660), .int .u8 37, .int .u8 79, .int .i64 1, .int .i64 (-10513), .int .u8 80, .int .u8 207, .int .i64 0, .int .i64 (-64), .int .u8 208, .int .u8 250, .int .i64 1, .int .i64 64, .int .u8 251, .int .u8 253, .int .i64 2, .int .i64 10513, .int .u8 254, .int .u8 254, .int .i64 3, .int .i64 187660]) (.int .i64 0)).run Tryd.prog w = .ok (.agg #[.int .u8 33, .int .u8 33, .int .i64 3, .int .i64 (-14536567)]) w := by kernel_rfl
theorem lead_at1 (w : World) : (Instr.index 125 (.agg #[.int .u8 33, .int .u8 33, .int .i64 3, .int .i64 (-14536567), .int .u8 34, .int .u8 36, .int .i64 2, .int .i64 (-187660), .int .u8 37, .int .u8 79, .int .i64 1, .int .i64 (-10513), .int .u8 80, .int .u8 207, .int .i64 0, .int .i64 (-64), .int .u8 208, .int .u8 250, .int .i64 1, .int .i64 64, .int .u8 251, .int .u8 253, .int .i64 2, .int .i64 10513, .int .u8 254, .int .u8 254, .int .i64 3, .int .i64 187660]) (.int .i64 1)).run Tryd.prog w = .ok (.agg #[.int .u8 34, .int .u8 36, .int .i64 2, .int .i64 (-187660)]) w := by kernel_rfl
theorem lead_at2 (w : World) : (Instr.index 125 (.agg #[.int .u8 33, .int .u8 33, .int .i64 3, .int .i64 (-14536567), .int .u8 34, .int .u8 36, .int .i64 2, .int .i64 (-187660), .int .u8 37, .int .u8 79, .int .i64 1, .int .i64 (-10513), .int .u8 80, .int .u8 207, .int .i64 0, .int .i64 (-64), .int .u8 208, .int .u8 250, .int .i64 1, .int .i64 64, .int .u8 251, .int .u8 253, .int .i64 2, .int .i64 10513, .int .u8 254, .int .u8 254, .int .i64 3, .int .i64 187660]) (.int .i64 2)).run Tryd.prog w = .ok (.agg #[.int .u8 37, .int .u8 79, .int .i64 1, .int .i64 (-10513)]) w := by kernel_rfl
theorem lead_at3 (w : World) : (Instr.index 125 (.agg #[.int .u8 33, .int .u8 33, .int .i64 3, .int .i64 (-14536567), .int .u8 34, .int .u8 36, .int .i64 2, .int .i64 (-187660), .int .u8 37, .int .u8 79, .int .i64 1, .int .i64 (-10513), .int .u8 80, .int .u8 207, .int .i64 0, .int .i64 (-64), .int .u8 208, .int .u8 250, .int .i64 1, .int .i64 64, .int .u8 251, .int .u8 253, .int .i64 2, .int .i64 10513, .int .u8 254, .int .u8 254, .int .i64 3, .int .i64 187660]) (.int .i64 3)).run Tryd.prog w = .ok (.agg #[.int .u8 80, .int .u8 207, .int .i64 0, .int .i64 (-64)]) w := by kernel_rfl
theorem lead_at4 (w : World) : (Instr.index 125 (.agg #[.int .u8 33, .int .u8 33, .int .i64 3, .int .i64 (-14536567), .int .u8 34, .int .u8 36, .int .i64 2, .int .i64 (-187660), .int .u8 37, .int .u8 79, .int .i64 1, .int .i64 (-10513), .int .u8 80, .int .u8 207, .int .i64 0, .int .i64 (-64), .int .u8 208, .int .u8 250, .int .i64 1, .int .i64 64, .int .u8 251, .int .u8 253, .int .i64 2, .int .i64 10513, .int .u8 254, .int .u8 254, .int .i64 3, .int .i64 187660]) (.int .i64 4)).run Tryd.prog w = .ok (.agg #[.int .u8 208, .int .u8 250, .int .i64 1, .int .i64 64]) w := by kernel_rfl
theorem lead_at5 (w : World) : (Instr.index 125 (.agg #[.int .u8 33, .int .u8 33, .int .i64 3, .int .i64 (-14536567), .int .u8 34, .int .u8 36, .int .i64 2, .int .i64 (-187660), .int .u8 37, .int .u8 79, .int .i64 1, .int .i64 (-10513), .int .u8 80, .int .u8 207, .int .i64 0, .int .i64 (-64), .int .u8 208, .int .u8 250, .int .i64 1, .int .i64 64, .int .u8 251, .int .u8 253, .int .i64 2, .int .i64 10513, .int .u8 254, .int .u8 254, .int .i64 3, .int .i64 187660]) (.int .i64 5)).run Tryd.prog w = .ok (.agg #[.int .u8 251, .int .u8 253, .int .i64 2, .int .i64 10513]) w := by kernel_rfl
theorem lead_at6 (w : World) : (Instr.index 125 (.agg #[.int .u8 33, .int .u8 33, .int .i64 3, .int .i64 (-14536567), .int .u8 34, .int .u8 36, .int .i64 2, .int .i64 (-187660), .int .u8 37, .int .u8 79, .int .i64 1, .int .i64 (-10513), .int .u8 80, .int .u8 207, .int .i64 0, .int .i64 (-64), .int .u8 208, .int .u8 250, .int .i64 1, .int .i64 64, .int .u8 251, .int .u8 253, .int .i64 2, .int .i64 10513, .int .u8 254, .int .u8 254, .int .i64 3, .int .i64 187660]) (.int .i64 6)).run Tryd.prog w = .ok (.agg #[.int .u8 254, .int .u8 254, .int .i64 3, .int .i64 187660]) w := by kernel_rfl
/-- A table by value: what is at its places. -/
def RunA (A : Array Value) : Prop := ∀ j : Nat, j < 4 → ∀ w, (Instr.index 133 (.agg A) (.int .i64 (j : Int))).run Tryd.prog w = .ok (.agg #[.int .u8 (rfI j), .int .u8 (rtI j), .int .i64 (rwI j)]) w
def LeadA (A : Array Value) : Prop := ∀ j : Nat, j < 7 → ∀ w, (Instr.index 125 (.agg A) (.int .i64 (j : Int))).run Tryd.prog w = .ok (.agg #[.int .u8 (fromI j), .int .u8 (toI j), .int .i64 (trN j), .int .i64 (leastI j)]) w
theorem runA : RunA #[.int .u8 1, .int .u8 6, .int .i64 0, .int .u8 16, .int .u8 25, .int .i64 6, .int .u8 28, .int .u8 31, .int .i64 16, .int .u8 33, .int .u8 255, .int .i64 20] := by
  intro j hj
  have hcs : j = 0 ∨ j = 1 ∨ j = 2 ∨ j = 3 := by omega
  rcases hcs with rfl | rfl | rfl | rfl
  · exact run_at0
  · exact run_at1
  · exact run_at2
  · exact run_at3
theorem leadA : LeadA #[.int .u8 33, .int .u8 33, .int .i64 3, .int .i64 (-14536567), .int .u8 34, .int .u8 36, .int .i64 2, .int .i64 (-187660), .int .u8 37, .int .u8 79, .int .i64 1, .int .i64 (-10513), .int .u8 80, .int .u8 207, .int .i64 0, .int .i64 (-64), .int .u8 208, .int .u8 250, .int .i64 1, .int .i64 64, .int .u8 251, .int .u8 253, .int .i64 2, .int .i64 10513, .int .u8 254, .int .u8 254, .int .i64 3, .int .i64 187660] := by
  intro j hj
  have hcs : j = 0 ∨ j = 1 ∨ j = 2 ∨ j = 3 ∨ j = 4 ∨ j = 5 ∨ j = 6 := by omega
  rcases hcs with rfl | rfl | rfl | rfl | rfl | rfl | rfl
  · exact lead_at0
  · exact lead_at1
  · exact lead_at2
  · exact lead_at3
  · exact lead_at4
  · exact lead_at5
  · exact lead_at6
/-- What is told of a byte. -/
def worV (b : Int) : Int := if wor b < 0 then 0 else wor b
def worB (b : Int) : Bool := decide (0 ≤ wor b)
/-- Is the byte in the run? -/
def inRun (i : Nat) (b : Int) : Prop := rfI i ≤ b ∧ b ≤ rtI i
theorem run_hit {i : Nat} {b : Int} (hi : i < 4) (h : inRun i b) : worV b = rwI i + (b - rfI i) ∧ worB b = true := by
  have hcs : i = 0 ∨ i = 1 ∨ i = 2 ∨ i = 3 := by omega
  unfold inRun at h
  have h2 : wor b = rwI i + (b - rfI i) ∧ 0 ≤ wor b := by
    rcases hcs with rfl | rfl | rfl | rfl <;> simp [rfI, rtI] at h <;> simp only [rfI, rwI] <;> simp <;> unfold wor <;> repeat' split
    all_goals omega
  unfold worV worB
  rw [if_neg (by omega)]
  exact ⟨h2.1, by simp [h2.2]⟩
theorem run_miss {b : Int} (h : ∀ i, i < 4 → ¬ inRun i b) : worV b = 0 ∧ worB b = false := by
  have h0 := h 0 (by decide); have h1 := h 1 (by decide); have h2 := h 2 (by decide); have h3 := h 3 (by decide)
  simp [inRun, rfI, rtI] at h0 h1 h2 h3
  have : wor b = -1 := by
    unfold wor; repeat' split
    all_goals omega
  unfold worV worB
  rw [this]; exact ⟨rfl, rfl⟩
theorem ret_two {a b : Int} {s t : Bool} (h : a = b) (g : s = t) : Ending.returned (.tuple #[.int .i64 a, .bool s]) = .returned (.tuple #[.int .i64 b, .bool t]) := by rw [h, g]
set_option maxHeartbeats 4000000 in
theorem trail_any (b : Int) (w : World) (hT : Tabs w) (hb0 : 0 ≤ b) (hb1 : b < 256) :
    Calls Tryd.prog 76 #[.int .u8 b] w fun e w' => e = .returned (.tuple #[.int .i64 (worV b), .bool (worB b)]) ∧ Below w.heap.size w w' := by
  have HM : Hid ((∀ i, i < 4 → ¬ inRun i b) → worV b = 0 ∧ worB b = false) := run_miss
  have HH : Hid (∀ i, i < 4 → inRun i b → worV b = rwI i + (b - rfI i) ∧ worB b = true) := fun i => run_hit
  obtain ⟨x, hx⟩ : ∃ x, worV b = x := ⟨_, rfl⟩
  obtain ⟨y, hy⟩ : ∃ y, worB b = y := ⟨_, rfl⟩
  rw [hx, hy] at HM HH ⊢
  clear hx hy
  have c0 : w.cell? ⟨1, 0, none⟩ = some (.int .u8 1) := hT.e 0 (by decide)
  have c1 : w.cell? ⟨1, 1, none⟩ = some (.int .u8 6) := hT.f 0 (by decide)
  have c2 : w.cell? ⟨1, 2, none⟩ = some (.int .i64 0) := hT.g 0 (by decide)
  have c3 : w.cell? ⟨1, 3, none⟩ = some (.int .u8 16) := hT.e 1 (by decide)
  have c4 : w.cell? ⟨1, 4, none⟩ = some (.int .u8 25) := hT.f 1 (by decide)
  have c5 : w.cell? ⟨1, 5, none⟩ = some (.int .i64 6) := hT.g 1 (by decide)
  have c6 : w.cell? ⟨1, 6, none⟩ = some (.int .u8 28) := hT.e 2 (by decide)
  have c7 : w.cell? ⟨1, 7, none⟩ = some (.int .u8 31) := hT.f 2 (by decide)
  have c8 : w.cell? ⟨1, 8, none⟩ = some (.int .i64 16) := hT.g 2 (by decide)
  have c9 : w.cell? ⟨1, 9, none⟩ = some (.int .u8 33) := hT.e 3 (by decide)
  have c10 : w.cell? ⟨1, 10, none⟩ = some (.int .u8 255) := hT.f 3 (by decide)
  have c11 : w.cell? ⟨1, 11, none⟩ = some (.int .i64 20) := hT.g 3 (by decide)
  go_enter Tryd.func76, Tryd.ntmps76
  go_wp2
  have hRA := runA
  generalize (#[.int .u8 1, .int .u8 6, .int .i64 0, .int .u8 16, .int .u8 25, .int .i64 6, .int .u8 28, .int .u8 31, .int .i64 16, .int .u8 33, .int .u8 255, .int .i64 20] : Array Value) = A at hRA ⊢
  have HR : Hid (RunA A) := hRA
  clear hRA
  go_loopw [7] (fun i wr => ∃ (j : Nat), i = .int .i64 j ∧ j ≤ 4 ∧ (∀ i, i < j → ¬ inRun i b) ∧ Below w.heap.size w wr) (fun i _ => 4 - (intOf i).toNat)
  case atStart => exact ⟨0, rfl, Nat.zero_le _, fun i hi => by omega, Below.refl _ _⟩
  case round =>
    clear c0 c1 c2 c3 c4 c5 c6 c7 c8 c9 c10 c11 hT
    obtain ⟨j, rfl, hj, hA, hB⟩ := hrel
    have HA : Hid (∀ i, i < j → ¬ inRun i b) := hA
    have HB : Hid (Below w.heap.size w wr) := hB
    clear hA hB
    by_cases hj4 : j < 4
    · have hx0 := HR.out j hj4 wr
      have i4 : (j : Int) < 4 := by omega
      have HNX : Hid (¬ inRun j b → ∀ i, i < j + 1 → ¬ inRun i b) := fun hn i hi => by
        by_cases e : i = j
        · rw [e]; exact hn
        · exact HA.out i (by omega)
      have HHX : Hid (inRun j b → x = rwI j + (b - rfI j) ∧ y = true) := HH.out j hj4
      have hrg := rf_rng hj4
      unfold inRun at HHX
      have HIN : Hid (inRun j b ↔ rfI j ≤ b ∧ b ≤ rtI j) := Iff.rfl
      obtain ⟨F, hF⟩ : ∃ F, rfI j = F := ⟨_, rfl⟩
      obtain ⟨G, hG⟩ : ∃ G, rtI j = G := ⟨_, rfl⟩
      obtain ⟨W, hW⟩ : ∃ W, rwI j = W := ⟨_, rfl⟩
      rw [hF, hG, hW] at hx0
      rw [hF, hG, hW] at hrg
      rw [hF, hG, hW] at HHX
      rw [hF, hG] at HIN
      clear HH HM hF hG hW
      by_cases h1 : F ≤ b
      · by_cases h2 : b ≤ G
        · have HE : Hid (x = W + (b - F) ∧ y = true) := HHX.out ⟨h1, h2⟩
          clear HHX
          go_wp2
          go_ret2
          exact ⟨ret_two (by have := HE.out.1; omega) HE.out.2.symm, below_two HB.out ((Below.refl _ _).alloc (Nat.le_refl _) _)⟩
        · have HN : Hid (¬ inRun j b) := fun h => h2 (HIN.out.1 h).2
          clear HHX
          go_wp2
          go_roundw
          case rel => exact ⟨j + 1, by go_num, by omega, HNX.out HN.out, below_two HB.out ((Below.refl _ _).alloc (Nat.le_refl _) _)⟩
          case measure => simp [intOf]; omega
      · have HN : Hid (¬ inRun j b) := fun h => h1 (HIN.out.1 h).1
        clear HHX
        go_wp2
        go_roundw
        case rel => exact ⟨j + 1, by go_num, by omega, HNX.out HN.out, below_two HB.out ((Below.refl _ _).alloc (Nat.le_refl _) _)⟩
        case measure => simp [intOf]; omega
    · have hj4' : j = 4 := by omega
      subst hj4'
      have HE : Hid (x = 0 ∧ y = false) := HM.out HA.out
      go_wp2
      go_ret2
      exact ⟨ret_two HE.out.1.symm HE.out.2.symm, HB.out⟩
/-- Is the byte in the row? -/
def inLead (i : Nat) (b : Int) : Prop := fromI i ≤ b ∧ b ≤ toI i
theorem lead_hit {i : Nat} {b : Int} (hi : i < 7) (h : inLead i b) : rowW b = (i : Int) := by
  have hcs : i = 0 ∨ i = 1 ∨ i = 2 ∨ i = 3 ∨ i = 4 ∨ i = 5 ∨ i = 6 := by omega
  unfold inLead at h
  rcases hcs with rfl | rfl | rfl | rfl | rfl | rfl | rfl <;> simp [fromI, toI] at h <;> unfold rowW <;> repeat' split
  all_goals omega
theorem lead_miss {b : Int} (h : ∀ i, i < 7 → ¬ inLead i b) : rowW b = -1 := by
  have h0 := h 0 (by decide); have h1 := h 1 (by decide); have h2 := h 2 (by decide); have h3 := h 3 (by decide); have h4 := h 4 (by decide); have h5 := h 5 (by decide); have h6 := h 6 (by decide)
  simp [inLead, fromI, toI] at h0 h1 h2 h3 h4 h5 h6
  unfold rowW; repeat' split
  all_goals omega
theorem lead_range {w : World} (hT : Tabs w) : ∃ cs : List Value, w.rangeAt 0 0 cs ∧ cs.length = 28 ∧ LeadA cs.toArray := by
  refine ⟨[.int .u8 33, .int .u8 33, .int .i64 3, .int .i64 (-14536567), .int .u8 34, .int .u8 36, .int .i64 2, .int .i64 (-187660), .int .u8 37, .int .u8 79, .int .i64 1, .int .i64 (-10513), .int .u8 80, .int .u8 207, .int .i64 0, .int .i64 (-64), .int .u8 208, .int .u8 250, .int .i64 1, .int .i64 64, .int .u8 251, .int .u8 253, .int .i64 2, .int .i64 10513, .int .u8 254, .int .u8 254, .int .i64 3, .int .i64 187660], ?_, rfl, leadA⟩
  intro j v hv
  match j, hv with
  | 0, hv => obtain rfl := Option.some.inj hv; exact hT.a 0 (by decide)
  | 1, hv => obtain rfl := Option.some.inj hv; exact hT.b 0 (by decide)
  | 2, hv => obtain rfl := Option.some.inj hv; exact hT.c 0 (by decide)
  | 3, hv => obtain rfl := Option.some.inj hv; exact hT.d 0 (by decide)
  | 4, hv => obtain rfl := Option.some.inj hv; exact hT.a 1 (by decide)
  | 5, hv => obtain rfl := Option.some.inj hv; exact hT.b 1 (by decide)
  | 6, hv => obtain rfl := Option.some.inj hv; exact hT.c 1 (by decide)
  | 7, hv => obtain rfl := Option.some.inj hv; exact hT.d 1 (by decide)
  | 8, hv => obtain rfl := Option.some.inj hv; exact hT.a 2 (by decide)
  | 9, hv => obtain rfl := Option.some.inj hv; exact hT.b 2 (by decide)
  | 10, hv => obtain rfl := Option.some.inj hv; exact hT.c 2 (by decide)
  | 11, hv => obtain rfl := Option.some.inj hv; exact hT.d 2 (by decide)
  | 12, hv => obtain rfl := Option.some.inj hv; exact hT.a 3 (by decide)
  | 13, hv => obtain rfl := Option.some.inj hv; exact hT.b 3 (by decide)
  | 14, hv => obtain rfl := Option.some.inj hv; exact hT.c 3 (by decide)
  | 15, hv => obtain rfl := Option.some.inj hv; exact hT.d 3 (by decide)
  | 16, hv => obtain rfl := Option.some.inj hv; exact hT.a 4 (by decide)
  | 17, hv => obtain rfl := Option.some.inj hv; exact hT.b 4 (by decide)
  | 18, hv => obtain rfl := Option.some.inj hv; exact hT.c 4 (by decide)
  | 19, hv => obtain rfl := Option.some.inj hv; exact hT.d 4 (by decide)
  | 20, hv => obtain rfl := Option.some.inj hv; exact hT.a 5 (by decide)
  | 21, hv => obtain rfl := Option.some.inj hv; exact hT.b 5 (by decide)
  | 22, hv => obtain rfl := Option.some.inj hv; exact hT.c 5 (by decide)
  | 23, hv => obtain rfl := Option.some.inj hv; exact hT.d 5 (by decide)
  | 24, hv => obtain rfl := Option.some.inj hv; exact hT.a 6 (by decide)
  | 25, hv => obtain rfl := Option.some.inj hv; exact hT.b 6 (by decide)
  | 26, hv => obtain rfl := Option.some.inj hv; exact hT.c 6 (by decide)
  | 27, hv => obtain rfl := Option.some.inj hv; exact hT.d 6 (by decide)
  | j + 28, hv => simp at hv
theorem size7 : (Tryd.prog.info? 125).map (·.size) = some 28 := by kernel_rfl
set_option maxHeartbeats 8000000 in
set_option maxRecDepth 100000 in
theorem rowWith_any (b : Int) (w : World) (hT : Tabs w) (hb0 : 0 ≤ b) (hb1 : b < 256) :
    Calls Tryd.prog 75 #[.int .u8 b] w fun e w' => e = .returned (.int .i64 (rowW b)) ∧ Below w.heap.size w w' := by
  have HM : Hid ((∀ i, i < 7 → ¬ inLead i b) → rowW b = -1) := lead_miss
  have HH : Hid (∀ i, i < 7 → inLead i b → rowW b = (i : Int)) := fun i => lead_hit
  obtain ⟨x, hx⟩ : ∃ x, rowW b = x := ⟨_, rfl⟩
  rw [hx] at HM HH ⊢
  clear hx
  obtain ⟨cs, hrg0, hcl, hRA⟩ := lead_range hT
  have HG : Hid (w.rangeAt 0 0 cs ∧ (Tryd.prog.info? 125).map (·.size) = some cs.length) := ⟨hrg0, by rw [hcl]; exact size7⟩
  have HR : Hid (LeadA cs.toArray) := hRA
  clear hrg0 hcl hRA hT
  go_enter Tryd.func75, Tryd.ntmps75
  go_upto_region 1 with fail
  go_wp2_with (refine wpList_load_mid rfl _ _ rfl 0 0 rfl cs _ HG.out.1 Tryd.underlying125 rfl HG.out.2 ?_)
  generalize cs.toArray = A at HR ⊢
  clear HG
  go_loopw [6] (fun i wr => ∃ (j : Nat), i = .int .i64 j ∧ j ≤ 7 ∧ (∀ i, i < j → ¬ inLead i b) ∧ Below w.heap.size w wr) (fun i _ => 7 - (intOf i).toNat)
  case atStart => exact ⟨0, rfl, Nat.zero_le _, fun i hi => by omega, Below.refl _ _⟩
  case round =>
    obtain ⟨j, rfl, hj, hA, hB⟩ := hrel
    have HA : Hid (∀ i, i < j → ¬ inLead i b) := hA
    have HB : Hid (Below w.heap.size w wr) := hB
    clear hA hB
    by_cases hj4 : j < 7
    · have hx0 := HR.out j hj4 wr
      have i4 : (j : Int) < 7 := by omega
      have HNX : Hid (¬ inLead j b → ∀ i, i < j + 1 → ¬ inLead i b) := fun hn i hi => by
        by_cases e : i = j
        · rw [e]; exact hn
        · exact HA.out i (by omega)
      have HHX : Hid (inLead j b → x = (j : Int)) := HH.out j hj4
      have hrg := fr_rng hj4
      unfold inLead at HHX
      have HIN : Hid (inLead j b ↔ fromI j ≤ b ∧ b ≤ toI j) := Iff.rfl
      obtain ⟨F, hF⟩ : ∃ F, fromI j = F := ⟨_, rfl⟩
      obtain ⟨G, hG⟩ : ∃ G, toI j = G := ⟨_, rfl⟩
      obtain ⟨W, hW⟩ : ∃ W, trN j = W := ⟨_, rfl⟩
      obtain ⟨V, hV⟩ : ∃ V, leastI j = V := ⟨_, rfl⟩
      rw [hF, hG, hW, hV] at hx0
      rw [hF, hG] at hrg
      rw [hF, hG] at HHX
      rw [hF, hG] at HIN
      clear HH HM hF hG hW hV
      by_cases h1 : F ≤ b
      · by_cases h2 : b ≤ G
        · have HE : Hid (x = (j : Int)) := HHX.out ⟨h1, h2⟩
          clear HHX
          go_wp2
          go_ret
          exact ⟨ret_int HE.out.symm, below_two HB.out ((Below.refl _ _).alloc (Nat.le_refl _) _)⟩
        · have HN : Hid (¬ inLead j b) := fun h => h2 (HIN.out.1 h).2
          clear HHX
          go_wp2
          go_roundw
          case rel => exact ⟨j + 1, by go_num, by omega, HNX.out HN.out, below_two HB.out ((Below.refl _ _).alloc (Nat.le_refl _) _)⟩
          case measure => simp [intOf]; omega
      · have HN : Hid (¬ inLead j b) := fun h => h1 (HIN.out.1 h).1
        clear HHX
        go_wp2
        go_roundw
        case rel => exact ⟨j + 1, by go_num, by omega, HNX.out HN.out, below_two HB.out ((Below.refl _ _).alloc (Nat.le_refl _) _)⟩
        case measure => simp [intOf]; omega
    · have hj7 : j = 7 := by omega
      subst hj7
      have HE : Hid (x = -1) := HM.out HA.out
      go_wp2
      go_ret
      exact ⟨ret_int HE.out.symm, HB.out⟩
end Dif
end Go.Proofs.YtlifobdooophbaaDoor
