/-
  The contracts of the document's One and Bytes of layer 3, as walks over the translated text. The condition: scalars, and few.
-/
import Derived.Test.YtknebngapfakjaaDoorU8Lst
import Derived.Test.YtknebngapfakjaaDoorU8Wr2
namespace Go.Proofs.YtknebngapfakjaaDoor
open Go.ChangeShapes Go.WideShapes Go.ChangeAt Go.RowKit
namespace U8
open Bas Sca Stp Scn
set_option linter.unusedVariables false

theorem vint8 {a b : Int} (h : a = b) : Value.int .u32 a = .int .u32 b := by rw [h]
set_option maxHeartbeats 4000000 in
set_option maxRecDepth 100000 in
theorem rOne1 (c : Int) (w : World) (h0 : 0 ≤ c) (h1 : c < 128) :
    Calls Tryd.prog 34 #[.int .u32 c] w fun e w' => e = .returned (.string (Stp.strOf (oneN c))) ∧ Below w.heap.size w w' := by
  rw [show oneN c = [c] by simp [oneN, h1]]
  have HS0 : Hid (sizeN c = 1) := by show sizeN c = 1; simp [sizeN, h1]
  have hcv : ∀ w1 : World, w1 = w → (convert 43 9 (.slice (some ⟨w1.heap.size, 0, none⟩) 1 1)).run Tryd.prog (w1.alloc (.cells #[.int .u8 c] 5)) = .ok (.string (Stp.strOf [c])) (w1.alloc (.cells #[.int .u8 c] 5)) := fun w1 _ =>
    run_string _ _ 1 1 [c] (by exact row_new .u8 w1 [c] _ _ rfl) rfl
  have hcv' := hcv w rfl
  clear hcv
  go_enter Tryd.func34, Tryd.ntmps34
  go_wp2_with fail
  refine (size_any c w).mono ?_
  rintro e w1 ⟨rfl, rfl⟩
  rw [HS0.out]
  go_wp2
  go_ret
  exact ⟨rfl, (Below.refl _ _).alloc (Nat.le_refl _) _⟩

set_option maxHeartbeats 4000000 in
set_option maxRecDepth 100000 in
theorem rOne2 (c : Int) (w : World) (h0 : 128 ≤ c) (h1 : c < 2048) :
    Calls Tryd.prog 34 #[.int .u32 c] w fun e w' => e = .returned (.string (Stp.strOf (oneN c))) ∧ Below w.heap.size w w' := by
  obtain ⟨ho, hs⟩ := one2 h0 h1
  have HS0 : Hid (sizeN c = 2) := hs
  have HO0 : Hid (oneN c = [192 + c / 64, 128 + c % 64]) := by
    exact ho
  clear ho hs
  obtain ⟨H, hH⟩ : ∃ H, H = w.heap.size := ⟨_, rfl⟩
  have HH : Hid (H = w.heap.size) := hH
  have hmk : ∀ w1 : World, (Instr.makeSlice 43 (.int .i64 2) (.int .i64 2)).run Tryd.prog w1 = .ok (.slice (some ⟨w1.heap.size, 0, none⟩) 2 2) (w1.alloc (.cells #[.int .u8 0, .int .u8 0] 5)) := fun w1 => by kernel_rfl
  clear hH
  go_enter Tryd.func34, Tryd.ntmps34
  go_wp2_with fail
  refine (size_any c w).mono ?_
  rintro e w1 ⟨rfl, rfl⟩
  rw [HS0.out]
  go_wp2
  rw [← HH.out]
  go_loopw [0, 5] (fun c' i wr => ∃ k : Nat, i = .int .i64 k ∧ Below w1.heap.size w1 wr ∧ ((k = 1 ∧ c' = .int .u32 c ∧ Seg .u8 wr (.slice (some ⟨H, 0, none⟩) 2 2) [0, 0]) ∨ (k = 0 ∧ c' = .int .u32 (c / 64) ∧ Seg .u8 wr (.slice (some ⟨H, 0, none⟩) 2 2) [0, 128 + c % 64]))) (fun _ i _ => (intOf i).toNat)
  case atStart => exact ⟨1, rfl, (Below.refl _ _).alloc (Nat.le_refl _) _, .inl ⟨rfl, rfl, .inr ⟨H, 0, 2, rfl, by rw [HH.out]; simp, by simp, by unfold maxLen; simp, fun j hj => by
      rw [HH.out, Nat.zero_add, World.cell?_alloc_new]
      match j, hj with
      | 0, _ => rfl
      | 1, _ => rfl, fun j hj => by
      rw [HH.out, Nat.zero_add, World.cell?_alloc_new]
      match j, hj with
      | 0, _ => rfl
      | 1, _ => rfl, fun o => by rw [HH.out]; simp⟩⟩⟩
  case round =>
    obtain ⟨k, rfl, hB, hk⟩ := hrel
    have HB : Hid (Below w1.heap.size w1 wr) := hB
    clear hB
    rcases hk with ⟨rfl, rfl, hsg⟩ | ⟨rfl, rfl, hsg⟩
    · obtain ⟨g, o, e, c1, f1⟩ := hsg.at (j := 1) (by simp)
      simp only [Option.some.injEq, Addr.mk.injEq] at e
      obtain ⟨rfl, rfl, -⟩ := e
      simp only [Nat.zero_add] at c1 f1
      have hs2 := hsg.set (j := 1) (128 + c % 64) (by simp)
      simp only [Nat.zero_add] at hs2
      have hs3 : Seg .u8 (wr.setCell ⟨H, 1, none⟩ (.int .u8 (128 + c % 64))) (.slice (some ⟨H, 0, none⟩) 2 2) [0, 128 + c % 64] := by simpa using hs2
      have HS2 : Hid (Seg .u8 (wr.setCell ⟨H, 1, none⟩ (.int .u8 (128 + c % 64))) (.slice (some ⟨H, 0, none⟩) 2 2) [0, 128 + c % 64]) := hs3
      clear hs3
      have HB2 : Hid (Below w1.heap.size w1 (wr.setCell ⟨H, 1, none⟩ (.int .u8 (128 + c % 64)))) := HB.out.setCell (p := ⟨H, 1, none⟩) (by show w1.heap.size ≤ H; rw [HH.out]; exact Nat.le_refl _) _
      clear hsg hs2 HB
      go_wp2
      go_roundw
      case rel =>
        refine ⟨0, by go_num, ?_, .inr (⟨rfl, vint8 (by omega), HS2.out⟩)⟩
        exact HB2.out
      case measure => simp [intOf]
    · obtain ⟨g, o, e, c1, f1⟩ := hsg.at (j := 0) (by simp)
      simp only [Option.some.injEq, Addr.mk.injEq] at e
      obtain ⟨rfl, rfl, -⟩ := e
      simp only [Nat.zero_add] at c1 f1
      have hs2 := hsg.set (j := 0) (192 + c / 64) (by simp)
      simp only [Nat.zero_add] at hs2
      have hs3 : Seg .u8 (wr.setCell ⟨H, 0, none⟩ (.int .u8 (192 + c / 64))) (.slice (some ⟨H, 0, none⟩) 2 2) [192 + c / 64, 128 + c % 64] := by simpa using hs2
      have hcv := run_string _ _ 2 2 [192 + c / 64, 128 + c % 64] (seg_rowU hs3) rfl
      have HB2 : Hid (Below w1.heap.size w1 (wr.setCell ⟨H, 0, none⟩ (.int .u8 (192 + c / 64)))) := HB.out.setCell (p := ⟨H, 0, none⟩) (by show w1.heap.size ≤ H; rw [HH.out]; exact Nat.le_refl _) _
      clear hsg hs2 hs3 HB
      go_wp2
      go_ret
      exact ⟨by rw [HO0.out]; rfl, HB2.out⟩

set_option maxHeartbeats 4000000 in
set_option maxRecDepth 100000 in
theorem rOne3 (c : Int) (w : World) (h0 : 2048 ≤ c) (h1 : c < 65536) :
    Calls Tryd.prog 34 #[.int .u32 c] w fun e w' => e = .returned (.string (Stp.strOf (oneN c))) ∧ Below w.heap.size w w' := by
  obtain ⟨ho, hs⟩ := one3 h0 h1
  have HS0 : Hid (sizeN c = 3) := hs
  have HO0 : Hid (oneN c = [224 + c / 64 / 64, 128 + c / 64 % 64, 128 + c % 64]) := by
    show _ = _
    rw [ho]; simp only [List.cons.injEq, and_true]; omega
  clear ho hs
  obtain ⟨H, hH⟩ : ∃ H, H = w.heap.size := ⟨_, rfl⟩
  have HH : Hid (H = w.heap.size) := hH
  have hmk : ∀ w1 : World, (Instr.makeSlice 43 (.int .i64 3) (.int .i64 3)).run Tryd.prog w1 = .ok (.slice (some ⟨w1.heap.size, 0, none⟩) 3 3) (w1.alloc (.cells #[.int .u8 0, .int .u8 0, .int .u8 0] 5)) := fun w1 => by kernel_rfl
  clear hH
  go_enter Tryd.func34, Tryd.ntmps34
  go_wp2_with fail
  refine (size_any c w).mono ?_
  rintro e w1 ⟨rfl, rfl⟩
  rw [HS0.out]
  go_wp2
  rw [← HH.out]
  go_loopw [0, 5] (fun c' i wr => ∃ k : Nat, i = .int .i64 k ∧ Below w1.heap.size w1 wr ∧ ((k = 2 ∧ c' = .int .u32 c ∧ Seg .u8 wr (.slice (some ⟨H, 0, none⟩) 3 3) [0, 0, 0]) ∨ (k = 1 ∧ c' = .int .u32 (c / 64) ∧ Seg .u8 wr (.slice (some ⟨H, 0, none⟩) 3 3) [0, 0, 128 + c % 64]) ∨ (k = 0 ∧ c' = .int .u32 (c / 64 / 64) ∧ Seg .u8 wr (.slice (some ⟨H, 0, none⟩) 3 3) [0, 128 + c / 64 % 64, 128 + c % 64]))) (fun _ i _ => (intOf i).toNat)
  case atStart => exact ⟨2, rfl, (Below.refl _ _).alloc (Nat.le_refl _) _, .inl ⟨rfl, rfl, .inr ⟨H, 0, 3, rfl, by rw [HH.out]; simp, by simp, by unfold maxLen; simp, fun j hj => by
      rw [HH.out, Nat.zero_add, World.cell?_alloc_new]
      match j, hj with
      | 0, _ => rfl
      | 1, _ => rfl
      | 2, _ => rfl, fun j hj => by
      rw [HH.out, Nat.zero_add, World.cell?_alloc_new]
      match j, hj with
      | 0, _ => rfl
      | 1, _ => rfl
      | 2, _ => rfl, fun o => by rw [HH.out]; simp⟩⟩⟩
  case round =>
    obtain ⟨k, rfl, hB, hk⟩ := hrel
    have HB : Hid (Below w1.heap.size w1 wr) := hB
    clear hB
    rcases hk with ⟨rfl, rfl, hsg⟩ | ⟨rfl, rfl, hsg⟩ | ⟨rfl, rfl, hsg⟩
    · obtain ⟨g, o, e, c1, f1⟩ := hsg.at (j := 2) (by simp)
      simp only [Option.some.injEq, Addr.mk.injEq] at e
      obtain ⟨rfl, rfl, -⟩ := e
      simp only [Nat.zero_add] at c1 f1
      have hs2 := hsg.set (j := 2) (128 + c % 64) (by simp)
      simp only [Nat.zero_add] at hs2
      have hs3 : Seg .u8 (wr.setCell ⟨H, 2, none⟩ (.int .u8 (128 + c % 64))) (.slice (some ⟨H, 0, none⟩) 3 3) [0, 0, 128 + c % 64] := by simpa using hs2
      have HS2 : Hid (Seg .u8 (wr.setCell ⟨H, 2, none⟩ (.int .u8 (128 + c % 64))) (.slice (some ⟨H, 0, none⟩) 3 3) [0, 0, 128 + c % 64]) := hs3
      clear hs3
      have HB2 : Hid (Below w1.heap.size w1 (wr.setCell ⟨H, 2, none⟩ (.int .u8 (128 + c % 64)))) := HB.out.setCell (p := ⟨H, 2, none⟩) (by show w1.heap.size ≤ H; rw [HH.out]; exact Nat.le_refl _) _
      clear hsg hs2 HB
      go_wp2
      go_roundw
      case rel =>
        refine ⟨1, by go_num, ?_, .inr (.inl ⟨rfl, vint8 (by omega), HS2.out⟩)⟩
        exact HB2.out
      case measure => simp [intOf]
    · obtain ⟨g, o, e, c1, f1⟩ := hsg.at (j := 1) (by simp)
      simp only [Option.some.injEq, Addr.mk.injEq] at e
      obtain ⟨rfl, rfl, -⟩ := e
      simp only [Nat.zero_add] at c1 f1
      have hs2 := hsg.set (j := 1) (128 + c / 64 % 64) (by simp)
      simp only [Nat.zero_add] at hs2
      have hs3 : Seg .u8 (wr.setCell ⟨H, 1, none⟩ (.int .u8 (128 + c / 64 % 64))) (.slice (some ⟨H, 0, none⟩) 3 3) [0, 128 + c / 64 % 64, 128 + c % 64] := by simpa using hs2
      have HS2 : Hid (Seg .u8 (wr.setCell ⟨H, 1, none⟩ (.int .u8 (128 + c / 64 % 64))) (.slice (some ⟨H, 0, none⟩) 3 3) [0, 128 + c / 64 % 64, 128 + c % 64]) := hs3
      clear hs3
      have HB2 : Hid (Below w1.heap.size w1 (wr.setCell ⟨H, 1, none⟩ (.int .u8 (128 + c / 64 % 64)))) := HB.out.setCell (p := ⟨H, 1, none⟩) (by show w1.heap.size ≤ H; rw [HH.out]; exact Nat.le_refl _) _
      clear hsg hs2 HB
      go_wp2
      go_roundw
      case rel =>
        refine ⟨0, by go_num, ?_, .inr (.inr (⟨rfl, vint8 (by omega), HS2.out⟩))⟩
        exact HB2.out
      case measure => simp [intOf]
    · obtain ⟨g, o, e, c1, f1⟩ := hsg.at (j := 0) (by simp)
      simp only [Option.some.injEq, Addr.mk.injEq] at e
      obtain ⟨rfl, rfl, -⟩ := e
      simp only [Nat.zero_add] at c1 f1
      have hs2 := hsg.set (j := 0) (224 + c / 64 / 64) (by simp)
      simp only [Nat.zero_add] at hs2
      have hs3 : Seg .u8 (wr.setCell ⟨H, 0, none⟩ (.int .u8 (224 + c / 64 / 64))) (.slice (some ⟨H, 0, none⟩) 3 3) [224 + c / 64 / 64, 128 + c / 64 % 64, 128 + c % 64] := by simpa using hs2
      have hcv := run_string _ _ 3 3 [224 + c / 64 / 64, 128 + c / 64 % 64, 128 + c % 64] (seg_rowU hs3) rfl
      have HB2 : Hid (Below w1.heap.size w1 (wr.setCell ⟨H, 0, none⟩ (.int .u8 (224 + c / 64 / 64)))) := HB.out.setCell (p := ⟨H, 0, none⟩) (by show w1.heap.size ≤ H; rw [HH.out]; exact Nat.le_refl _) _
      clear hsg hs2 hs3 HB
      go_wp2
      go_ret
      exact ⟨by rw [HO0.out]; rfl, HB2.out⟩

set_option maxHeartbeats 4000000 in
set_option maxRecDepth 100000 in
theorem rOne4 (c : Int) (w : World) (h0 : 65536 ≤ c) (h1 : c < 1114112) :
    Calls Tryd.prog 34 #[.int .u32 c] w fun e w' => e = .returned (.string (Stp.strOf (oneN c))) ∧ Below w.heap.size w w' := by
  obtain ⟨ho, hs⟩ := one4 h0 
  have HS0 : Hid (sizeN c = 4) := hs
  have HO0 : Hid (oneN c = [240 + c / 64 / 64 / 64, 128 + c / 64 / 64 % 64, 128 + c / 64 % 64, 128 + c % 64]) := by
    show _ = _
    rw [ho]; simp only [List.cons.injEq, and_true]; omega
  clear ho hs
  obtain ⟨H, hH⟩ : ∃ H, H = w.heap.size := ⟨_, rfl⟩
  have HH : Hid (H = w.heap.size) := hH
  have hmk : ∀ w1 : World, (Instr.makeSlice 43 (.int .i64 4) (.int .i64 4)).run Tryd.prog w1 = .ok (.slice (some ⟨w1.heap.size, 0, none⟩) 4 4) (w1.alloc (.cells #[.int .u8 0, .int .u8 0, .int .u8 0, .int .u8 0] 5)) := fun w1 => by kernel_rfl
  clear hH
  go_enter Tryd.func34, Tryd.ntmps34
  go_wp2_with fail
  refine (size_any c w).mono ?_
  rintro e w1 ⟨rfl, rfl⟩
  rw [HS0.out]
  go_wp2
  rw [← HH.out]
  go_loopw [0, 5] (fun c' i wr => ∃ k : Nat, i = .int .i64 k ∧ Below w1.heap.size w1 wr ∧ ((k = 3 ∧ c' = .int .u32 c ∧ Seg .u8 wr (.slice (some ⟨H, 0, none⟩) 4 4) [0, 0, 0, 0]) ∨ (k = 2 ∧ c' = .int .u32 (c / 64) ∧ Seg .u8 wr (.slice (some ⟨H, 0, none⟩) 4 4) [0, 0, 0, 128 + c % 64]) ∨ (k = 1 ∧ c' = .int .u32 (c / 64 / 64) ∧ Seg .u8 wr (.slice (some ⟨H, 0, none⟩) 4 4) [0, 0, 128 + c / 64 % 64, 128 + c % 64]) ∨ (k = 0 ∧ c' = .int .u32 (c / 64 / 64 / 64) ∧ Seg .u8 wr (.slice (some ⟨H, 0, none⟩) 4 4) [0, 128 + c / 64 / 64 % 64, 128 + c / 64 % 64, 128 + c % 64]))) (fun _ i _ => (intOf i).toNat)
  case atStart => exact ⟨3, rfl, (Below.refl _ _).alloc (Nat.le_refl _) _, .inl ⟨rfl, rfl, .inr ⟨H, 0, 4, rfl, by rw [HH.out]; simp, by simp, by unfold maxLen; simp, fun j hj => by
      rw [HH.out, Nat.zero_add, World.cell?_alloc_new]
      match j, hj with
      | 0, _ => rfl
      | 1, _ => rfl
      | 2, _ => rfl
      | 3, _ => rfl, fun j hj => by
      rw [HH.out, Nat.zero_add, World.cell?_alloc_new]
      match j, hj with
      | 0, _ => rfl
      | 1, _ => rfl
      | 2, _ => rfl
      | 3, _ => rfl, fun o => by rw [HH.out]; simp⟩⟩⟩
  case round =>
    obtain ⟨k, rfl, hB, hk⟩ := hrel
    have HB : Hid (Below w1.heap.size w1 wr) := hB
    clear hB
    rcases hk with ⟨rfl, rfl, hsg⟩ | ⟨rfl, rfl, hsg⟩ | ⟨rfl, rfl, hsg⟩ | ⟨rfl, rfl, hsg⟩
    · obtain ⟨g, o, e, c1, f1⟩ := hsg.at (j := 3) (by simp)
      simp only [Option.some.injEq, Addr.mk.injEq] at e
      obtain ⟨rfl, rfl, -⟩ := e
      simp only [Nat.zero_add] at c1 f1
      have hs2 := hsg.set (j := 3) (128 + c % 64) (by simp)
      simp only [Nat.zero_add] at hs2
      have hs3 : Seg .u8 (wr.setCell ⟨H, 3, none⟩ (.int .u8 (128 + c % 64))) (.slice (some ⟨H, 0, none⟩) 4 4) [0, 0, 0, 128 + c % 64] := by simpa using hs2
      have HS2 : Hid (Seg .u8 (wr.setCell ⟨H, 3, none⟩ (.int .u8 (128 + c % 64))) (.slice (some ⟨H, 0, none⟩) 4 4) [0, 0, 0, 128 + c % 64]) := hs3
      clear hs3
      have HB2 : Hid (Below w1.heap.size w1 (wr.setCell ⟨H, 3, none⟩ (.int .u8 (128 + c % 64)))) := HB.out.setCell (p := ⟨H, 3, none⟩) (by show w1.heap.size ≤ H; rw [HH.out]; exact Nat.le_refl _) _
      clear hsg hs2 HB
      go_wp2
      go_roundw
      case rel =>
        refine ⟨2, by go_num, ?_, .inr (.inl ⟨rfl, vint8 (by omega), HS2.out⟩)⟩
        exact HB2.out
      case measure => simp [intOf]
    · obtain ⟨g, o, e, c1, f1⟩ := hsg.at (j := 2) (by simp)
      simp only [Option.some.injEq, Addr.mk.injEq] at e
      obtain ⟨rfl, rfl, -⟩ := e
      simp only [Nat.zero_add] at c1 f1
      have hs2 := hsg.set (j := 2) (128 + c / 64 % 64) (by simp)
      simp only [Nat.zero_add] at hs2
      have hs3 : Seg .u8 (wr.setCell ⟨H, 2, none⟩ (.int .u8 (128 + c / 64 % 64))) (.slice (some ⟨H, 0, none⟩) 4 4) [0, 0, 128 + c / 64 % 64, 128 + c % 64] := by simpa using hs2
      have HS2 : Hid (Seg .u8 (wr.setCell ⟨H, 2, none⟩ (.int .u8 (128 + c / 64 % 64))) (.slice (some ⟨H, 0, none⟩) 4 4) [0, 0, 128 + c / 64 % 64, 128 + c % 64]) := hs3
      clear hs3
      have HB2 : Hid (Below w1.heap.size w1 (wr.setCell ⟨H, 2, none⟩ (.int .u8 (128 + c / 64 % 64)))) := HB.out.setCell (p := ⟨H, 2, none⟩) (by show w1.heap.size ≤ H; rw [HH.out]; exact Nat.le_refl _) _
      clear hsg hs2 HB
      go_wp2
      go_roundw
      case rel =>
        refine ⟨1, by go_num, ?_, .inr (.inr (.inl ⟨rfl, vint8 (by omega), HS2.out⟩))⟩
        exact HB2.out
      case measure => simp [intOf]
    · obtain ⟨g, o, e, c1, f1⟩ := hsg.at (j := 1) (by simp)
      simp only [Option.some.injEq, Addr.mk.injEq] at e
      obtain ⟨rfl, rfl, -⟩ := e
      simp only [Nat.zero_add] at c1 f1
      have hs2 := hsg.set (j := 1) (128 + c / 64 / 64 % 64) (by simp)
      simp only [Nat.zero_add] at hs2
      have hs3 : Seg .u8 (wr.setCell ⟨H, 1, none⟩ (.int .u8 (128 + c / 64 / 64 % 64))) (.slice (some ⟨H, 0, none⟩) 4 4) [0, 128 + c / 64 / 64 % 64, 128 + c / 64 % 64, 128 + c % 64] := by simpa using hs2
      have HS2 : Hid (Seg .u8 (wr.setCell ⟨H, 1, none⟩ (.int .u8 (128 + c / 64 / 64 % 64))) (.slice (some ⟨H, 0, none⟩) 4 4) [0, 128 + c / 64 / 64 % 64, 128 + c / 64 % 64, 128 + c % 64]) := hs3
      clear hs3
      have HB2 : Hid (Below w1.heap.size w1 (wr.setCell ⟨H, 1, none⟩ (.int .u8 (128 + c / 64 / 64 % 64)))) := HB.out.setCell (p := ⟨H, 1, none⟩) (by show w1.heap.size ≤ H; rw [HH.out]; exact Nat.le_refl _) _
      clear hsg hs2 HB
      go_wp2
      go_roundw
      case rel =>
        refine ⟨0, by go_num, ?_, .inr (.inr (.inr (⟨rfl, vint8 (by omega), HS2.out⟩)))⟩
        exact HB2.out
      case measure => simp [intOf]
    · obtain ⟨g, o, e, c1, f1⟩ := hsg.at (j := 0) (by simp)
      simp only [Option.some.injEq, Addr.mk.injEq] at e
      obtain ⟨rfl, rfl, -⟩ := e
      simp only [Nat.zero_add] at c1 f1
      have hs2 := hsg.set (j := 0) (240 + c / 64 / 64 / 64) (by simp)
      simp only [Nat.zero_add] at hs2
      have hs3 : Seg .u8 (wr.setCell ⟨H, 0, none⟩ (.int .u8 (240 + c / 64 / 64 / 64))) (.slice (some ⟨H, 0, none⟩) 4 4) [240 + c / 64 / 64 / 64, 128 + c / 64 / 64 % 64, 128 + c / 64 % 64, 128 + c % 64] := by simpa using hs2
      have hcv := run_string _ _ 4 4 [240 + c / 64 / 64 / 64, 128 + c / 64 / 64 % 64, 128 + c / 64 % 64, 128 + c % 64] (seg_rowU hs3) rfl
      have HB2 : Hid (Below w1.heap.size w1 (wr.setCell ⟨H, 0, none⟩ (.int .u8 (240 + c / 64 / 64 / 64)))) := HB.out.setCell (p := ⟨H, 0, none⟩) (by show w1.heap.size ≤ H; rw [HH.out]; exact Nat.le_refl _) _
      clear hsg hs2 hs3 HB
      go_wp2
      go_ret
      exact ⟨by rw [HO0.out]; rfl, HB2.out⟩

theorem rOne_any (c : Int) (w : World) (h : isB c = true) (h0 : 0 ≤ c) :
    Calls Tryd.prog 34 #[.int .u32 c] w fun e w' => e = .returned (.string (Stp.strOf (oneN c))) ∧ Below w.heap.size w w' := by
  have hi := isB_iff.1 h
  rcases (show c < 128 ∨ (128 ≤ c ∧ c < 2048) ∨ (2048 ≤ c ∧ c < 65536) ∨ 65536 ≤ c by omega) with q | q | q | q
  · exact rOne1 c w h0 q
  · exact rOne2 c w q.1 q.2
  · exact rOne3 c w q.1 q.2
  · exact rOne4 c w q (by omega)
set_option maxHeartbeats 4000000 in
set_option maxRecDepth 100000 in
theorem rBytes_any (a : Option Addr) (n cp : Nat) (l : List Int) (w : World) (hr : Row .u32 w a l) (hl : l.length = n) (hn : n ≤ 100000) (hs : ∀ c ∈ l, isB c = true ∧ 0 ≤ c) :
    Calls Tryd.prog 21 #[.slice a n cp] w fun e w' => e = .returned (.string (Stp.strOf (bytesN l))) ∧ Below w.heap.size w w' := by
  obtain ⟨b1, o1, n1, c1⟩ := hr
  have N1 : Hid (l ≠ [] → a = some ⟨b1, o1, none⟩) := n1
  have HC : Hid (∀ i, i < l.length → w.cell? ⟨b1, o1 + i, none⟩ = some (.int .u32 (nth l i))) := c1
  have HS : Hid ((∀ c ∈ l, isB c = true ∧ 0 ≤ c) ∧ l.length = n) := ⟨hs, hl⟩
  clear n1 c1 hs hl
  go_enter Tryd.func21, Tryd.ntmps21
  go_wp2
  go_loopw [3, 4] (fun o i wr => ∃ k : Nat, i = .int .i64 k ∧ k ≤ n ∧ o = .string (Stp.strOf (bytesN (l.take k))) ∧ Below w.heap.size w wr) (fun _ i _ => n - (intOf i).toNat)
  case atStart => exact ⟨0, rfl, Nat.zero_le _, by simp [bytesN]; rfl, Below.refl _ _⟩
  case round =>
    obtain ⟨k, rfl, hk, rfl, hB⟩ := hrel
    have HB : Hid (Below w.heap.size w wr) := hB
    clear hB
    by_cases hlt : (k : Int) < (n : Int)
    · have hkn : k < l.length := by have := HS.out.2; omega
      obtain rfl := N1.out (by intro e; subst e; simp at hkn)
      have hcell : wr.cell? ⟨b1, o1 + k, none⟩ = some (.int .u32 (nth l k)) := cell_later HB.out (HC.out k hkn)
      have hsc := HS.out.1 _ (nth_mem hkn)
      have ht : bytesN (l.take (k + 1)) = bytesN (l.take k) ++ oneN (nth l k) := by rw [take_snoc l k hkn, bytesN_append, bytesN_one]
      have hz := bytesN_le (l.take k)
      rw [List.length_take] at hz
      obtain ⟨x, hx⟩ : ∃ x, nth l k = x := ⟨_, rfl⟩
      rw [hx] at hcell hsc ht
      obtain ⟨t, htt⟩ : ∃ t, bytesN (l.take k) = t := ⟨_, rfl⟩
      rw [htt] at ht hz ⊢
      have HT : Hid (bytesN (l.take (k + 1)) = t ++ oneN x) := ht
      have hzx := oneN_length x
      have hzy := sizeN_bd x
      have g3 : ¬ 9223372036854775807 < (Stp.strOf t).size + (Stp.strOf (oneN x)).size := by rw [strOf_size, strOf_size]; omega
      clear hx htt ht hz hkn hzx hzy
      go_wp2_with fail
      refine (rOne_any x wr hsc.1 hsc.2).mono ?_
      rintro e w2 ⟨rfl, b2⟩
      have HB2 : Hid (Below w.heap.size w w2) := below_two HB.out b2
      clear b2 hcell
      go_wp2
      go_roundw
      case rel => exact ⟨k + 1, by go_num, by omega, by rw [HT.out, strOf_append], HB2.out⟩
      case measure => simp [intOf]; omega
    · have hkn : k = n := by omega
      have HF : Hid (l.take k = l) := by
        show _ = _
        rw [hkn, ← HS.out.2, List.take_length]
      clear hkn
      go_wp2
      go_ret
      exact ⟨by rw [HF.out]; rfl, HB.out⟩
end U8
end Go.Proofs.YtknebngapfakjaaDoor
