/-
  Contracts of the library's DecodeRune at the bytes that the decoder hands it, as walks over the translated text. The condition: the library's two tables are as its text lays them.
-/
import Derived.Test.YtknebngapfakjaaDoorU8Lib
namespace Go.Proofs.YtknebngapfakjaaDoor
open Go.ChangeShapes Go.WideShapes Go.ChangeAt Go.RowKit
namespace U8
open Bas Sca
set_option linter.unusedVariables false
set_option linter.unusedSimpArgs false

theorem mask241 : wrap32 517543559168 / 2147483648 = -1 := by unfold wrap32; omega
set_option maxRecDepth 100000 in
theorem drop_byte : ∀ x : Fin 256, bits .or .i32 (bits .andNot .i32 ((x.val : Nat) : Int) (-1)) (bits .and .i32 65533 (-1)) = 65533 := by decide
theorem drop_byte' (m : Nat) (h : m < 256) : bits .or .i32 (bits .andNot .i32 (m : Int) (-1)) (bits .and .i32 65533 (-1)) = 65533 := drop_byte ⟨m, h⟩

set_option maxHeartbeats 4000000 in
set_option maxRecDepth 100000 in
theorem slow1 (g of cp m : Nat) (w : World) (hT : Tabs w) (h0 : m < 256) (hn : needN m = 0) (c0 : w.cell? ⟨g, of, none⟩ = some (.int .u8 m)) :
    Calls Tryd.prog 56 #[.slice (some ⟨g, of, none⟩) 1 cp] w fun e w' => e = .returned (.tuple #[.int .i32 65533, .int .i64 1]) ∧ Below w.heap.size w w' := by
  have f0 := hT.first m h0
  obtain ⟨-, a0, a1, a2, a3, a4, a5, a6, a7, a8, a9⟩ := hT
  have hf : firstN m = 241 := by
    rcases first_cases m h0 with h | h | h | h | h | h | h | h | h <;> omega
  rw [hf] at f0
  have hd := drop_byte' m h0
  have hm := mask241
  clear hf hn
  go_enter Tryd.func56, Tryd.ntmps56
  go_wp2
  go_ret2
  exact ⟨rfl, Below.refl _ _⟩

set_option maxHeartbeats 4000000 in
set_option maxRecDepth 100000 in
theorem slow2cut (g of cp : Nat) (m b : Nat) (w : World) (hT : Tabs w) (h0 : m < 256) (hn2 : 2 < needN m) (c0 : w.cell? ⟨g, of, none⟩ = some (.int .u8 m)) :
    Calls Tryd.prog 56 #[.slice (some ⟨g, of, none⟩) 2 cp] w fun e w' => e = .returned (.tuple #[.int .i32 65533, .int .i64 1]) ∧ Below w.heap.size w w' := by
  have f0 := hT.first m h0
  obtain ⟨-, a0, a1, a2, a3, a4, a5, a6, a7, a8, a9⟩ := hT
  have ha : ∀ o, Below w.heap.size w (w.alloc o) := fun o => (Below.refl _ _).alloc (Nat.le_refl _) _
  have c0' : ∀ o, (w.alloc o).cell? ⟨g, of, none⟩ = some (.int .u8 m) := fun o => cell_later (ha o) c0
  rcases first_cases m h0 with h | h | h | h | h | h | h | h | h
  · obtain ⟨hf, hlt, hn⟩ := h
    exfalso; omega
  · obtain ⟨hf, hge, hn⟩ := h
    exfalso; omega
  · obtain ⟨hf, h1, h2, hn, hlo, hhi⟩ := h
    exfalso; omega
  · obtain ⟨hf, h1, hn, hlo, hhi⟩ := h
    rw [hf] at f0
    clear h1 hf hn hn2 hlo hhi
    go_enter Tryd.func56, Tryd.ntmps56
    go_wp2
    go_ret2
    exact ⟨rfl, ha _⟩
  · obtain ⟨hf, h1, h2, hn, hlo, hhi⟩ := h
    rw [hf] at f0
    clear h1 h2 hf hn hn2 hlo hhi
    go_enter Tryd.func56, Tryd.ntmps56
    go_wp2
    go_ret2
    exact ⟨rfl, ha _⟩
  · obtain ⟨hf, h1, hn, hlo, hhi⟩ := h
    rw [hf] at f0
    clear h1 hf hn hn2 hlo hhi
    go_enter Tryd.func56, Tryd.ntmps56
    go_wp2
    go_ret2
    exact ⟨rfl, ha _⟩
  · obtain ⟨hf, h1, hn, hlo, hhi⟩ := h
    rw [hf] at f0
    clear h1 hf hn hn2 hlo hhi
    go_enter Tryd.func56, Tryd.ntmps56
    go_wp2
    go_ret2
    exact ⟨rfl, ha _⟩
  · obtain ⟨hf, h1, h2, hn, hlo, hhi⟩ := h
    rw [hf] at f0
    clear h1 h2 hf hn hn2 hlo hhi
    go_enter Tryd.func56, Tryd.ntmps56
    go_wp2
    go_ret2
    exact ⟨rfl, ha _⟩
  · obtain ⟨hf, h1, hn, hlo, hhi⟩ := h
    rw [hf] at f0
    clear h1 hf hn hn2 hlo hhi
    go_enter Tryd.func56, Tryd.ntmps56
    go_wp2
    go_ret2
    exact ⟨rfl, ha _⟩

set_option maxHeartbeats 4000000 in
set_option maxRecDepth 100000 in
theorem slow2ok (g of cp : Nat) (m b : Nat) (w : World) (hT : Tabs w) (h0 : m < 256) (hn2 : needN m = 2) (hr1 : 128 ≤ b) (hr2 : b ≤ 191) (c0 : w.cell? ⟨g, of, none⟩ = some (.int .u8 m)) (c1 : w.cell? ⟨g, of + 1, none⟩ = some (.int .u8 b)) :
    Calls Tryd.prog 56 #[.slice (some ⟨g, of, none⟩) 2 cp] w fun e w' => e = .returned (.tuple #[.int .i32 (numU [(m : Int), (b : Int)]), .int .i64 2]) ∧ Below w.heap.size w w' := by
  have f0 := hT.first m h0
  obtain ⟨-, a0, a1, a2, a3, a4, a5, a6, a7, a8, a9⟩ := hT
  have ha : ∀ o, Below w.heap.size w (w.alloc o) := fun o => (Below.refl _ _).alloc (Nat.le_refl _) _
  have c0' : ∀ o, (w.alloc o).cell? ⟨g, of, none⟩ = some (.int .u8 m) := fun o => cell_later (ha o) c0
  have c1' : ∀ o, (w.alloc o).cell? ⟨g, of + 1, none⟩ = some (.int .u8 b) := fun o => cell_later (ha o) c1
  rcases first_cases m h0 with h | h | h | h | h | h | h | h | h
  · obtain ⟨hf, hlt, hn⟩ := h
    exfalso; omega
  · obtain ⟨hf, hge, hn⟩ := h
    exfalso; omega
  · obtain ⟨hf, h1, h2, hn, hlo, hhi⟩ := h
    rw [hf] at f0
    have ev : numU [(m : Int), (b : Int)] = (m : Int) % 32 * 64 + (b : Int) % 64 := by simp only [numU]; omega
    rw [ev]
    clear ev
    clear h1 h2 hf hn hn2 hlo hhi
    have p5 : ¬ (b : Int) < 128 := by omega
    have p6 : ¬ 191 < (b : Int) := by omega
    clear hr1 hr2
    go_enter Tryd.func56, Tryd.ntmps56
    go_wp2
    go_ret2
    exact ⟨rfl, ha _⟩
  · obtain ⟨hf, h1, hn, hlo, hhi⟩ := h
    exfalso; omega
  · obtain ⟨hf, h1, h2, hn, hlo, hhi⟩ := h
    exfalso; omega
  · obtain ⟨hf, h1, hn, hlo, hhi⟩ := h
    exfalso; omega
  · obtain ⟨hf, h1, hn, hlo, hhi⟩ := h
    exfalso; omega
  · obtain ⟨hf, h1, h2, hn, hlo, hhi⟩ := h
    exfalso; omega
  · obtain ⟨hf, h1, hn, hlo, hhi⟩ := h
    exfalso; omega

set_option maxHeartbeats 4000000 in
set_option maxRecDepth 100000 in
theorem slow2no (g of cp : Nat) (m b : Nat) (w : World) (hT : Tabs w) (h0 : m < 256) (hn2 : needN m = 2) (hr : b < 128 ∨ 191 < b) (c0 : w.cell? ⟨g, of, none⟩ = some (.int .u8 m)) (c1 : w.cell? ⟨g, of + 1, none⟩ = some (.int .u8 b)) :
    Calls Tryd.prog 56 #[.slice (some ⟨g, of, none⟩) 2 cp] w fun e w' => e = .returned (.tuple #[.int .i32 (65533), .int .i64 1]) ∧ Below w.heap.size w w' := by
  have f0 := hT.first m h0
  obtain ⟨-, a0, a1, a2, a3, a4, a5, a6, a7, a8, a9⟩ := hT
  have ha : ∀ o, Below w.heap.size w (w.alloc o) := fun o => (Below.refl _ _).alloc (Nat.le_refl _) _
  have c0' : ∀ o, (w.alloc o).cell? ⟨g, of, none⟩ = some (.int .u8 m) := fun o => cell_later (ha o) c0
  have c1' : ∀ o, (w.alloc o).cell? ⟨g, of + 1, none⟩ = some (.int .u8 b) := fun o => cell_later (ha o) c1
  rcases first_cases m h0 with h | h | h | h | h | h | h | h | h
  · obtain ⟨hf, hlt, hn⟩ := h
    exfalso; omega
  · obtain ⟨hf, hge, hn⟩ := h
    exfalso; omega
  · obtain ⟨hf, h1, h2, hn, hlo, hhi⟩ := h
    rw [hf] at f0
    clear h1 h2 hf hn hn2 hlo hhi
    rcases hr with hr | hr
    · have p5 : (b : Int) < 128 := by omega
      clear hr
      go_enter Tryd.func56, Tryd.ntmps56
      go_wp2
      go_ret2
      exact ⟨rfl, ha _⟩
    · have p5 : ¬ (b : Int) < 128 := by omega
      have p6 : 191 < (b : Int) := by omega
      clear hr
      go_enter Tryd.func56, Tryd.ntmps56
      go_wp2
      go_ret2
      exact ⟨rfl, ha _⟩
  · obtain ⟨hf, h1, hn, hlo, hhi⟩ := h
    exfalso; omega
  · obtain ⟨hf, h1, h2, hn, hlo, hhi⟩ := h
    exfalso; omega
  · obtain ⟨hf, h1, hn, hlo, hhi⟩ := h
    exfalso; omega
  · obtain ⟨hf, h1, hn, hlo, hhi⟩ := h
    exfalso; omega
  · obtain ⟨hf, h1, h2, hn, hlo, hhi⟩ := h
    exfalso; omega
  · obtain ⟨hf, h1, hn, hlo, hhi⟩ := h
    exfalso; omega

set_option maxHeartbeats 4000000 in
set_option maxRecDepth 100000 in
theorem slow3cut (g of cp : Nat) (m b c : Nat) (w : World) (hT : Tabs w) (h0 : m < 256) (hn2 : 3 < needN m) (c0 : w.cell? ⟨g, of, none⟩ = some (.int .u8 m)) :
    Calls Tryd.prog 56 #[.slice (some ⟨g, of, none⟩) 3 cp] w fun e w' => e = .returned (.tuple #[.int .i32 65533, .int .i64 1]) ∧ Below w.heap.size w w' := by
  have f0 := hT.first m h0
  obtain ⟨-, a0, a1, a2, a3, a4, a5, a6, a7, a8, a9⟩ := hT
  have ha : ∀ o, Below w.heap.size w (w.alloc o) := fun o => (Below.refl _ _).alloc (Nat.le_refl _) _
  have c0' : ∀ o, (w.alloc o).cell? ⟨g, of, none⟩ = some (.int .u8 m) := fun o => cell_later (ha o) c0
  rcases first_cases m h0 with h | h | h | h | h | h | h | h | h
  · obtain ⟨hf, hlt, hn⟩ := h
    exfalso; omega
  · obtain ⟨hf, hge, hn⟩ := h
    exfalso; omega
  · obtain ⟨hf, h1, h2, hn, hlo, hhi⟩ := h
    exfalso; omega
  · obtain ⟨hf, h1, hn, hlo, hhi⟩ := h
    exfalso; omega
  · obtain ⟨hf, h1, h2, hn, hlo, hhi⟩ := h
    exfalso; omega
  · obtain ⟨hf, h1, hn, hlo, hhi⟩ := h
    exfalso; omega
  · obtain ⟨hf, h1, hn, hlo, hhi⟩ := h
    rw [hf] at f0
    clear h1 hf hn hn2 hlo hhi
    go_enter Tryd.func56, Tryd.ntmps56
    go_wp2
    go_ret2
    exact ⟨rfl, ha _⟩
  · obtain ⟨hf, h1, h2, hn, hlo, hhi⟩ := h
    rw [hf] at f0
    clear h1 h2 hf hn hn2 hlo hhi
    go_enter Tryd.func56, Tryd.ntmps56
    go_wp2
    go_ret2
    exact ⟨rfl, ha _⟩
  · obtain ⟨hf, h1, hn, hlo, hhi⟩ := h
    rw [hf] at f0
    clear h1 hf hn hn2 hlo hhi
    go_enter Tryd.func56, Tryd.ntmps56
    go_wp2
    go_ret2
    exact ⟨rfl, ha _⟩

set_option maxHeartbeats 4000000 in
set_option maxRecDepth 100000 in
theorem slow3ok (g of cp : Nat) (m b c : Nat) (w : World) (hT : Tabs w) (h0 : m < 256) (hn2 : needN m = 3) (hb1 : loN m ≤ b) (hb2 : b ≤ hiN m) (hr1 : 128 ≤ c) (hr2 : c ≤ 191) (c0 : w.cell? ⟨g, of, none⟩ = some (.int .u8 m)) (c1 : w.cell? ⟨g, of + 1, none⟩ = some (.int .u8 b)) (c2 : w.cell? ⟨g, of + 2, none⟩ = some (.int .u8 c)) :
    Calls Tryd.prog 56 #[.slice (some ⟨g, of, none⟩) 3 cp] w fun e w' => e = .returned (.tuple #[.int .i32 (numU [(m : Int), (b : Int), (c : Int)]), .int .i64 3]) ∧ Below w.heap.size w w' := by
  have f0 := hT.first m h0
  obtain ⟨-, a0, a1, a2, a3, a4, a5, a6, a7, a8, a9⟩ := hT
  have ha : ∀ o, Below w.heap.size w (w.alloc o) := fun o => (Below.refl _ _).alloc (Nat.le_refl _) _
  have c0' : ∀ o, (w.alloc o).cell? ⟨g, of, none⟩ = some (.int .u8 m) := fun o => cell_later (ha o) c0
  have c1' : ∀ o, (w.alloc o).cell? ⟨g, of + 1, none⟩ = some (.int .u8 b) := fun o => cell_later (ha o) c1
  have c2' : ∀ o, (w.alloc o).cell? ⟨g, of + 2, none⟩ = some (.int .u8 c) := fun o => cell_later (ha o) c2
  rcases first_cases m h0 with h | h | h | h | h | h | h | h | h
  · obtain ⟨hf, hlt, hn⟩ := h
    exfalso; omega
  · obtain ⟨hf, hge, hn⟩ := h
    exfalso; omega
  · obtain ⟨hf, h1, h2, hn, hlo, hhi⟩ := h
    exfalso; omega
  · obtain ⟨hf, h1, hn, hlo, hhi⟩ := h
    rw [hf] at f0
    rw [hlo] at hb1
    rw [hhi] at hb2
    have ev : numU [(m : Int), (b : Int), (c : Int)] = (m : Int) % 16 * 4096 + (b : Int) % 64 * 64 + (c : Int) % 64 := by simp only [numU]; omega
    rw [ev]
    clear ev
    clear h1 hf hn hn2 hlo hhi
    have p1 : ¬ (b : Int) < 160 := by omega
    have p2 : ¬ 191 < (b : Int) := by omega
    clear hb1 hb2
    have p5 : ¬ (c : Int) < 128 := by omega
    have p6 : ¬ 191 < (c : Int) := by omega
    clear hr1 hr2
    go_enter Tryd.func56, Tryd.ntmps56
    go_wp2
    go_ret2
    exact ⟨rfl, ha _⟩
  · obtain ⟨hf, h1, h2, hn, hlo, hhi⟩ := h
    rw [hf] at f0
    rw [hlo] at hb1
    rw [hhi] at hb2
    have ev : numU [(m : Int), (b : Int), (c : Int)] = (m : Int) % 16 * 4096 + (b : Int) % 64 * 64 + (c : Int) % 64 := by simp only [numU]; omega
    rw [ev]
    clear ev
    clear h1 h2 hf hn hn2 hlo hhi
    have p1 : ¬ (b : Int) < 128 := by omega
    have p2 : ¬ 191 < (b : Int) := by omega
    clear hb1 hb2
    have p5 : ¬ (c : Int) < 128 := by omega
    have p6 : ¬ 191 < (c : Int) := by omega
    clear hr1 hr2
    go_enter Tryd.func56, Tryd.ntmps56
    go_wp2
    go_ret2
    exact ⟨rfl, ha _⟩
  · obtain ⟨hf, h1, hn, hlo, hhi⟩ := h
    rw [hf] at f0
    rw [hlo] at hb1
    rw [hhi] at hb2
    have ev : numU [(m : Int), (b : Int), (c : Int)] = (m : Int) % 16 * 4096 + (b : Int) % 64 * 64 + (c : Int) % 64 := by simp only [numU]; omega
    rw [ev]
    clear ev
    clear h1 hf hn hn2 hlo hhi
    have p1 : ¬ (b : Int) < 128 := by omega
    have p2 : ¬ 159 < (b : Int) := by omega
    clear hb1 hb2
    have p5 : ¬ (c : Int) < 128 := by omega
    have p6 : ¬ 191 < (c : Int) := by omega
    clear hr1 hr2
    go_enter Tryd.func56, Tryd.ntmps56
    go_wp2
    go_ret2
    exact ⟨rfl, ha _⟩
  · obtain ⟨hf, h1, hn, hlo, hhi⟩ := h
    exfalso; omega
  · obtain ⟨hf, h1, h2, hn, hlo, hhi⟩ := h
    exfalso; omega
  · obtain ⟨hf, h1, hn, hlo, hhi⟩ := h
    exfalso; omega

set_option maxHeartbeats 4000000 in
set_option maxRecDepth 100000 in
theorem slow3no (g of cp : Nat) (m b c : Nat) (w : World) (hT : Tabs w) (h0 : m < 256) (hn2 : needN m = 3) (hb1 : loN m ≤ b) (hb2 : b ≤ hiN m) (hr : c < 128 ∨ 191 < c) (c0 : w.cell? ⟨g, of, none⟩ = some (.int .u8 m)) (c1 : w.cell? ⟨g, of + 1, none⟩ = some (.int .u8 b)) (c2 : w.cell? ⟨g, of + 2, none⟩ = some (.int .u8 c)) :
    Calls Tryd.prog 56 #[.slice (some ⟨g, of, none⟩) 3 cp] w fun e w' => e = .returned (.tuple #[.int .i32 (65533), .int .i64 1]) ∧ Below w.heap.size w w' := by
  have f0 := hT.first m h0
  obtain ⟨-, a0, a1, a2, a3, a4, a5, a6, a7, a8, a9⟩ := hT
  have ha : ∀ o, Below w.heap.size w (w.alloc o) := fun o => (Below.refl _ _).alloc (Nat.le_refl _) _
  have c0' : ∀ o, (w.alloc o).cell? ⟨g, of, none⟩ = some (.int .u8 m) := fun o => cell_later (ha o) c0
  have c1' : ∀ o, (w.alloc o).cell? ⟨g, of + 1, none⟩ = some (.int .u8 b) := fun o => cell_later (ha o) c1
  have c2' : ∀ o, (w.alloc o).cell? ⟨g, of + 2, none⟩ = some (.int .u8 c) := fun o => cell_later (ha o) c2
  rcases first_cases m h0 with h | h | h | h | h | h | h | h | h
  · obtain ⟨hf, hlt, hn⟩ := h
    exfalso; omega
  · obtain ⟨hf, hge, hn⟩ := h
    exfalso; omega
  · obtain ⟨hf, h1, h2, hn, hlo, hhi⟩ := h
    exfalso; omega
  · obtain ⟨hf, h1, hn, hlo, hhi⟩ := h
    rw [hf] at f0
    rw [hlo] at hb1
    rw [hhi] at hb2
    clear h1 hf hn hn2 hlo hhi
    have p1 : ¬ (b : Int) < 160 := by omega
    have p2 : ¬ 191 < (b : Int) := by omega
    clear hb1 hb2
    rcases hr with hr | hr
    · have p5 : (c : Int) < 128 := by omega
      clear hr
      go_enter Tryd.func56, Tryd.ntmps56
      go_wp2
      go_ret2
      exact ⟨rfl, ha _⟩
    · have p5 : ¬ (c : Int) < 128 := by omega
      have p6 : 191 < (c : Int) := by omega
      clear hr
      go_enter Tryd.func56, Tryd.ntmps56
      go_wp2
      go_ret2
      exact ⟨rfl, ha _⟩
  · obtain ⟨hf, h1, h2, hn, hlo, hhi⟩ := h
    rw [hf] at f0
    rw [hlo] at hb1
    rw [hhi] at hb2
    clear h1 h2 hf hn hn2 hlo hhi
    have p1 : ¬ (b : Int) < 128 := by omega
    have p2 : ¬ 191 < (b : Int) := by omega
    clear hb1 hb2
    rcases hr with hr | hr
    · have p5 : (c : Int) < 128 := by omega
      clear hr
      go_enter Tryd.func56, Tryd.ntmps56
      go_wp2
      go_ret2
      exact ⟨rfl, ha _⟩
    · have p5 : ¬ (c : Int) < 128 := by omega
      have p6 : 191 < (c : Int) := by omega
      clear hr
      go_enter Tryd.func56, Tryd.ntmps56
      go_wp2
      go_ret2
      exact ⟨rfl, ha _⟩
  · obtain ⟨hf, h1, hn, hlo, hhi⟩ := h
    rw [hf] at f0
    rw [hlo] at hb1
    rw [hhi] at hb2
    clear h1 hf hn hn2 hlo hhi
    have p1 : ¬ (b : Int) < 128 := by omega
    have p2 : ¬ 159 < (b : Int) := by omega
    clear hb1 hb2
    rcases hr with hr | hr
    · have p5 : (c : Int) < 128 := by omega
      clear hr
      go_enter Tryd.func56, Tryd.ntmps56
      go_wp2
      go_ret2
      exact ⟨rfl, ha _⟩
    · have p5 : ¬ (c : Int) < 128 := by omega
      have p6 : 191 < (c : Int) := by omega
      clear hr
      go_enter Tryd.func56, Tryd.ntmps56
      go_wp2
      go_ret2
      exact ⟨rfl, ha _⟩
  · obtain ⟨hf, h1, hn, hlo, hhi⟩ := h
    exfalso; omega
  · obtain ⟨hf, h1, h2, hn, hlo, hhi⟩ := h
    exfalso; omega
  · obtain ⟨hf, h1, hn, hlo, hhi⟩ := h
    exfalso; omega

set_option maxHeartbeats 4000000 in
set_option maxRecDepth 100000 in
theorem slow4ok (g of cp : Nat) (m b c d : Nat) (w : World) (hT : Tabs w) (h0 : m < 256) (hn2 : needN m = 4) (hb1 : loN m ≤ b) (hb2 : b ≤ hiN m) (hc1 : 128 ≤ c) (hc2 : c ≤ 191) (hr1 : 128 ≤ d) (hr2 : d ≤ 191) (c0 : w.cell? ⟨g, of, none⟩ = some (.int .u8 m)) (c1 : w.cell? ⟨g, of + 1, none⟩ = some (.int .u8 b)) (c2 : w.cell? ⟨g, of + 2, none⟩ = some (.int .u8 c)) (c3 : w.cell? ⟨g, of + 3, none⟩ = some (.int .u8 d)) :
    Calls Tryd.prog 56 #[.slice (some ⟨g, of, none⟩) 4 cp] w fun e w' => e = .returned (.tuple #[.int .i32 (numU [(m : Int), (b : Int), (c : Int), (d : Int)]), .int .i64 4]) ∧ Below w.heap.size w w' := by
  have f0 := hT.first m h0
  obtain ⟨-, a0, a1, a2, a3, a4, a5, a6, a7, a8, a9⟩ := hT
  have ha : ∀ o, Below w.heap.size w (w.alloc o) := fun o => (Below.refl _ _).alloc (Nat.le_refl _) _
  have c0' : ∀ o, (w.alloc o).cell? ⟨g, of, none⟩ = some (.int .u8 m) := fun o => cell_later (ha o) c0
  have c1' : ∀ o, (w.alloc o).cell? ⟨g, of + 1, none⟩ = some (.int .u8 b) := fun o => cell_later (ha o) c1
  have c2' : ∀ o, (w.alloc o).cell? ⟨g, of + 2, none⟩ = some (.int .u8 c) := fun o => cell_later (ha o) c2
  have c3' : ∀ o, (w.alloc o).cell? ⟨g, of + 3, none⟩ = some (.int .u8 d) := fun o => cell_later (ha o) c3
  rcases first_cases m h0 with h | h | h | h | h | h | h | h | h
  · obtain ⟨hf, hlt, hn⟩ := h
    exfalso; omega
  · obtain ⟨hf, hge, hn⟩ := h
    exfalso; omega
  · obtain ⟨hf, h1, h2, hn, hlo, hhi⟩ := h
    exfalso; omega
  · obtain ⟨hf, h1, hn, hlo, hhi⟩ := h
    exfalso; omega
  · obtain ⟨hf, h1, h2, hn, hlo, hhi⟩ := h
    exfalso; omega
  · obtain ⟨hf, h1, hn, hlo, hhi⟩ := h
    exfalso; omega
  · obtain ⟨hf, h1, hn, hlo, hhi⟩ := h
    rw [hf] at f0
    rw [hlo] at hb1
    rw [hhi] at hb2
    have ev : numU [(m : Int), (b : Int), (c : Int), (d : Int)] = (m : Int) % 8 * 262144 + (b : Int) % 64 * 4096 + (c : Int) % 64 * 64 + (d : Int) % 64 := by simp only [numU]; omega
    rw [ev]
    clear ev
    clear h1 hf hn hn2 hlo hhi
    have p1 : ¬ (b : Int) < 144 := by omega
    have p2 : ¬ 191 < (b : Int) := by omega
    clear hb1 hb2
    have p3 : ¬ (c : Int) < 128 := by omega
    have p4 : ¬ 191 < (c : Int) := by omega
    clear hc1 hc2
    have p5 : ¬ (d : Int) < 128 := by omega
    have p6 : ¬ 191 < (d : Int) := by omega
    clear hr1 hr2
    go_enter Tryd.func56, Tryd.ntmps56
    go_wp2
    go_ret2
    exact ⟨rfl, ha _⟩
  · obtain ⟨hf, h1, h2, hn, hlo, hhi⟩ := h
    rw [hf] at f0
    rw [hlo] at hb1
    rw [hhi] at hb2
    have ev : numU [(m : Int), (b : Int), (c : Int), (d : Int)] = (m : Int) % 8 * 262144 + (b : Int) % 64 * 4096 + (c : Int) % 64 * 64 + (d : Int) % 64 := by simp only [numU]; omega
    rw [ev]
    clear ev
    clear h1 h2 hf hn hn2 hlo hhi
    have p1 : ¬ (b : Int) < 128 := by omega
    have p2 : ¬ 191 < (b : Int) := by omega
    clear hb1 hb2
    have p3 : ¬ (c : Int) < 128 := by omega
    have p4 : ¬ 191 < (c : Int) := by omega
    clear hc1 hc2
    have p5 : ¬ (d : Int) < 128 := by omega
    have p6 : ¬ 191 < (d : Int) := by omega
    clear hr1 hr2
    go_enter Tryd.func56, Tryd.ntmps56
    go_wp2
    go_ret2
    exact ⟨rfl, ha _⟩
  · obtain ⟨hf, h1, hn, hlo, hhi⟩ := h
    rw [hf] at f0
    rw [hlo] at hb1
    rw [hhi] at hb2
    have ev : numU [(m : Int), (b : Int), (c : Int), (d : Int)] = (m : Int) % 8 * 262144 + (b : Int) % 64 * 4096 + (c : Int) % 64 * 64 + (d : Int) % 64 := by simp only [numU]; omega
    rw [ev]
    clear ev
    clear h1 hf hn hn2 hlo hhi
    have p1 : ¬ (b : Int) < 128 := by omega
    have p2 : ¬ 143 < (b : Int) := by omega
    clear hb1 hb2
    have p3 : ¬ (c : Int) < 128 := by omega
    have p4 : ¬ 191 < (c : Int) := by omega
    clear hc1 hc2
    have p5 : ¬ (d : Int) < 128 := by omega
    have p6 : ¬ 191 < (d : Int) := by omega
    clear hr1 hr2
    go_enter Tryd.func56, Tryd.ntmps56
    go_wp2
    go_ret2
    exact ⟨rfl, ha _⟩

set_option maxHeartbeats 4000000 in
set_option maxRecDepth 100000 in
theorem slow4no (g of cp : Nat) (m b c d : Nat) (w : World) (hT : Tabs w) (h0 : m < 256) (hn2 : needN m = 4) (hb1 : loN m ≤ b) (hb2 : b ≤ hiN m) (hc1 : 128 ≤ c) (hc2 : c ≤ 191) (hr : d < 128 ∨ 191 < d) (c0 : w.cell? ⟨g, of, none⟩ = some (.int .u8 m)) (c1 : w.cell? ⟨g, of + 1, none⟩ = some (.int .u8 b)) (c2 : w.cell? ⟨g, of + 2, none⟩ = some (.int .u8 c)) (c3 : w.cell? ⟨g, of + 3, none⟩ = some (.int .u8 d)) :
    Calls Tryd.prog 56 #[.slice (some ⟨g, of, none⟩) 4 cp] w fun e w' => e = .returned (.tuple #[.int .i32 (65533), .int .i64 1]) ∧ Below w.heap.size w w' := by
  have f0 := hT.first m h0
  obtain ⟨-, a0, a1, a2, a3, a4, a5, a6, a7, a8, a9⟩ := hT
  have ha : ∀ o, Below w.heap.size w (w.alloc o) := fun o => (Below.refl _ _).alloc (Nat.le_refl _) _
  have c0' : ∀ o, (w.alloc o).cell? ⟨g, of, none⟩ = some (.int .u8 m) := fun o => cell_later (ha o) c0
  have c1' : ∀ o, (w.alloc o).cell? ⟨g, of + 1, none⟩ = some (.int .u8 b) := fun o => cell_later (ha o) c1
  have c2' : ∀ o, (w.alloc o).cell? ⟨g, of + 2, none⟩ = some (.int .u8 c) := fun o => cell_later (ha o) c2
  have c3' : ∀ o, (w.alloc o).cell? ⟨g, of + 3, none⟩ = some (.int .u8 d) := fun o => cell_later (ha o) c3
  rcases first_cases m h0 with h | h | h | h | h | h | h | h | h
  · obtain ⟨hf, hlt, hn⟩ := h
    exfalso; omega
  · obtain ⟨hf, hge, hn⟩ := h
    exfalso; omega
  · obtain ⟨hf, h1, h2, hn, hlo, hhi⟩ := h
    exfalso; omega
  · obtain ⟨hf, h1, hn, hlo, hhi⟩ := h
    exfalso; omega
  · obtain ⟨hf, h1, h2, hn, hlo, hhi⟩ := h
    exfalso; omega
  · obtain ⟨hf, h1, hn, hlo, hhi⟩ := h
    exfalso; omega
  · obtain ⟨hf, h1, hn, hlo, hhi⟩ := h
    rw [hf] at f0
    rw [hlo] at hb1
    rw [hhi] at hb2
    clear h1 hf hn hn2 hlo hhi
    have p1 : ¬ (b : Int) < 144 := by omega
    have p2 : ¬ 191 < (b : Int) := by omega
    clear hb1 hb2
    have p3 : ¬ (c : Int) < 128 := by omega
    have p4 : ¬ 191 < (c : Int) := by omega
    clear hc1 hc2
    rcases hr with hr | hr
    · have p5 : (d : Int) < 128 := by omega
      clear hr
      go_enter Tryd.func56, Tryd.ntmps56
      go_wp2
      go_ret2
      exact ⟨rfl, ha _⟩
    · have p5 : ¬ (d : Int) < 128 := by omega
      have p6 : 191 < (d : Int) := by omega
      clear hr
      go_enter Tryd.func56, Tryd.ntmps56
      go_wp2
      go_ret2
      exact ⟨rfl, ha _⟩
  · obtain ⟨hf, h1, h2, hn, hlo, hhi⟩ := h
    rw [hf] at f0
    rw [hlo] at hb1
    rw [hhi] at hb2
    clear h1 h2 hf hn hn2 hlo hhi
    have p1 : ¬ (b : Int) < 128 := by omega
    have p2 : ¬ 191 < (b : Int) := by omega
    clear hb1 hb2
    have p3 : ¬ (c : Int) < 128 := by omega
    have p4 : ¬ 191 < (c : Int) := by omega
    clear hc1 hc2
    rcases hr with hr | hr
    · have p5 : (d : Int) < 128 := by omega
      clear hr
      go_enter Tryd.func56, Tryd.ntmps56
      go_wp2
      go_ret2
      exact ⟨rfl, ha _⟩
    · have p5 : ¬ (d : Int) < 128 := by omega
      have p6 : 191 < (d : Int) := by omega
      clear hr
      go_enter Tryd.func56, Tryd.ntmps56
      go_wp2
      go_ret2
      exact ⟨rfl, ha _⟩
  · obtain ⟨hf, h1, hn, hlo, hhi⟩ := h
    rw [hf] at f0
    rw [hlo] at hb1
    rw [hhi] at hb2
    clear h1 hf hn hn2 hlo hhi
    have p1 : ¬ (b : Int) < 128 := by omega
    have p2 : ¬ 143 < (b : Int) := by omega
    clear hb1 hb2
    have p3 : ¬ (c : Int) < 128 := by omega
    have p4 : ¬ 191 < (c : Int) := by omega
    clear hc1 hc2
    rcases hr with hr | hr
    · have p5 : (d : Int) < 128 := by omega
      clear hr
      go_enter Tryd.func56, Tryd.ntmps56
      go_wp2
      go_ret2
      exact ⟨rfl, ha _⟩
    · have p5 : ¬ (d : Int) < 128 := by omega
      have p6 : 191 < (d : Int) := by omega
      clear hr
      go_enter Tryd.func56, Tryd.ntmps56
      go_wp2
      go_ret2
      exact ⟨rfl, ha _⟩

set_option maxHeartbeats 4000000 in
theorem dec1 (g of cp m : Nat) (w : World) (h0 : m < 128) (c0 : w.cell? ⟨g, of, none⟩ = some (.int .u8 m)) :
    Calls Tryd.prog 49 #[.slice (some ⟨g, of, none⟩) 1 cp] w fun e w' => e = .returned (.tuple #[.int .i32 m, .int .i64 1]) ∧ Below w.heap.size w w' := by
  have hm : (m : Int) < 128 := by omega
  clear h0
  go_enter Tryd.func49, Tryd.ntmps49
  go_wp2
  go_loop [8] (fun i => i = .int .i64 0) (fun _ => 0)
  case atStart => rfl
  case round =>
    subst hrel
    go_wp2
    go_ret2
    exact ⟨rfl, Below.refl _ _⟩

set_option maxHeartbeats 4000000 in
set_option maxRecDepth 100000 in
/-- The slow road. -/
theorem decS (g of cp m n : Nat) (r k : Int) (w : World) (hn : 1 ≤ n) (h0 : 128 ≤ m) (c0 : w.cell? ⟨g, of, none⟩ = some (.int .u8 m))
    (hS : Calls Tryd.prog 56 #[.slice (some ⟨g, of, none⟩) n cp] w fun e w' => e = .returned (.tuple #[.int .i32 r, .int .i64 k]) ∧ Below w.heap.size w w') :
    Calls Tryd.prog 49 #[.slice (some ⟨g, of, none⟩) n cp] w fun e w' => e = .returned (.tuple #[.int .i32 r, .int .i64 k]) ∧ Below w.heap.size w w' := by
  have hm : ¬ (m : Int) < 128 := by omega
  have hn' : (0 : Int) < (n : Int) := by omega
  have HS : Hid (Calls Tryd.prog 56 #[.slice (some ⟨g, of, none⟩) n cp] w fun e w' => e = .returned (.tuple #[.int .i32 r, .int .i64 k]) ∧ Below w.heap.size w w') := hS
  clear h0 hn hS
  go_enter Tryd.func49, Tryd.ntmps49
  go_wp2
  go_loop [8] (fun i => i = .int .i64 0) (fun _ => 0)
  case atStart => rfl
  case round =>
    subst hrel
    go_wp2_with fail
    refine HS.out.mono ?_
    rintro e w' ⟨rfl, hb⟩
    go_wp2
    go_ret2
    exact ⟨rfl, hb⟩
end U8
end Go.Proofs.YtknebngapfakjaaDoor
