/-
  Contracts of the library's FullRune and DecodeRune at the bytes that the decoder hands them, as walks over the translated text. The condition: the library's two tables are as its text lays them.
-/
import Derived.Test.YtknebngapfakjaaDoorMemS
import Derived.Test.YtknebngapfakjaaDoorU8Math
namespace Go.Proofs.YtknebngapfakjaaDoor
open Go.ChangeShapes Go.WideShapes Go.ChangeAt Go.RowKit
namespace U8
open Bas Sca
set_option linter.unusedVariables false
set_option linter.unusedSimpArgs false

/-- The library's table of first bytes. -/
def firstN (b : Nat) : Int := if b < 128 then 240 else if b < 194 then 241 else if b < 224 then 2 else if b = 224 then 19 else if b = 237 then 35 else if b < 240 then 3 else if b = 240 then 52 else if b < 244 then 4 else if b = 244 then 68 else 241
theorem first_cases (m : Nat) (h : m < 256) : (firstN m = 240 ∧ m < 128 ∧ needN m = 1) ∨ (firstN m = 241 ∧ 128 ≤ m ∧ needN m = 0) ∨ (firstN m = 2 ∧ 194 ≤ m ∧ m < 224 ∧ needN m = 2 ∧ loN m = 128 ∧ hiN m = 191) ∨ (firstN m = 19 ∧ m = 224 ∧ needN m = 3 ∧ loN m = 160 ∧ hiN m = 191)
    ∨ (firstN m = 3 ∧ 224 ≤ m ∧ m < 240 ∧ needN m = 3 ∧ loN m = 128 ∧ hiN m = 191) ∨ (firstN m = 35 ∧ m = 237 ∧ needN m = 3 ∧ loN m = 128 ∧ hiN m = 159) ∨ (firstN m = 52 ∧ m = 240 ∧ needN m = 4 ∧ loN m = 144 ∧ hiN m = 191) ∨ (firstN m = 4 ∧ 240 ≤ m ∧ m < 245 ∧ needN m = 4 ∧ loN m = 128 ∧ hiN m = 191) ∨ (firstN m = 68 ∧ m = 244 ∧ needN m = 4 ∧ loN m = 128 ∧ hiN m = 143) := by
  rcases (show m < 128 ∨ (128 ≤ m ∧ m < 194) ∨ (194 ≤ m ∧ m < 224) ∨ m = 224 ∨ (224 < m ∧ m < 237) ∨ m = 237 ∨ (237 < m ∧ m < 240) ∨ m = 240 ∨ (240 < m ∧ m < 244) ∨ m = 244 ∨ 244 < m by omega) with k | k | k | k | k | k | k | k | k | k | k
  · left; refine ⟨?_, by omega, ?_⟩ <;> simp (disch := omega) only [firstN, needN, if_pos, if_neg]
  · right; left; refine ⟨?_, by omega, ?_⟩ <;> simp (disch := omega) only [firstN, needN, if_pos, if_neg]
  · right; right; left; refine ⟨?_, by omega, by omega, ?_, ?_, ?_⟩ <;> simp (disch := omega) only [firstN, needN, loN, hiN, if_pos, if_neg]
  · subst k; decide
  · right; right; right; right; left; refine ⟨?_, by omega, by omega, ?_, ?_, ?_⟩ <;> simp (disch := omega) only [firstN, needN, loN, hiN, if_pos, if_neg]
  · subst k; decide
  · right; right; right; right; left; refine ⟨?_, by omega, by omega, ?_, ?_, ?_⟩ <;> simp (disch := omega) only [firstN, needN, loN, hiN, if_pos, if_neg]
  · subst k; decide
  · right; right; right; right; right; right; right; left; refine ⟨?_, by omega, by omega, ?_, ?_, ?_⟩ <;> simp (disch := omega) only [firstN, needN, loN, hiN, if_pos, if_neg]
  · subst k; decide
  · right; left; refine ⟨?_, by omega, ?_⟩ <;> simp (disch := omega) only [firstN, needN, if_pos, if_neg]
/-- The library's two tables, as its text lays them. -/
structure Tabs (w : World) : Prop where
  first : ∀ c : Nat, c < 256 → w.cell? ⟨0, c, none⟩ = some (.int .u8 (firstN c))
  a0 : w.cell? ⟨1, 0, none⟩ = some (.int .u8 128)
  a1 : w.cell? ⟨1, 1, none⟩ = some (.int .u8 191)
  a2 : w.cell? ⟨1, 2, none⟩ = some (.int .u8 160)
  a3 : w.cell? ⟨1, 3, none⟩ = some (.int .u8 191)
  a4 : w.cell? ⟨1, 4, none⟩ = some (.int .u8 128)
  a5 : w.cell? ⟨1, 5, none⟩ = some (.int .u8 159)
  a6 : w.cell? ⟨1, 6, none⟩ = some (.int .u8 144)
  a7 : w.cell? ⟨1, 7, none⟩ = some (.int .u8 191)
  a8 : w.cell? ⟨1, 8, none⟩ = some (.int .u8 128)
  a9 : w.cell? ⟨1, 9, none⟩ = some (.int .u8 143)
theorem Tabs.chg {S : Nat → Nat → Prop} {w w' : World} (h : Tabs w) (hc : Chg S w w') (h0 : ∀ j, ¬ S 0 j) (h1 : ∀ j, ¬ S 1 j) : Tabs w' :=
  ⟨fun c hcc => hc.cellAt (h.first c hcc) (h0 _), hc.cellAt h.a0 (h1 _), hc.cellAt h.a1 (h1 _), hc.cellAt h.a2 (h1 _), hc.cellAt h.a3 (h1 _), hc.cellAt h.a4 (h1 _), hc.cellAt h.a5 (h1 _), hc.cellAt h.a6 (h1 _), hc.cellAt h.a7 (h1 _), hc.cellAt h.a8 (h1 _), hc.cellAt h.a9 (h1 _)⟩
theorem Tabs.below {w w' : World} (h : Tabs w) (hb : Below w.heap.size w w') : Tabs w' :=
  h.chg (chg_of_below hb (Nat.le_refl _) (fun _ _ => False)) (fun _ h => h) (fun _ h => h)


set_option maxHeartbeats 4000000 in
set_option maxRecDepth 100000 in
theorem full1 (g of cp : Nat) (m : Nat) (w : World) (hT : Tabs w) (h0 : m < 256) (c0 : w.cell? ⟨g, of, none⟩ = some (.int .u8 m)) :
    Calls Tryd.prog 48 #[.slice (some ⟨g, of, none⟩) 1 cp] w fun e w' => e = .returned (.bool (decide (needN m ≤ 1))) ∧ Below w.heap.size w w' := by
  have f0 := hT.first m h0
  obtain ⟨-, a0, a1, a2, a3, a4, a5, a6, a7, a8, a9⟩ := hT
  have hb : ∀ o n, Below w.heap.size w ((w.alloc o).drewN n) := fun o n => below_drewN ((Below.refl _ _).alloc (Nat.le_refl _) _) n
  have ha : ∀ o, Below w.heap.size w (w.alloc o) := fun o => (Below.refl _ _).alloc (Nat.le_refl _) _
  rcases first_cases m h0 with h | h | h | h | h | h | h | h | h
  · obtain ⟨hf, hlt, hn⟩ := h
    rw [hf] at f0
    clear hlt
    rw [hn]
    clear hf hn
    go_enter Tryd.func48, Tryd.ntmps48
    go_wp2
    go_ret
    exact ⟨rfl, Below.refl _ _⟩
  · obtain ⟨hf, hge, hn⟩ := h
    rw [hf] at f0
    clear hge
    rw [hn]
    clear hf hn
    go_enter Tryd.func48, Tryd.ntmps48
    go_wp2
    go_ret
    exact ⟨rfl, Below.refl _ _⟩
  · obtain ⟨hf, h1, h2, hn, hlo, hhi⟩ := h
    rw [hf] at f0
    clear h1 h2
    rw [hn]
    clear hf hn
    go_enter Tryd.func48, Tryd.ntmps48
    go_wp2
    go_quiet (fail)
    go_wp2
    go_ret
    exact ⟨rfl, hb _ _⟩
  · obtain ⟨hf, h1, hn, hlo, hhi⟩ := h
    rw [hf] at f0
    clear h1
    rw [hn]
    clear hf hn
    go_enter Tryd.func48, Tryd.ntmps48
    go_wp2
    go_quiet (fail)
    go_wp2
    go_ret
    exact ⟨rfl, hb _ _⟩
  · obtain ⟨hf, h1, h2, hn, hlo, hhi⟩ := h
    rw [hf] at f0
    clear h1 h2
    rw [hn]
    clear hf hn
    go_enter Tryd.func48, Tryd.ntmps48
    go_wp2
    go_quiet (fail)
    go_wp2
    go_ret
    exact ⟨rfl, hb _ _⟩
  · obtain ⟨hf, h1, hn, hlo, hhi⟩ := h
    rw [hf] at f0
    clear h1
    rw [hn]
    clear hf hn
    go_enter Tryd.func48, Tryd.ntmps48
    go_wp2
    go_quiet (fail)
    go_wp2
    go_ret
    exact ⟨rfl, hb _ _⟩
  · obtain ⟨hf, h1, hn, hlo, hhi⟩ := h
    rw [hf] at f0
    clear h1
    rw [hn]
    clear hf hn
    go_enter Tryd.func48, Tryd.ntmps48
    go_wp2
    go_quiet (fail)
    go_wp2
    go_ret
    exact ⟨rfl, hb _ _⟩
  · obtain ⟨hf, h1, h2, hn, hlo, hhi⟩ := h
    rw [hf] at f0
    clear h1 h2
    rw [hn]
    clear hf hn
    go_enter Tryd.func48, Tryd.ntmps48
    go_wp2
    go_quiet (fail)
    go_wp2
    go_ret
    exact ⟨rfl, hb _ _⟩
  · obtain ⟨hf, h1, hn, hlo, hhi⟩ := h
    rw [hf] at f0
    clear h1
    rw [hn]
    clear hf hn
    go_enter Tryd.func48, Tryd.ntmps48
    go_wp2
    go_quiet (fail)
    go_wp2
    go_ret
    exact ⟨rfl, hb _ _⟩

set_option maxHeartbeats 4000000 in
set_option maxRecDepth 100000 in
theorem full2 (g of cp : Nat) (m b : Nat) (w : World) (hT : Tabs w) (h0 : m < 256) (hn2 : 2 ≤ needN m) (c0 : w.cell? ⟨g, of, none⟩ = some (.int .u8 m)) (c1 : w.cell? ⟨g, of + 1, none⟩ = some (.int .u8 b)) :
    Calls Tryd.prog 48 #[.slice (some ⟨g, of, none⟩) 2 cp] w fun e w' => e = .returned (.bool (decide (needN m ≤ 2) || (decide ((b : Int) < loN m) || decide (hiN m < (b : Int))))) ∧ Below w.heap.size w w' := by
  have f0 := hT.first m h0
  obtain ⟨-, a0, a1, a2, a3, a4, a5, a6, a7, a8, a9⟩ := hT
  have hb : ∀ o n, Below w.heap.size w ((w.alloc o).drewN n) := fun o n => below_drewN ((Below.refl _ _).alloc (Nat.le_refl _) _) n
  have ha : ∀ o, Below w.heap.size w (w.alloc o) := fun o => (Below.refl _ _).alloc (Nat.le_refl _) _
  have c1' : ∀ o, (w.alloc o).cell? ⟨g, of + 1, none⟩ = some (.int .u8 b) := fun o => cell_later (ha o) c1
  rcases first_cases m h0 with h | h | h | h | h | h | h | h | h
  · obtain ⟨hf, hlt, hn⟩ := h
    exfalso; omega
  · obtain ⟨hf, hge, hn⟩ := h
    exfalso; omega
  · obtain ⟨hf, h1, h2, hn, hlo, hhi⟩ := h
    rw [hf] at f0
    clear h1 h2
    rw [hn]
    clear hf hn hn2
    go_enter Tryd.func48, Tryd.ntmps48
    go_wp2
    go_ret
    exact ⟨ret_bool (by simp), Below.refl _ _⟩
  · obtain ⟨hf, h1, hn, hlo, hhi⟩ := h
    rw [hf] at f0
    clear h1
    rw [hn, hlo, hhi]
    clear hf hn hn2 hlo hhi
    by_cases p1 : (b : Int) < 160
    · have d1 : decide ((b : Int) < 160) = true := by simpa using p1
      go_enter Tryd.func48, Tryd.ntmps48
      go_wp2
      go_quiet (fail)
      go_wp2
      go_ret
      exact ⟨ret_bool (by simp; omega), hb _ _⟩
    · have d1 : decide ((b : Int) < 160) = false := by simpa using p1
      by_cases p2 : 191 < (b : Int)
      · have d2 : decide (191 < (b : Int)) = true := by simpa using p2
        go_enter Tryd.func48, Tryd.ntmps48
        go_wp2
        go_quiet (fail)
        go_wp2
        go_ret
        exact ⟨ret_bool (by simp; omega), hb _ _⟩
      · have d2 : decide (191 < (b : Int)) = false := by simpa using p2
        go_enter Tryd.func48, Tryd.ntmps48
        go_wp2
        go_quiet (fail)
        go_wp2
        go_ret
        exact ⟨ret_bool (by simp; omega), hb _ _⟩
  · obtain ⟨hf, h1, h2, hn, hlo, hhi⟩ := h
    rw [hf] at f0
    clear h1 h2
    rw [hn, hlo, hhi]
    clear hf hn hn2 hlo hhi
    by_cases p1 : (b : Int) < 128
    · have d1 : decide ((b : Int) < 128) = true := by simpa using p1
      go_enter Tryd.func48, Tryd.ntmps48
      go_wp2
      go_quiet (fail)
      go_wp2
      go_ret
      exact ⟨ret_bool (by simp; omega), hb _ _⟩
    · have d1 : decide ((b : Int) < 128) = false := by simpa using p1
      by_cases p2 : 191 < (b : Int)
      · have d2 : decide (191 < (b : Int)) = true := by simpa using p2
        go_enter Tryd.func48, Tryd.ntmps48
        go_wp2
        go_quiet (fail)
        go_wp2
        go_ret
        exact ⟨ret_bool (by simp; omega), hb _ _⟩
      · have d2 : decide (191 < (b : Int)) = false := by simpa using p2
        go_enter Tryd.func48, Tryd.ntmps48
        go_wp2
        go_quiet (fail)
        go_wp2
        go_ret
        exact ⟨ret_bool (by simp; omega), hb _ _⟩
  · obtain ⟨hf, h1, hn, hlo, hhi⟩ := h
    rw [hf] at f0
    clear h1
    rw [hn, hlo, hhi]
    clear hf hn hn2 hlo hhi
    by_cases p1 : (b : Int) < 128
    · have d1 : decide ((b : Int) < 128) = true := by simpa using p1
      go_enter Tryd.func48, Tryd.ntmps48
      go_wp2
      go_quiet (fail)
      go_wp2
      go_ret
      exact ⟨ret_bool (by simp; omega), hb _ _⟩
    · have d1 : decide ((b : Int) < 128) = false := by simpa using p1
      by_cases p2 : 159 < (b : Int)
      · have d2 : decide (159 < (b : Int)) = true := by simpa using p2
        go_enter Tryd.func48, Tryd.ntmps48
        go_wp2
        go_quiet (fail)
        go_wp2
        go_ret
        exact ⟨ret_bool (by simp; omega), hb _ _⟩
      · have d2 : decide (159 < (b : Int)) = false := by simpa using p2
        go_enter Tryd.func48, Tryd.ntmps48
        go_wp2
        go_quiet (fail)
        go_wp2
        go_ret
        exact ⟨ret_bool (by simp; omega), hb _ _⟩
  · obtain ⟨hf, h1, hn, hlo, hhi⟩ := h
    rw [hf] at f0
    clear h1
    rw [hn, hlo, hhi]
    clear hf hn hn2 hlo hhi
    by_cases p1 : (b : Int) < 144
    · have d1 : decide ((b : Int) < 144) = true := by simpa using p1
      go_enter Tryd.func48, Tryd.ntmps48
      go_wp2
      go_quiet (fail)
      go_wp2
      go_ret
      exact ⟨ret_bool (by simp; omega), hb _ _⟩
    · have d1 : decide ((b : Int) < 144) = false := by simpa using p1
      by_cases p2 : 191 < (b : Int)
      · have d2 : decide (191 < (b : Int)) = true := by simpa using p2
        go_enter Tryd.func48, Tryd.ntmps48
        go_wp2
        go_quiet (fail)
        go_wp2
        go_ret
        exact ⟨ret_bool (by simp; omega), hb _ _⟩
      · have d2 : decide (191 < (b : Int)) = false := by simpa using p2
        go_enter Tryd.func48, Tryd.ntmps48
        go_wp2
        go_quiet (fail)
        go_wp2
        go_ret
        exact ⟨ret_bool (by simp; omega), hb _ _⟩
  · obtain ⟨hf, h1, h2, hn, hlo, hhi⟩ := h
    rw [hf] at f0
    clear h1 h2
    rw [hn, hlo, hhi]
    clear hf hn hn2 hlo hhi
    by_cases p1 : (b : Int) < 128
    · have d1 : decide ((b : Int) < 128) = true := by simpa using p1
      go_enter Tryd.func48, Tryd.ntmps48
      go_wp2
      go_quiet (fail)
      go_wp2
      go_ret
      exact ⟨ret_bool (by simp; omega), hb _ _⟩
    · have d1 : decide ((b : Int) < 128) = false := by simpa using p1
      by_cases p2 : 191 < (b : Int)
      · have d2 : decide (191 < (b : Int)) = true := by simpa using p2
        go_enter Tryd.func48, Tryd.ntmps48
        go_wp2
        go_quiet (fail)
        go_wp2
        go_ret
        exact ⟨ret_bool (by simp; omega), hb _ _⟩
      · have d2 : decide (191 < (b : Int)) = false := by simpa using p2
        go_enter Tryd.func48, Tryd.ntmps48
        go_wp2
        go_quiet (fail)
        go_wp2
        go_ret
        exact ⟨ret_bool (by simp; omega), hb _ _⟩
  · obtain ⟨hf, h1, hn, hlo, hhi⟩ := h
    rw [hf] at f0
    clear h1
    rw [hn, hlo, hhi]
    clear hf hn hn2 hlo hhi
    by_cases p1 : (b : Int) < 128
    · have d1 : decide ((b : Int) < 128) = true := by simpa using p1
      go_enter Tryd.func48, Tryd.ntmps48
      go_wp2
      go_quiet (fail)
      go_wp2
      go_ret
      exact ⟨ret_bool (by simp; omega), hb _ _⟩
    · have d1 : decide ((b : Int) < 128) = false := by simpa using p1
      by_cases p2 : 143 < (b : Int)
      · have d2 : decide (143 < (b : Int)) = true := by simpa using p2
        go_enter Tryd.func48, Tryd.ntmps48
        go_wp2
        go_quiet (fail)
        go_wp2
        go_ret
        exact ⟨ret_bool (by simp; omega), hb _ _⟩
      · have d2 : decide (143 < (b : Int)) = false := by simpa using p2
        go_enter Tryd.func48, Tryd.ntmps48
        go_wp2
        go_quiet (fail)
        go_wp2
        go_ret
        exact ⟨ret_bool (by simp; omega), hb _ _⟩

set_option maxHeartbeats 4000000 in
set_option maxRecDepth 100000 in
theorem full3 (g of cp : Nat) (m b c : Nat) (w : World) (hT : Tabs w) (h0 : m < 256) (hn2 : 3 ≤ needN m) (hb2 : loN m ≤ b ∧ b ≤ hiN m) (c0 : w.cell? ⟨g, of, none⟩ = some (.int .u8 m)) (c1 : w.cell? ⟨g, of + 1, none⟩ = some (.int .u8 b)) (c2 : w.cell? ⟨g, of + 2, none⟩ = some (.int .u8 c)) :
    Calls Tryd.prog 48 #[.slice (some ⟨g, of, none⟩) 3 cp] w fun e w' => e = .returned (.bool (decide (needN m ≤ 3) || (decide ((c : Int) < 128) || decide (191 < (c : Int))))) ∧ Below w.heap.size w w' := by
  have f0 := hT.first m h0
  obtain ⟨-, a0, a1, a2, a3, a4, a5, a6, a7, a8, a9⟩ := hT
  have hb : ∀ o n, Below w.heap.size w ((w.alloc o).drewN n) := fun o n => below_drewN ((Below.refl _ _).alloc (Nat.le_refl _) _) n
  have ha : ∀ o, Below w.heap.size w (w.alloc o) := fun o => (Below.refl _ _).alloc (Nat.le_refl _) _
  have c1' : ∀ o, (w.alloc o).cell? ⟨g, of + 1, none⟩ = some (.int .u8 b) := fun o => cell_later (ha o) c1
  have c2' : ∀ o, (w.alloc o).cell? ⟨g, of + 2, none⟩ = some (.int .u8 c) := fun o => cell_later (ha o) c2
  rcases first_cases m h0 with h | h | h | h | h | h | h | h | h
  · obtain ⟨hf, hlt, hn⟩ := h
    exfalso; omega
  · obtain ⟨hf, hge, hn⟩ := h
    exfalso; omega
  · obtain ⟨hf, h1, h2, hn, hlo, hhi⟩ := h
    exfalso; omega
  · obtain ⟨hf, h1, hn, hlo, hhi⟩ := h
    rw [hf] at f0
    clear h1
    rw [hn]
    clear hf hn hn2
    clear hb2
    go_enter Tryd.func48, Tryd.ntmps48
    go_wp2
    go_ret
    exact ⟨ret_bool (by simp), Below.refl _ _⟩
  · obtain ⟨hf, h1, h2, hn, hlo, hhi⟩ := h
    rw [hf] at f0
    clear h1 h2
    rw [hn]
    clear hf hn hn2
    clear hb2
    go_enter Tryd.func48, Tryd.ntmps48
    go_wp2
    go_ret
    exact ⟨ret_bool (by simp), Below.refl _ _⟩
  · obtain ⟨hf, h1, hn, hlo, hhi⟩ := h
    rw [hf] at f0
    clear h1
    rw [hn]
    clear hf hn hn2
    clear hb2
    go_enter Tryd.func48, Tryd.ntmps48
    go_wp2
    go_ret
    exact ⟨ret_bool (by simp), Below.refl _ _⟩
  · obtain ⟨hf, h1, hn, hlo, hhi⟩ := h
    rw [hf] at f0
    clear h1
    rw [hn]
    rw [hlo, hhi] at hb2
    clear hf hn hn2 hlo hhi
    obtain ⟨b1, b2⟩ := hb2
    have d1 : decide ((b : Int) < 144) = false := by simp; omega
    have d2 : decide (191 < (b : Int)) = false := by simp; omega
    by_cases p1 : (c : Int) < 128
    · go_enter Tryd.func48, Tryd.ntmps48
      go_wp2
      go_quiet (fail)
      go_wp2
      go_ret
      exact ⟨ret_bool (by simp; omega), hb _ _⟩
    · by_cases p2 : 191 < (c : Int)
      · go_enter Tryd.func48, Tryd.ntmps48
        go_wp2
        go_quiet (fail)
        go_wp2
        go_ret
        exact ⟨ret_bool (by simp; omega), hb _ _⟩
      · go_enter Tryd.func48, Tryd.ntmps48
        go_wp2
        go_quiet (fail)
        go_wp2
        go_ret
        exact ⟨ret_bool (by simp; omega), hb _ _⟩
  · obtain ⟨hf, h1, h2, hn, hlo, hhi⟩ := h
    rw [hf] at f0
    clear h1 h2
    rw [hn]
    rw [hlo, hhi] at hb2
    clear hf hn hn2 hlo hhi
    obtain ⟨b1, b2⟩ := hb2
    have d1 : decide ((b : Int) < 128) = false := by simp; omega
    have d2 : decide (191 < (b : Int)) = false := by simp; omega
    by_cases p1 : (c : Int) < 128
    · go_enter Tryd.func48, Tryd.ntmps48
      go_wp2
      go_quiet (fail)
      go_wp2
      go_ret
      exact ⟨ret_bool (by simp; omega), hb _ _⟩
    · by_cases p2 : 191 < (c : Int)
      · go_enter Tryd.func48, Tryd.ntmps48
        go_wp2
        go_quiet (fail)
        go_wp2
        go_ret
        exact ⟨ret_bool (by simp; omega), hb _ _⟩
      · go_enter Tryd.func48, Tryd.ntmps48
        go_wp2
        go_quiet (fail)
        go_wp2
        go_ret
        exact ⟨ret_bool (by simp; omega), hb _ _⟩
  · obtain ⟨hf, h1, hn, hlo, hhi⟩ := h
    rw [hf] at f0
    clear h1
    rw [hn]
    rw [hlo, hhi] at hb2
    clear hf hn hn2 hlo hhi
    obtain ⟨b1, b2⟩ := hb2
    have d1 : decide ((b : Int) < 128) = false := by simp; omega
    have d2 : decide (143 < (b : Int)) = false := by simp; omega
    by_cases p1 : (c : Int) < 128
    · go_enter Tryd.func48, Tryd.ntmps48
      go_wp2
      go_quiet (fail)
      go_wp2
      go_ret
      exact ⟨ret_bool (by simp; omega), hb _ _⟩
    · by_cases p2 : 191 < (c : Int)
      · go_enter Tryd.func48, Tryd.ntmps48
        go_wp2
        go_quiet (fail)
        go_wp2
        go_ret
        exact ⟨ret_bool (by simp; omega), hb _ _⟩
      · go_enter Tryd.func48, Tryd.ntmps48
        go_wp2
        go_quiet (fail)
        go_wp2
        go_ret
        exact ⟨ret_bool (by simp; omega), hb _ _⟩

set_option maxHeartbeats 4000000 in
set_option maxRecDepth 100000 in
theorem full4 (g of cp : Nat) (m b c d : Nat) (w : World) (hT : Tabs w) (h0 : m < 256) (hn2 : 4 ≤ needN m) (c0 : w.cell? ⟨g, of, none⟩ = some (.int .u8 m)) (c1 : w.cell? ⟨g, of + 1, none⟩ = some (.int .u8 b)) (c2 : w.cell? ⟨g, of + 2, none⟩ = some (.int .u8 c)) (c3 : w.cell? ⟨g, of + 3, none⟩ = some (.int .u8 d)) :
    Calls Tryd.prog 48 #[.slice (some ⟨g, of, none⟩) 4 cp] w fun e w' => e = .returned (.bool (true)) ∧ Below w.heap.size w w' := by
  have f0 := hT.first m h0
  obtain ⟨-, a0, a1, a2, a3, a4, a5, a6, a7, a8, a9⟩ := hT
  have hb : ∀ o n, Below w.heap.size w ((w.alloc o).drewN n) := fun o n => below_drewN ((Below.refl _ _).alloc (Nat.le_refl _) _) n
  have ha : ∀ o, Below w.heap.size w (w.alloc o) := fun o => (Below.refl _ _).alloc (Nat.le_refl _) _
  have c1' : ∀ o, (w.alloc o).cell? ⟨g, of + 1, none⟩ = some (.int .u8 b) := fun o => cell_later (ha o) c1
  have c2' : ∀ o, (w.alloc o).cell? ⟨g, of + 2, none⟩ = some (.int .u8 c) := fun o => cell_later (ha o) c2
  rcases first_cases m h0 with h | h | h | h | h | h | h | h | h
  · obtain ⟨hf, hlt, hn⟩ := h
    exfalso; omega
  · obtain ⟨hf, hge, hn⟩ := h
    exfalso; omega
  · obtain ⟨hf, h1, h2, hn, hlo, hhi⟩ := h
    exfalso; omega
  · obtain ⟨hf, h1, hn, hlo, hhi⟩ := h
    exfalso; omega
  · obtain ⟨hf, h1, h2, hn, hlo, hhi⟩ := h
    exfalso; omega
  · obtain ⟨hf, h1, hn, hlo, hhi⟩ := h
    exfalso; omega
  · obtain ⟨hf, h1, hn, hlo, hhi⟩ := h
    rw [hf] at f0
    clear h1
    clear hf hn hn2
    go_enter Tryd.func48, Tryd.ntmps48
    go_wp2
    go_ret
    exact ⟨rfl, Below.refl _ _⟩
  · obtain ⟨hf, h1, h2, hn, hlo, hhi⟩ := h
    rw [hf] at f0
    clear h1 h2
    clear hf hn hn2
    go_enter Tryd.func48, Tryd.ntmps48
    go_wp2
    go_ret
    exact ⟨rfl, Below.refl _ _⟩
  · obtain ⟨hf, h1, hn, hlo, hhi⟩ := h
    rw [hf] at f0
    clear h1
    clear hf hn hn2
    go_enter Tryd.func48, Tryd.ntmps48
    go_wp2
    go_ret
    exact ⟨rfl, Below.refl _ _⟩
end U8
end Go.Proofs.YtknebngapfakjaaDoor
