/-
  Contracts of the document's answers for layer 2, as walks over the translated text. The condition: the cells of its Base are there, and may be written.
-/
import Derived.Test.YtalifhgflngooaaStp3
namespace Go.Proofs.Ytalifhgflngooaa
open Go.ChangeShapes Go.WideShapes Go.ChangeAt Go.RowKit
namespace Stp
open Bas
set_option linter.unusedVariables false

set_option maxHeartbeats 400000 in
theorem rFront_any (room : Int) (n : Nat) (w : World) :
    Calls Try.prog 19 #[.int .i64 room, .int .i64 n] w fun e w' => e = .returned (.int .i64 (frontN room n)) ∧ w' = w := by
  by_cases h1 : room < 0
  · go_enter Try.func19, Try.ntmps19
    go_wp2
    go_ret
    exact ⟨ret_int (by unfold frontN; rw [if_pos h1]; rfl), rfl⟩
  · by_cases h2 : room > (n : Int)
    · go_enter Try.func19, Try.ntmps19
      go_wp2
      go_ret
      exact ⟨ret_int (by unfold frontN; rw [if_neg (by omega), if_pos h2]), rfl⟩
    · go_enter Try.func19, Try.ntmps19
      go_wp2
      go_ret
      exact ⟨ret_int (by unfold frontN; rw [if_neg (by omega), if_neg (by omega)]; omega), rfl⟩

/-- The document's Base in memory: what it has eaten, its error and where, has it ended? -/
structure RBaseAt (w : World) (b : Nat) (p q r : Int) (en : Bool) : Prop where
  c0 : w.cell? ⟨b, 0, none⟩ = some (.int .i64 p)
  c1 : w.cell? ⟨b, 1, none⟩ = some (.int .i64 q)
  c2 : w.cell? ⟨b, 2, none⟩ = some (.int .i64 r)
  c3 : w.cell? ⟨b, 3, none⟩ = some (.bool en)
  f : ∀ j, w.frozen? ⟨b, j, none⟩ = false
theorem RBaseAt.chg {S : Nat → Nat → Prop} {w w' : World} {b : Nat} {p q r : Int} {en : Bool} (h : RBaseAt w b p q r en) (hc : Chg S w w') (hS : ∀ j, ¬ S b j) : RBaseAt w' b p q r en :=
  ⟨hc.cellAt h.c0 (hS _), hc.cellAt h.c1 (hS _), hc.cellAt h.c2 (hS _), hc.cellAt h.c3 (hS _), fun j => (hc.frozen b j (World.block_lt_of_cell? w _ h.c0)).trans (h.f j)⟩
theorem RBaseAt.lt {w : World} {b : Nat} {p q r : Int} {en : Bool} (h : RBaseAt w b p q r en) : b < w.heap.size := World.block_lt_of_cell? w _ h.c0

set_option maxHeartbeats 400000 in
theorem rGoing_any (b : Nat) (p q r : Int) (en : Bool) (w : World) (h : RBaseAt w b p q r en) :
    Calls Try.prog 17 #[.pointer (some ⟨b, 0, none⟩)] w fun e w' => e = .returned (.bool (goB q en)) ∧ w' = w := by
  obtain ⟨c0, c1, c2, c3, -⟩ := h
  by_cases hq : q = 0
  · subst hq
    cases en
    · go_enter Try.func17, Try.ntmps17
      go_wp2
      go_ret
      exact ⟨rfl, rfl⟩
    · go_enter Try.func17, Try.ntmps17
      go_wp2
      go_ret
      exact ⟨rfl, rfl⟩
  · have hg : goB q en = false := by simp [goB, hq]
    rw [hg]
    clear hg
    have hb : (q == 0) = false := by simp [hq]
    go_enter Try.func17, Try.ntmps17
    go_wp2
    go_ret
    exact ⟨rfl, rfl⟩

/-- What became of the place of an error. -/
def stopAt (p q r : Int) (en : Bool) (n : Int) : Int := if goB q en = true ∧ n ≠ 0 then p else r

set_option maxHeartbeats 1000000 in
theorem rDo_off (b : Nat) (p q r : Int) (en : Bool) (k n : Int) (w : World) (h : RBaseAt w b p q r en) (hg : goB q en = false) :
    Calls Try.prog 13 #[.pointer (some ⟨b, 0, none⟩), .int .i64 k, .int .i64 n] w fun e w' => e = .returned (.tuple #[]) ∧ w' = w := by
  go_enter Try.func13, Try.ntmps13
  go_wp2_with (go_at_call 17; refine (rGoing_any _ _ _ _ _ _ h).mono ?_; rintro e w ⟨rfl, rfl⟩)
  refine bodyPost_ret (results_none rfl _ _ _) rfl ?_
  exact ⟨rfl, rfl⟩

set_option maxHeartbeats 1000000 in
theorem rEat_any (b : Nat) (p q r : Int) (en : Bool) (n : Int) (w : World) (h : RBaseAt w b p q r en) (h0 : 0 ≤ p) (h1 : p ≤ 4611686018427387904) (h2 : n ≤ 1099511627776) :
    Calls Try.prog 13 #[.pointer (some ⟨b, 0, none⟩), .int .i64 1, .int .i64 n] w fun e w' => e = .returned (.tuple #[]) ∧ RBaseAt w' b (eatI p q en n) q r en ∧ Chg (fun k _ => k = b) w w' := by
  by_cases hg : goB q en = true
  · have hh := h
    obtain ⟨c0, c1, c2, c3, f⟩ := h
    have f0 := f 0
    by_cases hn : 0 < n
    · have he : eatI p q en n = p + n := by simp [eatI, hg, hn]
      rw [he]
      clear he
      have F : Hid (∀ j, w.frozen? ⟨b, j, none⟩ = false) := f
      clear f
      go_enter Try.func13, Try.ntmps13
      go_wp2_with (go_at_call 17; refine (rGoing_any _ _ _ _ _ _ hh).mono ?_; rintro e w ⟨rfl, rfl⟩)
      go_end0
      have hc := chg_setCell w b 0 (.int .i64 (p + n))
      exact ⟨rfl, ⟨World.cell?_setCell_same _ _ _ c0, hc.cellAt c1 (by omega), hc.cellAt c2 (by omega), hc.cellAt c3 (by omega), fun j => (by simpa using F.out j)⟩, hc.mono (fun k j _ h => h.1)⟩
    · have he : eatI p q en n = p := by simp [eatI, hn]
      rw [he]
      clear he
      go_enter Try.func13, Try.ntmps13
      go_wp2_with (go_at_call 17; refine (rGoing_any _ _ _ _ _ _ hh).mono ?_; rintro e w ⟨rfl, rfl⟩)
      go_end0
      exact ⟨rfl, hh, Chg.refl _ _⟩
  · have he : eatI p q en n = p := by simp [eatI, hg]
    rw [he]
    refine (rDo_off b p q r en 1 n w h (by simpa using hg)).mono ?_
    rintro e w ⟨rfl, rfl⟩
    exact ⟨rfl, h, Chg.refl _ _⟩

set_option maxHeartbeats 1000000 in
theorem rStop_any (b : Nat) (p q r : Int) (en : Bool) (n : Int) (w : World) (h : RBaseAt w b p q r en) :
    Calls Try.prog 13 #[.pointer (some ⟨b, 0, none⟩), .int .i64 2, .int .i64 n] w fun e w' => e = .returned (.tuple #[]) ∧ RBaseAt w' b p (stopI q en n) (stopAt p q r en n) en ∧ Chg (fun k _ => k = b) w w' := by
  by_cases hg : goB q en = true
  · have hh := h
    have hq := (goB_true hg).1
    obtain ⟨c0, c1, c2, c3, f⟩ := h
    by_cases hn : n = 0
    · subst hn
      have he : stopI q en 0 = q := by simp [stopI, hq]
      have he2 : stopAt p q r en 0 = r := by simp [stopAt]
      rw [he, he2]
      clear he he2 hq
      go_enter Try.func13, Try.ntmps13
      go_wp2_with (go_at_call 17; refine (rGoing_any _ _ _ _ _ _ hh).mono ?_; rintro e w ⟨rfl, rfl⟩)
      go_end0
      exact ⟨rfl, hh, Chg.refl _ _⟩
    · have he : stopI q en n = n := by simp [stopI, hg]
      have he2 : stopAt p q r en n = p := by simp [stopAt, hg, hn]
      rw [he, he2]
      have hb : (n != 0) = true := by simp [hn]
      have f1 := f 1
      have f2 := f 2
      have F : Hid (∀ j, w.frozen? ⟨b, j, none⟩ = false) := f
      clear he he2 f hq hn
      go_enter Try.func13, Try.ntmps13
      go_wp2_with (go_at_call 17; refine (rGoing_any _ _ _ _ _ _ hh).mono ?_; rintro e w ⟨rfl, rfl⟩)
      go_end0
      have hc := chg_setCell w b 1 (.int .i64 n)
      have hc2 := chg_setCell (w.setCell ⟨b, 1, none⟩ (.int .i64 n)) b 2 (.int .i64 p)
      have d2 := hc.cellAt c2 (by omega)
      exact ⟨rfl, ⟨hc2.cellAt (hc.cellAt c0 (by omega)) (by omega), hc2.cellAt (World.cell?_setCell_same _ _ _ c1) (by omega), World.cell?_setCell_same _ _ _ d2, hc2.cellAt (hc.cellAt c3 (by omega)) (by omega), fun j => (by simpa using F.out j)⟩,
        hc.trans2 hc2 (fun k j _ h => h.1) (fun k j _ h => h.1)⟩
  · have he : stopI q en n = q := by simp [stopI, hg]
    have he2 : stopAt p q r en n = r := by simp [stopAt, hg]
    rw [he, he2]
    refine (rDo_off b p q r en 2 n w h (by simpa using hg)).mono ?_
    rintro e w ⟨rfl, rfl⟩
    exact ⟨rfl, h, Chg.refl _ _⟩

set_option maxHeartbeats 1000000 in
theorem rEnd_any (b : Nat) (p q r : Int) (en : Bool) (n : Int) (w : World) (h : RBaseAt w b p q r en) :
    Calls Try.prog 13 #[.pointer (some ⟨b, 0, none⟩), .int .i64 3, .int .i64 n] w fun e w' => e = .returned (.tuple #[]) ∧ RBaseAt w' b p q r (endB q en) ∧ Chg (fun k _ => k = b) w w' := by
  by_cases hg : goB q en = true
  · have hh := h
    obtain ⟨c0, c1, c2, c3, f⟩ := h
    have he : endB q en = true := by simp [endB, hg]
    rw [he]
    have f3 := f 3
    have F : Hid (∀ j, w.frozen? ⟨b, j, none⟩ = false) := f
    clear he f
    go_enter Try.func13, Try.ntmps13
    go_wp2_with (go_at_call 17; refine (rGoing_any _ _ _ _ _ _ hh).mono ?_; rintro e w ⟨rfl, rfl⟩)
    go_end0
    have hc := chg_setCell w b 3 (.bool true)
    exact ⟨rfl, ⟨hc.cellAt c0 (by omega), hc.cellAt c1 (by omega), hc.cellAt c2 (by omega), World.cell?_setCell_same _ _ _ c3, fun j => (by simpa using F.out j)⟩, hc.mono (fun k j _ h => h.1)⟩
  · have he : endB q en = en := by simp [endB, hg]
    rw [he]
    refine (rDo_off b p q r en 3 n w h (by simpa using hg)).mono ?_
    rintro e w ⟨rfl, rfl⟩
    exact ⟨rfl, h, Chg.refl _ _⟩
end Stp
end Go.Proofs.Ytalifhgflngooaa
