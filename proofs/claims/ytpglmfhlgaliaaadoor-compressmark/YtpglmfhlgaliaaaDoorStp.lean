/-
  Contracts of the calls of step's Base, wherever it lies in memory, as walks over the translated text. The condition: its three cells are there, and may be written.
-/
import Derived.Test.YtpglmfhlgaliaaaDoorMem
namespace Go.Proofs.YtpglmfhlgaliaaaDoor
open Go.ChangeShapes Go.WideShapes Go.ChangeAt Go.RowKit
namespace Stp
open Bas
set_option linter.unusedVariables false

/-- A Base in memory: what it has eaten, its error, has it ended? -/
structure BaseAt (w : World) (b o : Nat) (p q : Int) (en : Bool) : Prop where
  c0 : w.cell? ⟨b, o, none⟩ = some (.int .i64 p)
  c1 : w.cell? ⟨b, o + 1, none⟩ = some (.int .i64 q)
  c2 : w.cell? ⟨b, o + 2, none⟩ = some (.bool en)
  f0 : w.frozen? ⟨b, o, none⟩ = false
  f1 : w.frozen? ⟨b, o + 1, none⟩ = false
  f2 : w.frozen? ⟨b, o + 2, none⟩ = false
/-- Its cells. -/
def footB (b o : Nat) (k j : Nat) : Prop := k = b ∧ o ≤ j ∧ j ≤ o + 2
theorem BaseAt.chg {S : Nat → Nat → Prop} {w w' : World} {b o : Nat} {p q : Int} {en : Bool} (h : BaseAt w b o p q en) (hc : Chg S w w') (hS : ∀ k j, footB b o k j → ¬ S k j) : BaseAt w' b o p q en :=
  ⟨hc.cellAt h.c0 (hS _ _ ⟨rfl, by omega, by omega⟩), hc.cellAt h.c1 (hS _ _ ⟨rfl, by omega, by omega⟩), hc.cellAt h.c2 (hS _ _ ⟨rfl, by omega, by omega⟩), hc.freeAt h.c0 h.f0, hc.freeAt h.c1 h.f1, hc.freeAt h.c2 h.f2⟩
theorem BaseAt.below {w w' : World} {b o : Nat} {p q : Int} {en : Bool} (h : BaseAt w b o p q en) (hb : Below w.heap.size w w') : BaseAt w' b o p q en :=
  h.chg (chg_of_below hb (Nat.le_refl _) (fun _ _ => False)) (fun _ _ _ h => h)
theorem BaseAt.lt {w : World} {b o : Nat} {p q : Int} {en : Bool} (h : BaseAt w b o p q en) : b < w.heap.size := World.block_lt_of_cell? w _ h.c0
/-- Does it go on? -/
def goB (q : Int) (en : Bool) : Bool := q == 0 && !en
theorem goB_true {q : Int} {en : Bool} (h : goB q en = true) : q = 0 ∧ en = false := by
  unfold goB at h; simpa using h
theorem goB_of {q : Int} {en : Bool} (h : q = 0) (h2 : en = false) : goB q en = true := by subst h h2; rfl
/-- What was eaten behind Eat(n). -/
def eatI (p q : Int) (en : Bool) (n : Int) : Int := if goB q en = true ∧ 0 < n then p + n else p
/-- The error behind Stop(e). -/
def stopI (q : Int) (en : Bool) (e : Int) : Int := if goB q en = true then e else q
/-- Has it ended, behind End()? -/
def endB (q : Int) (en : Bool) : Bool := if goB q en = true then true else en
/-- The place that Fail tells. -/
def failAt (p q : Int) : Int := if q = 0 then 0 else p

set_option maxHeartbeats 400000 in
theorem going_any (b o : Nat) (p q : Int) (en : Bool) (w : World) (h : BaseAt w b o p q en) :
    Calls Tryd.prog 28 #[.pointer (some ⟨b, o, none⟩)] w fun e w' => e = .returned (.bool (goB q en)) ∧ w' = w := by
  obtain ⟨c0, c1, c2, -, -, -⟩ := h
  by_cases hq : q = 0
  · subst hq
    cases en
    · go_enter Tryd.func28, Tryd.ntmps28
      go_wp2
      go_ret
      exact ⟨rfl, rfl⟩
    · go_enter Tryd.func28, Tryd.ntmps28
      go_wp2
      go_ret
      exact ⟨rfl, rfl⟩
  · have hg : goB q en = false := by simp [goB, hq]
    rw [hg]
    clear hg
    have hb : (q == 0) = false := by simp [hq]
    go_enter Tryd.func28, Tryd.ntmps28
    go_wp2
    go_ret
    exact ⟨rfl, rfl⟩

set_option maxHeartbeats 400000 in
theorem eat_any (b o : Nat) (p q : Int) (en : Bool) (n : Int) (w : World) (h : BaseAt w b o p q en) (h0 : 0 ≤ p) (h1 : p ≤ 4611686018427387904) (h2 : n ≤ 1099511627776) :
    Calls Tryd.prog 31 #[.pointer (some ⟨b, o, none⟩), .int .i64 n] w fun e w' => e = .returned (.tuple #[]) ∧ BaseAt w' b o (eatI p q en n) q en ∧ Chg (footB b o) w w' := by
  have hh := h
  obtain ⟨c0, c1, c2, f0, f1, f2⟩ := h
  by_cases hg : goB q en = true
  · by_cases hn : 0 < n
    · have he : eatI p q en n = p + n := by simp [eatI, hg, hn]
      rw [he]
      clear he
      go_enter Tryd.func31, Tryd.ntmps31
      go_wp2_with (go_at_call 28; refine (going_any _ _ _ _ _ _ hh).mono ?_; rintro e w ⟨rfl, rfl⟩)
      go_end0
      have hc := chg_setCell w b o (.int .i64 (p + n))
      refine ⟨rfl, ⟨World.cell?_setCell_same _ _ _ c0, hc.cellAt c1 (by omega), hc.cellAt c2 (by omega), hc.freeAt c0 f0, hc.freeAt c1 f1, hc.freeAt c2 f2⟩, hc.mono (fun k j _ h => ⟨h.1, by omega, by omega⟩)⟩
    · have he : eatI p q en n = p := by simp [eatI, hn]
      rw [he]
      clear he
      go_enter Tryd.func31, Tryd.ntmps31
      go_wp2_with (go_at_call 28; refine (going_any _ _ _ _ _ _ hh).mono ?_; rintro e w ⟨rfl, rfl⟩)
      go_end0
      exact ⟨rfl, hh, Chg.refl _ _⟩
  · have he : eatI p q en n = p := by simp [eatI, hg]
    rw [he]
    clear he
    have hg' : goB q en = false := by simpa using hg
    clear hg
    go_enter Tryd.func31, Tryd.ntmps31
    go_wp2_with (go_at_call 28; refine (going_any _ _ _ _ _ _ hh).mono ?_; rintro e w ⟨rfl, rfl⟩)
    go_end0
    exact ⟨rfl, hh, Chg.refl _ _⟩

set_option maxHeartbeats 400000 in
theorem stop_any (b o : Nat) (p q : Int) (en : Bool) (n : Int) (w : World) (h : BaseAt w b o p q en) :
    Calls Tryd.prog 33 #[.pointer (some ⟨b, o, none⟩), .int .i64 n] w fun e w' => e = .returned (.tuple #[]) ∧ BaseAt w' b o p (stopI q en n) en ∧ Chg (footB b o) w w' := by
  have hh := h
  obtain ⟨c0, c1, c2, f0, f1, f2⟩ := h
  by_cases hg : goB q en = true
  · have he : stopI q en n = n := by simp [stopI, hg]
    rw [he]
    clear he
    go_enter Tryd.func33, Tryd.ntmps33
    go_wp2_with (go_at_call 28; refine (going_any _ _ _ _ _ _ hh).mono ?_; rintro e w ⟨rfl, rfl⟩)
    go_end0
    have hc := chg_setCell w b (o + 1) (.int .i64 n)
    refine ⟨rfl, ⟨hc.cellAt c0 (by omega), World.cell?_setCell_same _ _ _ c1, hc.cellAt c2 (by omega), hc.freeAt c0 f0, hc.freeAt c1 f1, hc.freeAt c2 f2⟩, hc.mono (fun k j _ h => ⟨h.1, by omega, by omega⟩)⟩
  · have he : stopI q en n = q := by simp [stopI, hg]
    rw [he]
    clear he
    have hg' : goB q en = false := by simpa using hg
    clear hg
    go_enter Tryd.func33, Tryd.ntmps33
    go_wp2_with (go_at_call 28; refine (going_any _ _ _ _ _ _ hh).mono ?_; rintro e w ⟨rfl, rfl⟩)
    go_end0
    exact ⟨rfl, hh, Chg.refl _ _⟩

set_option maxHeartbeats 400000 in
theorem end_any (b o : Nat) (p q : Int) (en : Bool) (w : World) (h : BaseAt w b o p q en) :
    Calls Tryd.prog 36 #[.pointer (some ⟨b, o, none⟩)] w fun e w' => e = .returned (.tuple #[]) ∧ BaseAt w' b o p q (endB q en) ∧ Chg (footB b o) w w' := by
  have hh := h
  obtain ⟨c0, c1, c2, f0, f1, f2⟩ := h
  by_cases hg : goB q en = true
  · have he : endB q en = true := by simp [endB, hg]
    rw [he]
    clear he
    go_enter Tryd.func36, Tryd.ntmps36
    go_wp2_with (go_at_call 28; refine (going_any _ _ _ _ _ _ hh).mono ?_; rintro e w ⟨rfl, rfl⟩)
    go_end0
    have hc := chg_setCell w b (o + 2) (.bool true)
    refine ⟨rfl, ⟨hc.cellAt c0 (by omega), hc.cellAt c1 (by omega), World.cell?_setCell_same _ _ _ c2, hc.freeAt c0 f0, hc.freeAt c1 f1, hc.freeAt c2 f2⟩, hc.mono (fun k j _ h => ⟨h.1, by omega, by omega⟩)⟩
  · have he : endB q en = en := by simp [endB, hg]
    rw [he]
    clear he
    have hg' : goB q en = false := by simpa using hg
    clear hg
    go_enter Tryd.func36, Tryd.ntmps36
    go_wp2_with (go_at_call 28; refine (going_any _ _ _ _ _ _ hh).mono ?_; rintro e w ⟨rfl, rfl⟩)
    go_end0
    exact ⟨rfl, hh, Chg.refl _ _⟩

set_option maxHeartbeats 400000 in
theorem fail_any (b o : Nat) (p q : Int) (en : Bool) (w : World) (h : BaseAt w b o p q en) :
    Calls Tryd.prog 21 #[.pointer (some ⟨b, o, none⟩)] w fun e w' => e = .returned (.agg #[.int .i64 q, .int .i64 (failAt p q)]) ∧ Below w.heap.size w w' := by
  have hlt := h.lt
  obtain ⟨c0, c1, c2, f0, f1, f2⟩ := h
  by_cases hq : q = 0
  · subst hq
    go_enter Tryd.func21, Tryd.ntmps21
    go_wp2
    exact bodyPost_ret (v := .agg #[.int .i64 0, .int .i64 0]) (by simp [results, Tryd.results21, go_sem]) rfl ⟨rfl, (Below.refl _ _).alloc (Nat.le_refl _) _⟩
  · have hb : (q == 0) = false := by simp [hq]
    have he : failAt p q = p := by simp [failAt, hq]
    rw [he]
    clear he hq
    go_enter Tryd.func21, Tryd.ntmps21
    go_wp2
    go_region
    go_wp2
    exact bodyPost_ret (v := .agg #[.int .i64 q, .int .i64 p]) (by simp [results, Tryd.results21, go_sem]) rfl ⟨rfl, ((Below.refl _ _).alloc (Nat.le_refl _) _).drew⟩
end Stp
end Go.Proofs.YtpglmfhlgaliaaaDoor
