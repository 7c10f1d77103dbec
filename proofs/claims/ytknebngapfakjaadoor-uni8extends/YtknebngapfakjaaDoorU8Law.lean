/-
  What the laws of layer 3 share: lists that came in lie apart from new memory; how much is told. No statement of the program; no condition.
-/
import Derived.Test.YtknebngapfakjaaDoorU8RRd
import Derived.Test.YtknebngapfakjaaDoorU8Tab
import Derived.Test.YtknebngapfakjaaDoorU8Awk
import Derived.ChangeMaps5
namespace Go.Proofs.YtknebngapfakjaaDoor
open Go.ChangeShapes Go.WideShapes Go.ChangeAt Go.RowKit
namespace U8
open Bas Sca Stp Scn
set_option linter.unusedVariables false

theorem row_lt {k : IntKind} {w : World} {a : Option Addr} {l : List Int} (h : Row k w a l) (hl : 0 < l.length) {b o : Nat} (ha : a = some ⟨b, o, none⟩) : b < w.heap.size := by
  obtain ⟨b', o', hn, hc⟩ := h
  have hne : l ≠ [] := by intro e; subst e; simp at hl
  have := hn hne
  rw [ha] at this
  simp only [Option.some.injEq, Addr.mk.injEq] at this
  have hc0 := hc 0 hl
  rw [← this.1] at hc0
  exact World.block_lt_of_cell? w _ hc0
theorem scan_short {σ : Type} (f : Scn.Stp σ) (h1 : ∀ s b x, f s b = some x → x.2.length ≤ 1) (l : List Int) (s : σ) : (scan f s l).told.length ≤ l.length := by
  induction l generalizing s with
  | nil => simp [scan]
  | cons b r ih =>
    cases h : f s b with
    | none => rw [scan_none _ h]; simp
    | some x =>
      have hx := h1 s b x h
      have := ih x.1
      rw [scan_some _ h]; simp [Res.pre]; omega
theorem ints_none (k : IntKind) (w : World) : Ints k w none 0 0 [] := ⟨row_nil _ _ _, rfl, by unfold maxLen; omega, by simp, fun _ => rfl⟩
theorem great_no {n : Int} {n1 n2 : Nat} (h : (decide (n > 400) || (decide (n1 > 200) || decide (n2 > 200))) = false) : n ≤ 400 ∧ n1 ≤ 200 ∧ n2 ≤ 200 := by
  simp at h; omega
theorem seg_row {k : IntKind} {w : World} {a : Option Addr} {n c : Nat} {l : List Int} (h : Seg k w (.slice a n c) l) : Row k w a l ∧ l.length = n ∧ l.length ≤ maxLen := by
  obtain ⟨a', c', e, hr, hm, -⟩ := h.form
  simp only [Value.slice.injEq] at e
  rw [e.1]; exact ⟨hr, e.2.1.symm, hm⟩
end U8
end Go.Proofs.YtknebngapfakjaaDoor
