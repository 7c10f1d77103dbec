/-
  Slices of numbers of the program's own: an element, an element set, a beginning, a rest. No statement of the program; no condition.
-/
import Derived.Test.YtmihceoeoggjjaaMem
namespace Go.Proofs.Ytmihceoeoggjjaa
open Go.ChangeShapes Go.WideShapes Go.ChangeAt Go.RowKit
namespace Bas
set_option linter.unusedVariables false

theorem seg_empty_at (k : IntKind) (w : World) (t : TypeId) {n : Nat} (hn : n = w.heap.size) : Seg k (w.alloc (.cells #[] t)) (.slice (some ⟨n, 0, none⟩) 0 0) [] := by
  subst hn; exact seg_empty k w t
theorem Seg.at {k : IntKind} {w : World} {a : Option Addr} {n c : Nat} {l : List Int} (h : Seg k w (.slice a n c) l) {j : Nat} (hj : j < l.length) :
    ∃ g of, a = some ⟨g, of, none⟩ ∧ w.cell? ⟨g, of + j, none⟩ = some (.int k (nth l j)) ∧ w.frozen? ⟨g, of + j, none⟩ = false := by
  rcases h with ⟨_, rfl⟩ | ⟨g, off, cap, hv, hg, h1, h2, h3, h4, h5⟩
  · simp at hj
  · simp only [Value.slice.injEq] at hv
    exact ⟨g, off, hv.1, h3 j hj, h5 _⟩
theorem Seg.takeO {k : IntKind} {w : World} {a : Option Addr} {n c : Nat} {l : List Int} (h : Seg k w (.slice a n c) l) {f : Nat} (hf : f ≤ l.length) : Seg k w (.slice a f c) (l.take f) := by
  rcases h with ⟨h0, rfl⟩ | ⟨g, off, cap, hv, hg, h1, h2, h3, h4, h5⟩
  · simp only [Value.slice.injEq] at h0
    obtain ⟨rfl, -, rfl⟩ := h0
    have : f = 0 := by simpa using hf
    subst this
    exact seg_nil _ _
  · simp only [Value.slice.injEq] at hv
    obtain ⟨rfl, -, rfl⟩ := hv
    have e : (l.take f).length = f := by simp; omega
    refine .inr ⟨g, off, c, by rw [e], hg, by omega, h2, fun i hi => ?_, h4, h5⟩
    have hi' : i < f := by omega
    rw [nth_take hi']; exact h3 i (by omega)
theorem Seg.dropM {k : IntKind} {w : World} {g of n c : Nat} {l : List Int} (h : Seg k w (.slice (some ⟨g, of, none⟩) n c) l) {f : Nat} (hf : f ≤ l.length) (hn : l.length = n) :
    Seg k w (.slice (some ⟨g, of + f, none⟩) (n - f) (c - f)) (l.drop f) := by
  rcases h with ⟨h0, _⟩ | ⟨g', off, cap, hv, hg, h1, h2, h3, h4, h5⟩
  · simp at h0
  · simp only [Value.slice.injEq, Option.some.injEq, Addr.mk.injEq] at hv
    obtain ⟨⟨rfl, rfl, -⟩, -, rfl⟩ := hv
    have e : (l.drop f).length = n - f := by simp; omega
    refine .inr ⟨g, of + f, c - f, by rw [e], hg, by omega, by omega, fun i hi => ?_, fun i hi => ?_, h5⟩
    · rw [show of + f + i = of + (f + i) by omega, h3 (f + i) (by omega)]
      simp [nth]
    · rw [show of + f + i = of + (f + i) by omega]; exact h4 (f + i) (by omega)
theorem Seg.dropE {k : IntKind} {w : World} {g of n c : Nat} {l : List Int} (h : Seg k w (.slice (some ⟨g, of, none⟩) n c) l) {f : Nat} (hf : f ≤ l.length) (hn : l.length = n) (hc : c = f) :
    Seg k w (.slice (some ⟨g, of, none⟩) (n - f) 0) (l.drop f) := by
  rcases h with ⟨h0, _⟩ | ⟨g', off, cap, hv, hg, h1, h2, h3, h4, h5⟩
  · simp at h0
  · simp only [Value.slice.injEq, Option.some.injEq, Addr.mk.injEq] at hv
    obtain ⟨⟨rfl, rfl, -⟩, -, rfl⟩ := hv
    have e : (l.drop f).length = n - f := by simp; omega
    refine .inr ⟨g, of, 0, by rw [e], hg, by omega, by omega, fun i hi => ?_, fun i hi => by omega, h5⟩
    omega
theorem nth_set (l : List Int) (j i : Nat) (x : Int) (hj : j < l.length) : nth (l.set j x) i = if i = j then x else nth l i := by
  unfold nth
  rw [List.getElem?_set]
  by_cases e : j = i
  · subst e; simp [hj]
  · have e' : ¬ i = j := fun h => e h.symm
    simp [e, e']
theorem Seg.set {k : IntKind} {w : World} {g of n c : Nat} {l : List Int} (h : Seg k w (.slice (some ⟨g, of, none⟩) n c) l) {j : Nat} (x : Int) (hj : j < l.length) :
    Seg k (w.setCell ⟨g, of + j, none⟩ (.int k x)) (.slice (some ⟨g, of, none⟩) n c) (l.set j x) := by
  rcases h with ⟨h0, _⟩ | ⟨g', off, cap, hv, hg, h1, h2, h3, h4, h5⟩
  · simp at h0
  · simp only [Value.slice.injEq, Option.some.injEq, Addr.mk.injEq] at hv
    obtain ⟨⟨rfl, rfl, -⟩, rfl, rfl⟩ := hv
    have hc := chg_setCell w g (of + j) (.int k x)
    refine .inr ⟨g, of, c, by simp, Nat.lt_of_lt_of_le hg hc.size, by simpa using h1, h2, fun i hi => ?_, fun i hi => hc.there g _ hg (h4 i hi), fun o => (hc.frozen g o hg).trans (h5 o)⟩
    have hi' : i < l.length := by simpa using hi
    rw [nth_set l j i x hj]
    by_cases e : i = j
    · subst e; simp only [if_pos]; exact World.cell?_setCell_same _ _ _ (h3 i hi')
    · rw [if_neg e]; exact hc.cellAt (h3 i hi') (by omega)
end Bas
end Go.Proofs.Ytmihceoeoggjjaa
