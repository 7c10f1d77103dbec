/-
  Slices of numbers that came in, and an array of two such slices, by value: opened. No statement of the program; no condition.
-/
import Derived.Test.YtpglmfhlgaliaaaDoorCod
import Derived.Lib.SmallJoins
import Derived.ChangeMaps5
namespace Go.Proofs.YtpglmfhlgaliaaaDoor
open Go.ChangeShapes Go.WideShapes Go.ChangeAt Go.RowKit
namespace Cod
open Bas
section
variable {H : Type} {enc : TypeId × Value → H} {P : Program} {w : World} {base : Nat} {spare : Nat → Bool} {held : Bool}
theorem ints_of {t e : TypeId} {k : IntKind} {fuel : Nat} {v : Value} {x : DataW H × List MemPlace} (ht : P.underlying t = some (.slice e)) (he : P.underlying e = some (.int k)) (hc : P.cellsOf e = 1) (hsp : ∀ g, spare g = true)
    (h : DataW.trod enc P w base spare held fuel t [v] = some x) : ∃ a n c l, v = .slice a n c ∧ Ints k w a n c l ∧ Cap a n c := by
  rcases open_ints ht he hc h with ⟨hcs, _⟩ | ⟨x, l, c, zs, hcs, _, hl, hm, hz, _, hcell, hwz⟩
  · simp at hcs
    exact ⟨none, 0, 0, [], hcs, ⟨row_nil _ _ _, rfl, by unfold maxLen; omega, by simp, fun _ => rfl⟩, .inl ⟨rfl, rfl⟩⟩
  · simp at hcs
    have hz' : zs.length = c := by rw [hz, if_pos (hsp _)]
    exact ⟨some x, l, c, zs.take l, hcs, ⟨row_of _ _ _ _ _ (by omega) hcell, by simp; omega, by omega, fun n hn => hwz n (List.mem_of_mem_take hn), fun h => by cases h⟩, cap_of (by omega) (by omega) hz' hcell⟩
theorem pair_of {r : Reach} {b0 : Nat} {t s e : TypeId} {k : IntKind} {v : Value} {d : DataW H} {p : List MemPlace} (ht : P.underlying t = some (.array 2 s)) (hs : P.underlying s = some (.slice e)) (he : P.underlying e = some (.int k))
    (hc : P.cellsOf e = 1) (h1 : P.cellsOf s = 1) (h2 : P.cellsOf t = 2) (hsp : ∀ g, spare g = true) (hv : Value.okWide P w r b0 t v) (h : DataW.Trod enc P w base spare held t v d p) :
    ∃ a1 n1 c1 l1 a2 n2 c2 l2, v = .agg #[.slice a1 n1 c1, .slice a2 n2 c2] ∧ Ints k w a1 n1 c1 l1 ∧ Ints k w a2 n2 c2 l2 := by
  simp only [Value.okWide, ht] at hv
  obtain ⟨cs, rfl, hz, _⟩ := hv
  rw [h2] at hz
  obtain ⟨c0, c1, rfl⟩ : ∃ c0 c1, cs = #[c0, c1] := by
    obtain ⟨l⟩ := cs
    match l, hz with
    | [a, b], _ => exact ⟨a, b, rfl⟩
  obtain ⟨fuel, hf⟩ := h
  obtain ⟨xs, m, -, -, -, hxl, hx⟩ := DataW.trod_array ht hf
  have x0 := hx 0 (by omega)
  have x1 := hx 1 (by omega)
  rw [h1] at x0 x1
  rw [List.getElem?_eq_getElem (by omega)] at x0 x1
  simp [Value.cells] at x0 x1
  obtain ⟨a1, n1, c1', l1, rfl, I1, -⟩ := ints_of hs he hc hsp x0
  obtain ⟨a2, n2, c2', l2, rfl, I2, -⟩ := ints_of hs he hc hsp x1
  exact ⟨a1, n1, c1', l1, a2, n2, c2', l2, rfl, I1, I2⟩
end
end Cod
end Go.Proofs.YtpglmfhlgaliaaaDoor
