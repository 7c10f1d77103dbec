/-
  Texts that come in as a slice, opened: what it leads to, and how many there may be (by the weights). No statement of the program; no condition.
-/
import Derived.Test.YtlgblkhkohhhkaaDoorCrc2
import Derived.SliceStrings
namespace Go.Proofs.YtlgblkhkohhhkaaDoor
open Go.ChangeShapes Go.WideShapes Go.ChangeAt Go.RowKit
namespace Crc
open Bas Txt
set_option linter.unusedVariables false

/-- What is known of a slice of texts that came in. -/
structure StrsIn (w : World) (a : Option Addr) (n c : Nat) (L : List ByteArray) : Prop where
  row : StrRow w a L
  len : L.length = n
  max : n ≤ 8796093021952
theorem StrsIn.below {w w' : World} {a : Option Addr} {n c : Nat} {L : List ByteArray} (h : StrsIn w a n c L) (hb : Below w.heap.size w w') : StrsIn w' a n c L := ⟨h.row.below hb, h.len, h.max⟩
theorem weights_head {H : Type} {P : Program} {t : TypeId} {ts : List TypeId} {d : DataW H} {r : List (DataW H)} {p : Nat → Bool} (h : (DataW.weightsEach P (t :: ts) (d :: r)).all p = true) : (d.weights P t).all p = true := by
  simp only [DataW.weightsEach, List.all_append, Bool.and_eq_true] at h
  exact h.1
theorem strs_of {H : Type} {enc : TypeId × Value → H} {P : Program} {w : World} {base : Nat} {spare : Nat → Bool} {held : Bool} {t e : TypeId} {fuel : Nat} {v : Value} {d : DataW H} {p : List MemPlace} (ht : P.underlying t = some (.slice e)) (he : P.underlying e = some .string) (hc : P.cellsOf e = 1) (hb : P.bytesOf e = 16)
    (h : DataW.trod enc P w base spare held fuel t [v] = some (d, p)) (hw : (d.weights P t).all (· ≤ reachBytes) = true) :
    ∃ a n c L, v = .slice a n c ∧ StrsIn w a n c L := by
  rcases open_strings ht he hc h with ⟨hcs, _⟩ | ⟨a, len, cap, ss, hcs, _, hl, hm, hz, hx, hcell, hsz⟩
  · simp at hcs
    exact ⟨none, 0, 0, [], hcs, strRow_nil _ _, rfl, by omega⟩
  · simp at hcs
    simp only [Prod.mk.injEq] at hx
    obtain ⟨rfl, -⟩ := hx
    have hle : len ≤ ss.length := by rw [hz]; split <;> omega
    have hlen : (ss.take len).length = len := by simp; omega
    refine ⟨some a, len, cap, ss.take len, hcs, ?_, hlen, ?_⟩
    · by_cases h0 : len = 0
      · subst h0; exact strRow_nil _ _
      · obtain ⟨b, off, spot⟩ := a
        have hc0 := hcell 0 (by omega)
        have hspot : spot = none := by simpa [Addr.add] using World.cell?_spot hc0
        subst hspot
        refine ⟨b, off, fun _ => rfl, fun i hi => ?_⟩
        have hi' : i < len := by omega
        have h1 := hcell i (by omega)
        rw [add_at] at h1
        rw [h1]
        unfold nthS
        rw [List.getElem?_take_of_lt hi', List.getD_eq_getElem?_getD]
    · simp only [DataW.weights, ht, List.all_cons, Bool.and_eq_true, decide_eq_true_eq] at hw
      have h1 := hw.1
      rw [hb] at h1
      have h2 : (strs (H := H) (ss.take len)).length = len := by unfold strs; rw [List.length_map]; exact hlen
      rw [h2] at h1
      unfold reachBytes at h1
      omega
end Crc
end Go.Proofs.YtlgblkhkohhhkaaDoor
