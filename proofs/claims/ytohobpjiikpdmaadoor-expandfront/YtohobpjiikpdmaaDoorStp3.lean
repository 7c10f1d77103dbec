/-
  Contracts of the calls of step's Pend and Out, wherever they lie in memory, as walks over the translated text. The condition: its cell is there, and may be written, and holds a slice of the program's own.
-/
import Derived.Test.YtohobpjiikpdmaaDoorStp2
import Derived.Laws.BytesString
namespace Go.Proofs.YtohobpjiikpdmaaDoor
open Go.ChangeShapes Go.WideShapes Go.ChangeAt Go.RowKit
namespace Stp
open Bas
set_option linter.unusedVariables false

theorem info_u8 : (Tryd.prog.info? 5).map (fun i => (i.zero, i.size, i.bytes)) = some (some (.int .u8 0), 1, 1) := by kernel_rfl



/-- The text of some bytes. -/
def strOf (l : List Int) : ByteArray := l.foldl (fun r n => r.push (UInt8.ofNat n.toNat)) ByteArray.empty
theorem row_loads {P : Program} {w : World} {ad : Addr} {l : List Int} (h : Row .u8 w (some ad) l) : (loadCells ad l.length).run P w = .ok (l.map (Value.int .u8)).toArray w := by
  have := run_loadCells_list (P := P) w ad (l.map (Value.int .u8)) (fun j u hu => by
    obtain ⟨hj, rfl⟩ := map_nth .u8 l j u hu
    obtain ⟨b, off, ha, hcell⟩ := h
    have hne : l ≠ [] := by intro e; subst e; simp at hj
    have := ha hne
    simp only [Option.some.injEq] at this
    subst this
    rw [add_at]; exact hcell j hj)
  simpa using this
theorem run_string (w : World) (a : Option Addr) (n c : Nat) (l : List Int) (h : Row .u8 w a l) (hl : l.length = n) :
    (convert 45 9 (.slice a n c)).run Tryd.prog w = .ok (.string (strOf l)) w := by
  subst hl
  rw [run_convert_bytes_string w 45 9 5 a l.length c Tryd.underlying45 Tryd.underlying5 Tryd.underlying9]
  cases a with
  | none =>
    have hl0 : l = [] := by
      obtain ⟨b, off, ha, _⟩ := h
      cases l with
      | nil => rfl
      | cons y r => exact absurd (ha (by simp)) (by simp)
    subst hl0
    rfl
  | some ad => exact run_bytesToString w ad l.length c l (row_loads h)

end Stp
end Go.Proofs.YtohobpjiikpdmaaDoor
