/-
  The program's table of layer 16, as the row lists it, is the table that the walks read; and a world that holds it. No statement of the program; no condition.
-/
import Derived.Test.YtlgblkhkohhhkaaDoorCrc1
import Derived.Test.YtlgblkhkohhhkaaDoorCards
import Derived.Test.YtlgblkhkohhhkaaDoorTie
import Derived.Lib.LaidU8
import Derived.Lib.SmallJoins
import Derived.ChangeSame
import Derived.Deep.DeepHandedRow
import Derived.SevenTiedAt
namespace Go.Proofs.YtlgblkhkohhhkaaDoor
open Go.ChangeShapes Go.WideShapes Go.ChangeAt Go.RowKit
namespace Crc
open Bas Lib

theorem cells32 : Tryd.prog.cellsOf 22 = 1 := by kernel_rfl
abbrev laidList : List (String × DataW Unit) := Rows.crcSumsRow.laid
abbrev nameT : String := (laidList.getD 0 ("", .nil)).1
theorem globT : Tryd.prog.globalNamed nameT = some 0 := by kernel_rfl
theorem typeT : (Tryd.prog.globals[0]?).map (·.type) = some 43 := by kernel_rfl
/-- A cell that is one number. -/
theorem one_of {cs : List Value} {w : World} {fuel base : Nat} {sp : Nat → Bool} {held : Bool} {k : IntKind} {t : TypeId} {x : Int} {y : DataW Unit × List MemPlace} (ht : Tryd.prog.underlying t = some (.int k))
    (h : DataW.trod (fun _ => ()) Tryd.prog w base sp held fuel t cs = some y) (hy : y.1 = .lit (.int k x)) : cs = [.int k x] := by
  obtain ⟨m0, c0, x0, -⟩ := DataW.trod_int ht h
  rw [x0] at hy
  simp only [DataW.lit.injEq, Lit.int.injEq, true_and] at hy
  subst hy
  exact c0
/-- The listed row. -/
abbrev stepD : List (DataW Unit) := (List.range 16).map fun (i : Nat) => .lit (.int .u32 ((LK 4 i : Nat) : Int))
theorem laidT : (Rows.laid_pilcrow_crc_steps : DataW Unit) = .agg stepD := by kernel_rfl
theorem memT : (nameT, (Rows.laid_pilcrow_crc_steps : DataW Unit)) ∈ laidList := List.Mem.head _
/-- All package-level variables have their blocks. -/
theorem all_of {w : World} (h : w.ShapedOpen Tryd.prog) : 1 ≤ w.heap.size := by
  obtain ⟨o, o₀, h1, -⟩ := h.2 1 (Nat.le_of_eq (by kernel_rfl)) (Nat.le_of_ble_eq_true (by kernel_rfl))
  exact Nat.le_of_lt (Array.getElem?_eq_some_iff.1 h1).1
theorem tabs_of {w : World} (h : laidMetH Tryd.prog laidList w) (hs : w.ShapedOpen Tryd.prog) : Tabs w := by
  rw [MakeChecks.laidMetH_plain _ _ _ (by kernel_rfl)] at h
  refine ⟨fun i hi => ?_, all_of hs⟩
  obtain ⟨g, t, cs, fuel, p, hg, hty, hvar, hd⟩ := Lib.laidMet.reads h memT
  obtain rfl := Option.some.inj (globT.symm.trans hg)
  obtain rfl := Option.some.inj (typeT.symm.trans hty)
  rw [laidT] at hd
  obtain ⟨fuel', d, q, hdi, he⟩ := array_elem Tryd.underlying43 hd i hi
  simp only [stepD, List.getElem?_map, List.getElem?_range hi, Option.map_some, Option.some.injEq] at hdi
  subst hdi
  rw [cells32] at he
  have g0 := congrArg (·[0]?) (one_of Tryd.underlying22 he rfl)
  simp only [List.getElem?_take, List.getElem?_drop] at g0
  rw [World.var?_cell hg hvar i, ← Array.getElem?_toList]; simpa using g0
/-- The table as a block. -/
def lay0 : Obj → Obj
  | .cells _ t frozen => .cells #[.int .u32 0, .int .u32 498536548, .int .u32 997073096, .int .u32 651767980, .int .u32 1994146192, .int .u32 1802195444, .int .u32 1303535960, .int .u32 1342533948, .int .u32 3988292384, .int .u32 4027552580, .int .u32 3604390888, .int .u32 3412177804, .int .u32 2607071920, .int .u32 2262029012, .int .u32 2685067896, .int .u32 3183342108] t frozen
  | o => o
set_option maxRecDepth 100000 in
theorem laid_met (os : Os) (args : Array Value) : laidMet Tryd.prog laidList ((({ World.holding Tryd.prog os ⟨#[], #[], []⟩ with heap := (World.holding Tryd.prog os ⟨#[], #[], []⟩).heap.modify 0 Crc.lay0 } : World)).forCall (fun _ _ => 0) ⟨#[], args, []⟩).memory :=
  laidMet_of_run' 8 (by kernel_rfl) (by kernel_rfl)
end Crc
end Go.Proofs.YtlgblkhkohhhkaaDoor
