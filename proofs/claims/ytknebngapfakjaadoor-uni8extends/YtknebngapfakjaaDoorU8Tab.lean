/-
  The library's two tables, as the row lists them, are the tables that the walks read; and a world that holds them. No statement of the program; no condition.
-/
import Derived.Test.YtknebngapfakjaaDoorU8Lib
import Derived.Test.YtknebngapfakjaaDoorCards
import Derived.Test.YtknebngapfakjaaDoorTie
import Derived.Lib.LaidU8T
import Derived.PinnedBridge
import Derived.Deep.DeepHandedRow
import Derived.SevenTiedAt
namespace Go.Proofs.YtknebngapfakjaaDoor
open Go.ChangeShapes Go.WideShapes Go.ChangeAt Go.RowKit
namespace U8
open Bas Sca

/-- The numbering that the library's bridge asks. -/
def ren : Shelf.Ren := ⟨fun x => x, fun x => if x = 5 then 5 else if x = 119 then 108 else if x = 138 then 110 else 111, fun x => if x = 3 then 0 else 1⟩
theorem types : U8Types Tryd.prog ren := ⟨by kernel_rfl, by kernel_rfl, by kernel_rfl, by kernel_rfl⟩
theorem extra : U8Extra Tryd.prog ren := ⟨by kernel_rfl, by kernel_rfl, by kernel_rfl, by kernel_rfl, by kernel_rfl, by kernel_rfl, by kernel_rfl⟩
theorem first_eq : ∀ c : Fin 256, ((Lib.firstT c.val : Nat) : Int) = firstN c.val := by decide +kernel
abbrev laidList : List (String × DataW Unit) := Rows.uni8ReadsRow.laid
abbrev nameA : String := (laidList.getD 0 ("", .nil)).1
abbrev nameF : String := (laidList.getD 1 ("", .nil)).1
theorem memA : (nameA, (Rows.laid_unicode_utf8_acceptRanges : DataW Unit)) ∈ laidList := List.Mem.head _
theorem memF : (nameF, (Rows.laid_unicode_utf8_first : DataW Unit)) ∈ laidList := List.Mem.tail _ (List.Mem.head _)
theorem accept_eq : (Rows.laid_unicode_utf8_acceptRanges : DataW Unit) = Lib.acceptData := by kernel_rfl
theorem tabs_of {w : World} (h : laidMetH Tryd.prog laidList w) : Tabs w := by
  rw [MakeChecks.laidMetH_plain _ _ _ (by kernel_rfl)] at h
  have h3 := Lib.laidMet.reads h memF
  have h4 := Lib.laidMet.reads h memA
  rw [show Rows.laid_unicode_utf8_first = Lib.firstData from Pinned.utf8First_eq] at h3
  rw [accept_eq] at h4
  obtain ⟨t1, t2⟩ := utf8Tabs_of_readsT types extra h3 h4
  refine ⟨fun c hc => ?_, (t2 0 (by omega)).1, (t2 0 (by omega)).2, (t2 1 (by omega)).1, (t2 1 (by omega)).2, (t2 2 (by omega)).1, (t2 2 (by omega)).2, (t2 3 (by omega)).1, (t2 3 (by omega)).2, (t2 4 (by omega)).1, (t2 4 (by omega)).2⟩
  have := t1 c hc
  rw [show ((Lib.firstT c : Nat) : Int) = firstN c from first_eq ⟨c, hc⟩] at this
  exact this
/-- The tables as blocks. -/
def lay0 : Obj → Obj
  | .cells _ t frozen => .cells (((List.range 256).map fun c => Value.int .u8 (firstN c)).toArray) t frozen
  | o => o
def lay1 : Obj → Obj
  | .cells _ t frozen => .cells (((List.range 16).map fun i => [Value.int .u8 (Lib.accLo i), Value.int .u8 (Lib.accHi i)]).flatten.toArray) t frozen
  | o => o
set_option maxRecDepth 100000 in
theorem laid_met (os : Os) (args : Array Value) : laidMet Tryd.prog laidList ((({ World.holding Tryd.prog os ⟨#[], #[], []⟩ with heap := (((World.holding Tryd.prog os ⟨#[], #[], []⟩).heap.modify 0 U8.lay0).modify 1 U8.lay1) } : World)).forCall (fun _ _ => 0) ⟨#[], args, []⟩).memory :=
  laidMet_of_run' 8 (by kernel_rfl) (by kernel_rfl)
end U8
end Go.Proofs.YtknebngapfakjaaDoor
