/-
  The program's two tables of layer 13, as the row lists them, are the tables that the walks read; and a world that holds them. No statement of the program; no condition.
-/
import Derived.Test.YtpglmfhlgaliaaaDoorCP2
import Derived.Test.YtpglmfhlgaliaaaDoorCards
import Derived.Test.YtpglmfhlgaliaaaDoorTie
import Derived.Lib.LaidU8
import Derived.Lib.SmallJoins
import Derived.ChangeSame
import Derived.Deep.Strs
import Derived.Deep.DeepHandedRow
import Derived.SevenTiedAt
namespace Go.Proofs.YtpglmfhlgaliaaaDoor
open Go.ChangeShapes Go.WideShapes Go.ChangeAt Go.RowKit
namespace CP
open Bas Lib Win

theorem cells32 : Tryd.prog.cellsOf 35 = 1 := by kernel_rfl
abbrev laidList : List (String × DataW Unit) := Rows.compressBackRow.laid
abbrev nameS : String := (laidList.getD 0 ("", .nil)).1
abbrev nameN : String := (laidList.getD 1 ("", .nil)).1
theorem globS : Tryd.prog.globalNamed nameS = some 1 := by kernel_rfl
theorem globN : Tryd.prog.globalNamed nameN = some 0 := by kernel_rfl
theorem typeS : (Tryd.prog.globals[1]?).map (·.type) = some 76 := by kernel_rfl
theorem typeN : (Tryd.prog.globals[0]?).map (·.type) = some 119 := by kernel_rfl
/-- A cell that is one number. -/
theorem one_of' {cs : List Value} {w : World} {fuel base : Nat} {sp : Nat → Bool} {held : Bool} {k : IntKind} {t : TypeId} {x : Int} {y : DataW Unit × List MemPlace} (ht : Tryd.prog.underlying t = some (.int k))
    (h : DataW.trod (fun _ => ()) Tryd.prog w base sp held fuel t cs = some y) (hy : y.1 = .lit (.int k x)) : cs = [.int k x] := by
  obtain ⟨m0, c0, x0, -⟩ := DataW.trod_int ht h
  rw [x0] at hy
  simp only [DataW.lit.injEq, Lit.int.injEq, true_and] at hy
  subst hy
  exact c0
/-- The listed rows. -/
abbrev namedD : List (DataW Unit) := (List.range 7).map fun (i : Nat) => .lit (.int .u32 (fixI (249 + (i : Int))))
abbrev staticD : List (DataW Unit) := (List.range 8).map fun (i : Nat) => .lit (.int .u32 (nth statL i))
theorem laidN : (Rows.laid_pilcrow_window_named : DataW Unit) = .agg namedD := by rfl
theorem laidS : (Rows.laid_pilcrow_window_static : DataW Unit) = .agg staticD := by rfl
theorem memS : (nameS, (Rows.laid_pilcrow_window_static : DataW Unit)) ∈ laidList := List.Mem.head _
theorem memN : (nameN, (Rows.laid_pilcrow_window_named : DataW Unit)) ∈ laidList := List.Mem.tail _ (List.Mem.head _)
theorem tabs_of {w : World} (h : laidMetH Tryd.prog laidList w) : Tabs w := by
  rw [MakeChecks.laidMetH_plain _ _ _ (by kernel_rfl)] at h
  have hN : ∀ i : Nat, i < 7 → w.cell? ⟨0, i, none⟩ = some (.int .u32 (fixI (249 + (i : Int)))) := fun i hi => by
    obtain ⟨g, t, cs, fuel, p, hg, hty, hvar, hd⟩ := Lib.laidMet.reads h memN
    obtain rfl := Option.some.inj (globN.symm.trans hg)
    obtain rfl := Option.some.inj (typeN.symm.trans hty)
    rw [laidN] at hd
    obtain ⟨fuel', d, q, hdi, he⟩ := array_elem Tryd.underlying119 hd i hi
    simp only [namedD, List.getElem?_map, List.getElem?_range hi, Option.map_some, Option.some.injEq] at hdi
    subst hdi
    rw [cells32] at he
    have g0 := congrArg (·[0]?) (one_of' Tryd.underlying35 he rfl)
    simp only [List.getElem?_take, List.getElem?_drop] at g0
    rw [World.var?_cell hg hvar i, ← Array.getElem?_toList]; simpa using g0
  have hS : ∀ i : Nat, i < 8 → w.cell? ⟨1, i, none⟩ = some (.int .u32 (nth statL i)) := fun i hi => by
    obtain ⟨g, t, cs, fuel, p, hg, hty, hvar, hd⟩ := Lib.laidMet.reads h memS
    obtain rfl := Option.some.inj (globS.symm.trans hg)
    obtain rfl := Option.some.inj (typeS.symm.trans hty)
    rw [laidS] at hd
    obtain ⟨fuel', d, q, hdi, he⟩ := array_elem Tryd.underlying76 hd i hi
    simp only [staticD, List.getElem?_map, List.getElem?_range hi, Option.map_some, Option.some.injEq] at hdi
    subst hdi
    rw [cells32] at he
    have g0 := congrArg (·[0]?) (one_of' Tryd.underlying35 he rfl)
    simp only [List.getElem?_take, List.getElem?_drop] at g0
    rw [World.var?_cell hg hvar i, ← Array.getElem?_toList]; simpa using g0
  exact ⟨⟨hN, hS⟩, World.block_lt_of_cell? w _ (hS 0 (by decide))⟩
/-- The tables as blocks. -/
def layN : Obj → Obj
  | .cells _ t frozen => .cells #[.int .u32 192, .int .u32 592, .int .u32 880, .int .u32 1328, .int .u32 12352, .int .u32 12448, .int .u32 65376] t frozen
  | o => o
def layS : Obj → Obj
  | .cells _ t frozen => .cells #[.int .u32 0, .int .u32 128, .int .u32 256, .int .u32 768, .int .u32 8192, .int .u32 8320, .int .u32 8448, .int .u32 12288] t frozen
  | o => o
set_option maxRecDepth 100000 in
theorem laid_met (os : Os) (args : Array Value) : laidMet Tryd.prog laidList ((({ World.holding Tryd.prog os ⟨#[], #[], []⟩ with heap := (((World.holding Tryd.prog os ⟨#[], #[], []⟩).heap.modify 0 CP.layN).modify 1 CP.layS) } : World)).forCall (fun _ _ => 0) ⟨#[], args, []⟩).memory :=
  laidMet_of_run' 8 (by kernel_rfl) (by kernel_rfl)
end CP
end Go.Proofs.YtpglmfhlgaliaaaDoor
