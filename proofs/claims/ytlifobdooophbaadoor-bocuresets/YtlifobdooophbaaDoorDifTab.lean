/-
  The program's two tables of layer 11, as the row lists them, are the tables that the walks read; and a world that holds them. No statement of the program; no condition.
-/
import Derived.Test.YtlifobdooophbaaDoorDif1
import Derived.Test.YtlifobdooophbaaDoorCards
import Derived.Test.YtlifobdooophbaaDoorTie
import Derived.Lib.LaidU8
import Derived.Lib.SmallJoins
import Derived.ChangeSame
import Derived.Deep.Strs
import Derived.Deep.DeepHandedRow
import Derived.SevenTiedAt
namespace Go.Proofs.YtlifobdooophbaaDoor
open Go.ChangeShapes Go.WideShapes Go.ChangeAt Go.RowKit
namespace Dif
open Bas Lib

theorem cells8 : Tryd.prog.cellsOf 5 = 1 := by kernel_rfl
theorem cells64 : Tryd.prog.cellsOf 3 = 1 := by kernel_rfl
theorem cellsL : Tryd.prog.cellsOf 124 = 4 := by kernel_rfl
theorem cellsR : Tryd.prog.cellsOf 132 = 3 := by kernel_rfl
abbrev laidList : List (String × DataW Unit) := Rows.bocuReadsRow.laid
abbrev nameL : String := (laidList.getD 0 ("", .nil)).1
abbrev nameR : String := (laidList.getD 1 ("", .nil)).1
theorem globL : Tryd.prog.globalNamed nameL = some 0 := by kernel_rfl
theorem globR : Tryd.prog.globalNamed nameR = some 1 := by kernel_rfl
theorem typeL : (Tryd.prog.globals[0]?).map (·.type) = some 125 := by kernel_rfl
theorem typeR : (Tryd.prog.globals[1]?).map (·.type) = some 133 := by kernel_rfl
/-- One cell of a struct, a number. -/
theorem cell_at {k : IntKind} {t : TypeId} {cs : List Value} {w : World} {fuel base n : Nat} {sp : Nat → Bool} {held : Bool} {x : Int} {y : DataW Unit × List MemPlace} (hu : Tryd.prog.underlying t = some (.int k)) (hz : Tryd.prog.cellsOf t = 1)
    (h : DataW.trod (fun _ => ()) Tryd.prog w base sp held fuel t ((cs.drop n).take (Tryd.prog.cellsOf t)) = some y) (hy : y.1 = .lit (.int k x)) : cs[n]? = some (.int k x) := by
  obtain ⟨m0, c0, x0, -⟩ := DataW.trod_int hu h
  rw [x0] at hy
  simp only [DataW.lit.injEq, Lit.int.injEq, true_and] at hy
  subst hy
  have g0 := congrArg (·[0]?) c0
  simp only [hz, List.getElem?_take, List.getElem?_drop] at g0
  simpa using g0
theorem lead_of {cs : List Value} {w : World} {fuel base : Nat} {a b c d : Int} {q : List MemPlace} {sp : Nat → Bool} {held : Bool}
    (h : DataW.trod (fun _ => ()) Tryd.prog w base sp held fuel 124 cs = some (.agg [.lit (.int .u8 a), .lit (.int .u8 b), .lit (.int .i64 c), .lit (.int .i64 d)], q)) :
    cs[0]? = some (.int .u8 a) ∧ cs[1]? = some (.int .u8 b) ∧ cs[2]? = some (.int .i64 c) ∧ cs[3]? = some (.int .i64 d) := by
  obtain ⟨y0, y1, y2, y3, n, hx, hl, h0, h1, h2, h3⟩ := Joins.trod_struct4 Tryd.underlying124 h
  simp only [Prod.mk.injEq, DataW.agg.injEq, List.cons.injEq, and_true] at hx
  obtain ⟨⟨e0, e1, e2, e3⟩, -⟩ := hx
  exact ⟨cell_at (n := 0) Tryd.underlying5 cells8 h0 e0.symm, cell_at (n := 1) Tryd.underlying5 cells8 h1 e1.symm, cell_at (n := 2) Tryd.underlying3 cells64 h2 e2.symm, cell_at (n := 3) Tryd.underlying3 cells64 h3 e3.symm⟩
theorem run_of {cs : List Value} {w : World} {fuel base : Nat} {a b c : Int} {q : List MemPlace} {sp : Nat → Bool} {held : Bool}
    (h : DataW.trod (fun _ => ()) Tryd.prog w base sp held fuel 132 cs = some (.agg [.lit (.int .u8 a), .lit (.int .u8 b), .lit (.int .i64 c)], q)) :
    cs[0]? = some (.int .u8 a) ∧ cs[1]? = some (.int .u8 b) ∧ cs[2]? = some (.int .i64 c) := by
  obtain ⟨y0, y1, y2, n, hx, hl, h0, h1, h2⟩ := Deep.trod_struct3 Tryd.underlying132 h
  simp only [Prod.mk.injEq, DataW.agg.injEq, List.cons.injEq, and_true] at hx
  obtain ⟨⟨e0, e1, e2⟩, -⟩ := hx
  exact ⟨cell_at (n := 0) Tryd.underlying5 cells8 h0 e0.symm, cell_at (n := 1) Tryd.underlying5 cells8 h1 e1.symm, cell_at (n := 2) Tryd.underlying3 cells64 h2 e2.symm⟩
/-- The listed rows. -/
abbrev leadsD : List (DataW Unit) := (List.range 7).map fun i => .agg [.lit (.int .u8 (fromI i)), .lit (.int .u8 (toI i)), .lit (.int .i64 (trN i)), .lit (.int .i64 (leastI i))]
abbrev runsD : List (DataW Unit) := (List.range 4).map fun i => .agg [.lit (.int .u8 (rfI i)), .lit (.int .u8 (rtI i)), .lit (.int .i64 (rwI i))]
theorem laidL : (Rows.laid_pilcrow_diff_leads : DataW Unit) = .agg leadsD := by rfl
theorem laidR : (Rows.laid_pilcrow_diff_runs : DataW Unit) = .agg runsD := by rfl
theorem memL : (nameL, (Rows.laid_pilcrow_diff_leads : DataW Unit)) ∈ laidList := List.Mem.head _
theorem memR : (nameR, (Rows.laid_pilcrow_diff_runs : DataW Unit)) ∈ laidList := List.Mem.tail _ (List.Mem.head _)
theorem tabs_of {w : World} (h : laidMetH Tryd.prog laidList w) : Tabs w := by
  rw [MakeChecks.laidMetH_plain _ _ _ (by kernel_rfl)] at h
  have hL : ∀ i, i < 7 → w.cell? ⟨0, i * 4, none⟩ = some (.int .u8 (fromI i)) ∧ w.cell? ⟨0, i * 4 + 1, none⟩ = some (.int .u8 (toI i)) ∧ w.cell? ⟨0, i * 4 + 2, none⟩ = some (.int .i64 (trN i)) ∧ w.cell? ⟨0, i * 4 + 3, none⟩ = some (.int .i64 (leastI i)) := by
    intro i hi
    obtain ⟨g, t, cs, fuel, p, hg, hty, hvar, hd⟩ := Lib.laidMet.reads h memL
    obtain rfl := Option.some.inj (globL.symm.trans hg)
    obtain rfl := Option.some.inj (typeL.symm.trans hty)
    rw [laidL] at hd
    obtain ⟨fuel', d, q, hdi, he⟩ := array_elem Tryd.underlying125 hd i hi
    simp only [leadsD, List.getElem?_map, List.getElem?_range hi, Option.map_some, Option.some.injEq] at hdi
    subst hdi
    rw [cellsL] at he
    obtain ⟨g0, g1, g2, g3⟩ := lead_of he
    simp only [List.getElem?_take, List.getElem?_drop] at g0 g1 g2 g3
    refine ⟨?_, ?_, ?_, ?_⟩
    · rw [World.var?_cell hg hvar (i * 4), ← Array.getElem?_toList]; simpa using g0
    · rw [World.var?_cell hg hvar (i * 4 + 1), ← Array.getElem?_toList]; simpa using g1
    · rw [World.var?_cell hg hvar (i * 4 + 2), ← Array.getElem?_toList]; simpa using g2
    · rw [World.var?_cell hg hvar (i * 4 + 3), ← Array.getElem?_toList]; simpa using g3
  have hR : ∀ i, i < 4 → w.cell? ⟨1, i * 3, none⟩ = some (.int .u8 (rfI i)) ∧ w.cell? ⟨1, i * 3 + 1, none⟩ = some (.int .u8 (rtI i)) ∧ w.cell? ⟨1, i * 3 + 2, none⟩ = some (.int .i64 (rwI i)) := by
    intro i hi
    obtain ⟨g, t, cs, fuel, p, hg, hty, hvar, hd⟩ := Lib.laidMet.reads h memR
    obtain rfl := Option.some.inj (globR.symm.trans hg)
    obtain rfl := Option.some.inj (typeR.symm.trans hty)
    rw [laidR] at hd
    obtain ⟨fuel', d, q, hdi, he⟩ := array_elem Tryd.underlying133 hd i hi
    simp only [runsD, List.getElem?_map, List.getElem?_range hi, Option.map_some, Option.some.injEq] at hdi
    subst hdi
    rw [cellsR] at he
    obtain ⟨g0, g1, g2⟩ := run_of he
    simp only [List.getElem?_take, List.getElem?_drop] at g0 g1 g2
    refine ⟨?_, ?_, ?_⟩
    · rw [World.var?_cell hg hvar (i * 3), ← Array.getElem?_toList]; simpa using g0
    · rw [World.var?_cell hg hvar (i * 3 + 1), ← Array.getElem?_toList]; simpa using g1
    · rw [World.var?_cell hg hvar (i * 3 + 2), ← Array.getElem?_toList]; simpa using g2
  exact ⟨fun i hi => (hL i hi).1, fun i hi => (hL i hi).2.1, fun i hi => (hL i hi).2.2.1, fun i hi => (hL i hi).2.2.2, fun i hi => (hR i hi).1, fun i hi => (hR i hi).2.1, fun i hi => (hR i hi).2.2⟩
/-- The tables as blocks. -/
def lay0 : Obj → Obj
  | .cells _ t frozen => .cells #[.int .u8 33, .int .u8 33, .int .i64 3, .int .i64 (-14536567), .int .u8 34, .int .u8 36, .int .i64 2, .int .i64 (-187660), .int .u8 37, .int .u8 79, .int .i64 1, .int .i64 (-10513), .int .u8 80, .int .u8 207, .int .i64 0, .int .i64 (-64), .int .u8 208, .int .u8 250, .int .i64 1, .int .i64 64, .int .u8 251, .int .u8 253, .int .i64 2, .int .i64 10513, .int .u8 254, .int .u8 254, .int .i64 3, .int .i64 187660] t frozen
  | o => o
def lay1 : Obj → Obj
  | .cells _ t frozen => .cells #[.int .u8 1, .int .u8 6, .int .i64 0, .int .u8 16, .int .u8 25, .int .i64 6, .int .u8 28, .int .u8 31, .int .i64 16, .int .u8 33, .int .u8 255, .int .i64 20] t frozen
  | o => o
set_option maxRecDepth 100000 in
theorem laid_met (os : Os) (args : Array Value) : laidMet Tryd.prog laidList ((({ World.holding Tryd.prog os ⟨#[], #[], []⟩ with heap := (((World.holding Tryd.prog os ⟨#[], #[], []⟩).heap.modify 0 Dif.lay0).modify 1 Dif.lay1) } : World)).forCall (fun _ _ => 0) ⟨#[], args, []⟩).memory :=
  laidMet_of_run' 8 (by kernel_rfl) (by kernel_rfl)
end Dif
end Go.Proofs.YtlifobdooophbaaDoor
