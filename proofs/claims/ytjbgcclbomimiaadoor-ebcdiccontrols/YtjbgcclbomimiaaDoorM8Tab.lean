/-
  The program's table, as the row lists it, is the table that the walks read; and a world that holds it. No statement of the program; no condition.
-/
import Derived.Test.YtjbgcclbomimiaaDoorM8Row
import Derived.Test.YtjbgcclbomimiaaDoorCards
import Derived.Test.YtjbgcclbomimiaaDoorTie
import Derived.Lib.LaidU8
import Derived.ChangeSame
import Derived.Deep.DeepHandedRow
import Derived.SevenTiedAt
namespace Go.Proofs.YtjbgcclbomimiaaDoor
open Go.ChangeShapes Go.WideShapes Go.ChangeAt Go.RowKit
namespace M8
open Bas Sca Lib

theorem cells8 : Tryd.prog.cellsOf 5 = 1 := by kernel_rfl
theorem cells32 : Tryd.prog.cellsOf 43 = 1 := by kernel_rfl
theorem cellsR : Tryd.prog.cellsOf 135 = 2 := by kernel_rfl
abbrev laidList : List (String × DataW Unit) := Rows.mod8ReadsRow.laid
abbrev nameR : String := (laidList.getD 0 ("", .nil)).1
theorem glob : Tryd.prog.globalNamed nameR = some 0 := by kernel_rfl
theorem globT : (Tryd.prog.globals[0]?).map (·.type) = some 136 := by kernel_rfl
theorem memR : (nameR, (Rows.laid_pilcrow_mod8_rows : DataW Unit)) ∈ laidList := List.Mem.head _
/-- One row of the table. -/
theorem row_at {cs : List Value} {w : World} {fuel : Nat} {a b : Int} {q : List MemPlace} {base : Nat} {sp : Nat → Bool} {held : Bool}
    (h : DataW.trod (fun _ => ()) Tryd.prog w base sp held fuel 135 cs = some (.agg [.lit (.int .u32 a), .lit (.int .u8 b)], q)) : cs[0]? = some (.int .u32 a) ∧ cs[1]? = some (.int .u8 b) := by
  obtain ⟨y0, y1, n, hx, hl, h0, h1⟩ := trod_struct2 Tryd.underlying135 h
  simp only [Prod.mk.injEq, DataW.agg.injEq, List.cons.injEq, and_true] at hx
  obtain ⟨⟨e0, e1⟩, -⟩ := hx
  obtain ⟨m0, c0, x0, -⟩ := DataW.trod_int Tryd.underlying43 h0
  obtain ⟨m1, c1, x1, -⟩ := DataW.trod_int Tryd.underlying5 h1
  rw [x0] at e0
  rw [x1] at e1
  simp only [DataW.lit.injEq, Lit.int.injEq, true_and] at e0 e1
  subst e0 e1
  have g0 := congrArg (·[0]?) c0
  have g1 := congrArg (·[0]?) c1
  simp only [cells8, cells32, List.getElem?_take, List.getElem?_drop] at g0 g1
  exact ⟨by simpa using g0, by simpa using g1⟩
theorem tabs_of {w : World} (h : laidMetH Tryd.prog laidList w) : Tabs w := by
  rw [MakeChecks.laidMetH_plain _ _ _ (by kernel_rfl)] at h
  obtain ⟨g, t, cs, fuel, p, hg, hty, hvar, hd⟩ := Lib.laidMet.reads h memR
  obtain rfl := Option.some.inj (glob.symm.trans hg)
  obtain rfl := Option.some.inj (globT.symm.trans hty)
  have hrow : ∀ (i : Nat) (a b : Int), i < 5 → ((Rows.laid_pilcrow_mod8_rows : DataW Unit) = .agg [.agg [.lit (.int .u32 0), .lit (.int .u8 0)], .agg [.lit (.int .u32 160), .lit (.int .u8 192)], .agg [.lit (.int .u32 1024), .lit (.int .u8 224)], .agg [.lit (.int .u32 16384), .lit (.int .u8 240)], .agg [.lit (.int .u32 262144), .lit (.int .u8 248)]]) →
      ([.agg [.lit (.int .u32 0), .lit (.int .u8 0)], .agg [.lit (.int .u32 160), .lit (.int .u8 192)], .agg [.lit (.int .u32 1024), .lit (.int .u8 224)], .agg [.lit (.int .u32 16384), .lit (.int .u8 240)], .agg [.lit (.int .u32 262144), .lit (.int .u8 248)]] : List (DataW Unit))[i]? = some (.agg [.lit (.int .u32 a), .lit (.int .u8 b)]) →
      w.cell? ⟨0, 2 * i, none⟩ = some (.int .u32 a) ∧ w.cell? ⟨0, 2 * i + 1, none⟩ = some (.int .u8 b) := by
    intro i a b hi hR hia
    rw [hR] at hd
    obtain ⟨fuel', d, q, hdi, he⟩ := array_elem Tryd.underlying136 hd i hi
    rw [hdi] at hia
    obtain rfl := Option.some.inj hia
    rw [cellsR] at he
    obtain ⟨g0, g1⟩ := row_at he
    simp only [List.getElem?_take, List.getElem?_drop] at g0 g1
    constructor
    · rw [World.var?_cell hg hvar (2 * i), ← Array.getElem?_toList]
      simpa [Nat.mul_comm] using g0
    · rw [World.var?_cell hg hvar (2 * i + 1), ← Array.getElem?_toList]
      simpa [Nat.mul_comm] using g1
  obtain ⟨a0, b0⟩ := hrow 0 0 0 (by omega) rfl rfl
  obtain ⟨a1, b1⟩ := hrow 1 160 192 (by omega) rfl rfl
  obtain ⟨a2, b2⟩ := hrow 2 1024 224 (by omega) rfl rfl
  obtain ⟨a3, b3⟩ := hrow 3 16384 240 (by omega) rfl rfl
  obtain ⟨a4, b4⟩ := hrow 4 262144 248 (by omega) rfl rfl
  exact ⟨a0, b0, a1, b1, a2, b2, a3, b3, a4, b4⟩
/-- The table as a block. -/
def lay0 : Obj → Obj
  | .cells _ t frozen => .cells #[.int .u32 0, .int .u8 0, .int .u32 160, .int .u8 192, .int .u32 1024, .int .u8 224, .int .u32 16384, .int .u8 240, .int .u32 262144, .int .u8 248] t frozen
  | o => o
set_option maxRecDepth 100000 in
theorem laid_met (os : Os) (args : Array Value) : laidMet Tryd.prog laidList ((({ World.holding Tryd.prog os ⟨#[], #[], []⟩ with heap := ((World.holding Tryd.prog os ⟨#[], #[], []⟩).heap.modify 0 M8.lay0) } : World)).forCall (fun _ _ => 0) ⟨#[], args, []⟩).memory :=
  laidMet_of_run' 8 (by kernel_rfl) (by kernel_rfl)
end M8
end Go.Proofs.YtjbgcclbomimiaaDoor
