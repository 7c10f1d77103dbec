/-
  NARROWER THAN 'FOR EVERY INPUT', by the rows' own cells (each row's printed sentence says how): WindowTables: laid · WindowIndexes: laid · WindowPairs: laid · WindowPlays: laid · WindowOrder: laid.
  DERIVED. THE GIVEN ROWS OF THIS SEAT. 5 by the template 'for every input the law returns true; each argument reads behind the call as it read before'; 0 by the template 'total and deterministic' (their statements: YtgjmnghgpjfjmaaDoorTotals.lean).
  GIVEN WITH THE SEED: the statements are not yours to turn. If you find one false, say at which input.
  Laid BY PROGRAM, IN A SANDBOX (cutbox-rows.mjs): the forced cells as the released guide's own fill.sh prints them over the translation 8d79f752252d2f56… (all of the seat's roots in one cut). By AI agents, Wed Nov 11 2026. No macro, syntax, notation, axiom, sorry.
-/
import Derived.Test.YtgjmnghgpjfjmaaDoorChecked
import GoSem.Claim
import GoSem.ClaimJoined
import GoSem.ClaimMapViews
import Derived.JoinedTies
import Derived.KernelRfl
namespace Go.Proofs.YtgjmnghgpjfjmaaDoor
/- THE CELL 'sum', in the pinned program and in every row, IS THE sha256 OF THE DUMP (.gsa) THAT YtgjmnghgpjfjmaaDoorProg.lean LOADS. Nothing in Lean hashes anything: it is a label: what it is worth is what the hold of that sum in a sandbox is worth. -/
noncomputable def Tryd.pinned : Pinned := { name := "ytgjmnghgpjfjmaadoor", sum := "8d79f752252d2f56e62ba97bb691c80bf6bce0efcf7311f5d6e0effa24c1b441", checked := Tryd.checked }
namespace Rows
def none {H : Type} : Left H := { results := [], args := [] }

/- WHAT THE LISTED PACKAGE-LEVEL VARIABLES READ AS WHEN THE CALL BEGINS. Each datum BY PROGRAM (the guide's laid-datum.mjs) off the statement by which the dump's own 'gosem.cut.vars' lays the variable. In a bare row this is a premise. The card (YtgjmnghgpjfjmaaDoorCards.lean) ties it to the program's text. -/
def laid_pilcrow_window_static {H : Type} : DataW H := .agg [.lit (.int .u32 0), .lit (.int .u32 128), .lit (.int .u32 256), .lit (.int .u32 768), .lit (.int .u32 8192), .lit (.int .u32 8320), .lit (.int .u32 8448), .lit (.int .u32 12288)]
def laid_pilcrow_window_named {H : Type} : DataW H := .agg [.lit (.int .u32 192), .lit (.int .u32 592), .lit (.int .u32 880), .lit (.int .u32 1328), .lit (.int .u32 12352), .lit (.int .u32 12448), .lit (.int .u32 65376)]

/-- 'pilcrowlaw13.WindowTables': WHATEVER THE INPUT: true; the input reads as it did. -/
def windowTablesSpec : ChangeSpec := { name := "windowTables", fn := fun _ => fun
  | [d1, d2, d3] => { results := [.lit (.bool true)], args := [d1, d2, d3] }
  | _ => none }
def windowTablesRow : OpenClaim := { program := "ytgjmnghgpjfjmaadoor", sum := "8d79f752252d2f56e62ba97bb691c80bf6bce0efcf7311f5d6e0effa24c1b441", func := "pilcrow/pilcrowlaw13.WindowTables", spec := "windowTables", named := ["pilcrow/window.named", "pilcrow/window.static"], apart := false, laid := [("pilcrow/window.static", laid_pilcrow_window_static), ("pilcrow/window.named", laid_pilcrow_window_named)] }
def WindowTablesSaid : Prop := windowTablesRow.holds Tryd.pinned (OpenSpec.ofChange windowTablesSpec)

/-- ITS FALSE NEIGHBOUR: 'it returns false'. Refute it at one input. -/
def windowTablesWrong : ChangeSpec := { name := "windowTables", fn := fun _ => fun
  | [d1, d2, d3] => { results := [.lit (.bool false)], args := [d1, d2, d3] }
  | _ => none }
def WindowTablesWrongFalsely : Prop := windowTablesRow.holds Tryd.pinned (OpenSpec.ofChange windowTablesWrong)

/-- 'pilcrowlaw13.WindowIndexes': WHATEVER THE INPUT: true; the input reads as it did. -/
def windowIndexesSpec : ChangeSpec := { name := "windowIndexes", fn := fun _ => fun
  | [d] => { results := [.lit (.bool true)], args := [d] }
  | _ => none }
def windowIndexesRow : OpenClaim := { program := "ytgjmnghgpjfjmaadoor", sum := "8d79f752252d2f56e62ba97bb691c80bf6bce0efcf7311f5d6e0effa24c1b441", func := "pilcrow/pilcrowlaw13.WindowIndexes", spec := "windowIndexes", named := ["pilcrow/window.named", "pilcrow/window.static"], apart := false, laid := [("pilcrow/window.static", laid_pilcrow_window_static), ("pilcrow/window.named", laid_pilcrow_window_named)] }
def WindowIndexesSaid : Prop := windowIndexesRow.holds Tryd.pinned (OpenSpec.ofChange windowIndexesSpec)

/-- ITS FALSE NEIGHBOUR: 'it returns false'. Refute it at one input. -/
def windowIndexesWrong : ChangeSpec := { name := "windowIndexes", fn := fun _ => fun
  | [d] => { results := [.lit (.bool false)], args := [d] }
  | _ => none }
def WindowIndexesWrongFalsely : Prop := windowIndexesRow.holds Tryd.pinned (OpenSpec.ofChange windowIndexesWrong)

/-- 'pilcrowlaw13.WindowPairs': WHATEVER THE INPUT: true; the input reads as it did. -/
def windowPairsSpec : ChangeSpec := { name := "windowPairs", fn := fun _ => fun
  | [d1, d2, d3] => { results := [.lit (.bool true)], args := [d1, d2, d3] }
  | _ => none }
def windowPairsRow : OpenClaim := { program := "ytgjmnghgpjfjmaadoor", sum := "8d79f752252d2f56e62ba97bb691c80bf6bce0efcf7311f5d6e0effa24c1b441", func := "pilcrow/pilcrowlaw13.WindowPairs", spec := "windowPairs", named := ["pilcrow/window.named", "pilcrow/window.static"], apart := false, laid := [("pilcrow/window.static", laid_pilcrow_window_static), ("pilcrow/window.named", laid_pilcrow_window_named)] }
def WindowPairsSaid : Prop := windowPairsRow.holds Tryd.pinned (OpenSpec.ofChange windowPairsSpec)

/-- ITS FALSE NEIGHBOUR: 'it returns false'. Refute it at one input. -/
def windowPairsWrong : ChangeSpec := { name := "windowPairs", fn := fun _ => fun
  | [d1, d2, d3] => { results := [.lit (.bool false)], args := [d1, d2, d3] }
  | _ => none }
def WindowPairsWrongFalsely : Prop := windowPairsRow.holds Tryd.pinned (OpenSpec.ofChange windowPairsWrong)

/-- 'pilcrowlaw13.WindowPlays': WHATEVER THE INPUT: true; the input reads as it did. -/
def windowPlaysSpec : ChangeSpec := { name := "windowPlays", fn := fun _ => fun
  | [d1, d2] => { results := [.lit (.bool true)], args := [d1, d2] }
  | _ => none }
def windowPlaysRow : OpenClaim := { program := "ytgjmnghgpjfjmaadoor", sum := "8d79f752252d2f56e62ba97bb691c80bf6bce0efcf7311f5d6e0effa24c1b441", func := "pilcrow/pilcrowlaw13.WindowPlays", spec := "windowPlays", named := ["pilcrow/window.named", "pilcrow/window.static"], apart := false, laid := [("pilcrow/window.static", laid_pilcrow_window_static), ("pilcrow/window.named", laid_pilcrow_window_named)] }
def WindowPlaysSaid : Prop := windowPlaysRow.holds Tryd.pinned (OpenSpec.ofChange windowPlaysSpec)

/-- ITS FALSE NEIGHBOUR: 'it returns false'. Refute it at one input. -/
def windowPlaysWrong : ChangeSpec := { name := "windowPlays", fn := fun _ => fun
  | [d1, d2] => { results := [.lit (.bool false)], args := [d1, d2] }
  | _ => none }
def WindowPlaysWrongFalsely : Prop := windowPlaysRow.holds Tryd.pinned (OpenSpec.ofChange windowPlaysWrong)

/-- 'pilcrowlaw13.WindowOrder': WHATEVER THE INPUT: true; the input reads as it did. -/
def windowOrderSpec : ChangeSpec := { name := "windowOrder", fn := fun _ => fun
  | [d] => { results := [.lit (.bool true)], args := [d] }
  | _ => none }
def windowOrderRow : OpenClaim := { program := "ytgjmnghgpjfjmaadoor", sum := "8d79f752252d2f56e62ba97bb691c80bf6bce0efcf7311f5d6e0effa24c1b441", func := "pilcrow/pilcrowlaw13.WindowOrder", spec := "windowOrder", named := ["pilcrow/window.named", "pilcrow/window.static"], apart := false, laid := [("pilcrow/window.static", laid_pilcrow_window_static), ("pilcrow/window.named", laid_pilcrow_window_named)] }
def WindowOrderSaid : Prop := windowOrderRow.holds Tryd.pinned (OpenSpec.ofChange windowOrderSpec)

/-- ITS FALSE NEIGHBOUR: 'it returns false'. Refute it at one input. -/
def windowOrderWrong : ChangeSpec := { name := "windowOrder", fn := fun _ => fun
  | [d] => { results := [.lit (.bool false)], args := [d] }
  | _ => none }
def WindowOrderWrongFalsely : Prop := windowOrderRow.holds Tryd.pinned (OpenSpec.ofChange windowOrderWrong)

/- THE SECOND FORM. 'bulk': how many values and letters a reading holds, each counted each time it is reached (what is shared counts as often as it is met; a slice's spare places count too). A statement '..UptoSaid' is the law's where the arguments, and the package variables that the reading takes, are together of bulk at most 1048576: NARROWER than '..Said'. Prove '..Said' where nothing that the law and all that it calls make is longer than what came in: it says more and counts as full. Else prove '..UptoSaid'. A law counts once. -/
mutual
def uptoBulk {H : Type} : DataW H → Nat
  | .lit (.string bytes) => bytes.length + 1
  | .lit _ => 1
  | .nil => 1
  | .ptr d => uptoBulk d + 1
  | .slice elems spare => uptoBulkAll elems + uptoBulkAll spare + 1
  | .agg parts => uptoBulkAll parts + 1
  | .iface _ d => uptoBulk d + 1
  | .map entries => uptoBulkEntries entries + 1
  | .held _ => 1
def uptoBulkAll {H : Type} : List (DataW H) → Nat
  | [] => 0
  | d :: r => uptoBulk d + uptoBulkAll r
def uptoBulkEntries {H : Type} : List (Lit × DataW H) → Nat
  | [] => 0
  | x :: r => uptoBulkEntry x + uptoBulkEntries r
def uptoBulkEntry {H : Type} : Lit × DataW H → Nat
  | (.string bytes, d) => bytes.length + uptoBulk d + 1
  | (_, d) => uptoBulk d + 1
 end
def uptoSmall : (H : Type) → List (DataW H) → Bool := fun _ ds => decide (uptoBulkAll ds ≤ 1048576)
def OpenSpec.upto (s : _root_.Go.ChangeSpec) : _root_.Go.OpenSpec := { _root_.Go.OpenSpec.ofChange s with cond := some uptoSmall }

/-- 'pilcrowlaw13.WindowTables', WHERE WHAT IT READS IS OF BULK AT MOST 1048576: true; the input reads as it did. -/
def windowTablesUptoRow : OpenClaim := { program := "ytgjmnghgpjfjmaadoor", sum := "8d79f752252d2f56e62ba97bb691c80bf6bce0efcf7311f5d6e0effa24c1b441", func := "pilcrow/pilcrowlaw13.WindowTables", spec := "windowTables", named := ["pilcrow/window.named", "pilcrow/window.static"], apart := false, laid := [("pilcrow/window.static", laid_pilcrow_window_static), ("pilcrow/window.named", laid_pilcrow_window_named)], narrowed := true }
def WindowTablesUptoSaid : Prop := windowTablesUptoRow.holds Tryd.pinned (OpenSpec.upto windowTablesSpec)

/-- 'pilcrowlaw13.WindowIndexes', WHERE WHAT IT READS IS OF BULK AT MOST 1048576: true; the input reads as it did. -/
def windowIndexesUptoRow : OpenClaim := { program := "ytgjmnghgpjfjmaadoor", sum := "8d79f752252d2f56e62ba97bb691c80bf6bce0efcf7311f5d6e0effa24c1b441", func := "pilcrow/pilcrowlaw13.WindowIndexes", spec := "windowIndexes", named := ["pilcrow/window.named", "pilcrow/window.static"], apart := false, laid := [("pilcrow/window.static", laid_pilcrow_window_static), ("pilcrow/window.named", laid_pilcrow_window_named)], narrowed := true }
def WindowIndexesUptoSaid : Prop := windowIndexesUptoRow.holds Tryd.pinned (OpenSpec.upto windowIndexesSpec)

/-- 'pilcrowlaw13.WindowPairs', WHERE WHAT IT READS IS OF BULK AT MOST 1048576: true; the input reads as it did. -/
def windowPairsUptoRow : OpenClaim := { program := "ytgjmnghgpjfjmaadoor", sum := "8d79f752252d2f56e62ba97bb691c80bf6bce0efcf7311f5d6e0effa24c1b441", func := "pilcrow/pilcrowlaw13.WindowPairs", spec := "windowPairs", named := ["pilcrow/window.named", "pilcrow/window.static"], apart := false, laid := [("pilcrow/window.static", laid_pilcrow_window_static), ("pilcrow/window.named", laid_pilcrow_window_named)], narrowed := true }
def WindowPairsUptoSaid : Prop := windowPairsUptoRow.holds Tryd.pinned (OpenSpec.upto windowPairsSpec)

/-- 'pilcrowlaw13.WindowPlays', WHERE WHAT IT READS IS OF BULK AT MOST 1048576: true; the input reads as it did. -/
def windowPlaysUptoRow : OpenClaim := { program := "ytgjmnghgpjfjmaadoor", sum := "8d79f752252d2f56e62ba97bb691c80bf6bce0efcf7311f5d6e0effa24c1b441", func := "pilcrow/pilcrowlaw13.WindowPlays", spec := "windowPlays", named := ["pilcrow/window.named", "pilcrow/window.static"], apart := false, laid := [("pilcrow/window.static", laid_pilcrow_window_static), ("pilcrow/window.named", laid_pilcrow_window_named)], narrowed := true }
def WindowPlaysUptoSaid : Prop := windowPlaysUptoRow.holds Tryd.pinned (OpenSpec.upto windowPlaysSpec)

/-- 'pilcrowlaw13.WindowOrder', WHERE WHAT IT READS IS OF BULK AT MOST 1048576: true; the input reads as it did. -/
def windowOrderUptoRow : OpenClaim := { program := "ytgjmnghgpjfjmaadoor", sum := "8d79f752252d2f56e62ba97bb691c80bf6bce0efcf7311f5d6e0effa24c1b441", func := "pilcrow/pilcrowlaw13.WindowOrder", spec := "windowOrder", named := ["pilcrow/window.named", "pilcrow/window.static"], apart := false, laid := [("pilcrow/window.static", laid_pilcrow_window_static), ("pilcrow/window.named", laid_pilcrow_window_named)], narrowed := true }
def WindowOrderUptoSaid : Prop := windowOrderUptoRow.holds Tryd.pinned (OpenSpec.upto windowOrderSpec)

end Rows
end Go.Proofs.YtgjmnghgpjfjmaaDoor
