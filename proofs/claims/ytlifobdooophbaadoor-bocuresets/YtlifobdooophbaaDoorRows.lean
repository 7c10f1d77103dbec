/-
  NARROWER THAN 'FOR EVERY INPUT', by the rows' own cells (each row's printed sentence says how): BocuReads: laid · BocuWrites: laid · BocuBack: laid · BocuOne: laid · BocuExtends: laid · BocuOrder: laid · BocuKept: laid · BocuResets: laid.
  DERIVED. THE GIVEN ROWS OF THIS SEAT. 8 by the template 'for every input the law returns true; each argument reads behind the call as it read before'; 0 by the template 'total and deterministic' (their statements: YtlifobdooophbaaDoorTotals.lean).
  GIVEN WITH THE SEED: the statements are not yours to turn. If you find one false, say at which input.
  Laid BY PROGRAM, IN A SANDBOX (cutbox-rows.mjs): the forced cells as the released guide's own fill.sh prints them over the translation 9d62417d937a5a55… (all of the seat's roots in one cut). By AI agents, Wed Nov 11 2026. No macro, syntax, notation, axiom, sorry.
-/
import Derived.Test.YtlifobdooophbaaDoorChecked
import GoSem.Claim
import GoSem.ClaimJoined
import GoSem.ClaimMapViews
import Derived.JoinedTies
import Derived.KernelRfl
namespace Go.Proofs.YtlifobdooophbaaDoor
/- THE CELL 'sum', in the pinned program and in every row, IS THE sha256 OF THE DUMP (.gsa) THAT YtlifobdooophbaaDoorProg.lean LOADS. Nothing in Lean hashes anything: it is a label: what it is worth is what the hold of that sum in a sandbox is worth. -/
noncomputable def Tryd.pinned : Pinned := { name := "ytlifobdooophbaadoor", sum := "9d62417d937a5a553f29e89ed2eea36bda9954a9c8a16e3513ca758e18629813", checked := Tryd.checked }
namespace Rows
def none {H : Type} : Left H := { results := [], args := [] }

/- WHAT THE LISTED PACKAGE-LEVEL VARIABLES READ AS WHEN THE CALL BEGINS. Each datum BY PROGRAM (the guide's laid-datum.mjs) off the statement by which the dump's own 'gosem.cut.vars' lays the variable. In a bare row this is a premise. The card (YtlifobdooophbaaDoorCards.lean) ties it to the program's text. -/
def laid_pilcrow_diff_leads {H : Type} : DataW H := .agg [.agg [.lit (.int .u8 33), .lit (.int .u8 33), .lit (.int .i64 3), .lit (.int .i64 (-14536567))], .agg [.lit (.int .u8 34), .lit (.int .u8 36), .lit (.int .i64 2), .lit (.int .i64 (-187660))], .agg [.lit (.int .u8 37), .lit (.int .u8 79), .lit (.int .i64 1), .lit (.int .i64 (-10513))], .agg [.lit (.int .u8 80), .lit (.int .u8 207), .lit (.int .i64 0), .lit (.int .i64 (-64))], .agg [.lit (.int .u8 208), .lit (.int .u8 250), .lit (.int .i64 1), .lit (.int .i64 64)], .agg [.lit (.int .u8 251), .lit (.int .u8 253), .lit (.int .i64 2), .lit (.int .i64 10513)], .agg [.lit (.int .u8 254), .lit (.int .u8 254), .lit (.int .i64 3), .lit (.int .i64 187660)]]
def laid_pilcrow_diff_runs {H : Type} : DataW H := .agg [.agg [.lit (.int .u8 1), .lit (.int .u8 6), .lit (.int .i64 0)], .agg [.lit (.int .u8 16), .lit (.int .u8 25), .lit (.int .i64 6)], .agg [.lit (.int .u8 28), .lit (.int .u8 31), .lit (.int .i64 16)], .agg [.lit (.int .u8 33), .lit (.int .u8 255), .lit (.int .i64 20)]]

/-- 'pilcrowlaw12.BocuReads': WHATEVER THE INPUT: true; the input reads as it did. -/
def bocuReadsSpec : ChangeSpec := { name := "bocuReads", fn := fun _ => fun
  | [d1, d2, d3] => { results := [.lit (.bool true)], args := [d1, d2, d3] }
  | _ => none }
def bocuReadsRow : OpenClaim := { program := "ytlifobdooophbaadoor", sum := "9d62417d937a5a553f29e89ed2eea36bda9954a9c8a16e3513ca758e18629813", func := "pilcrow/pilcrowlaw12.BocuReads", spec := "bocuReads", inPlace := ["internal/abi.NoEscape"], named := ["pilcrow/diff.leads", "pilcrow/diff.runs"], apart := false, laid := [("pilcrow/diff.leads", laid_pilcrow_diff_leads), ("pilcrow/diff.runs", laid_pilcrow_diff_runs)] }
def BocuReadsSaid : Prop := bocuReadsRow.holds Tryd.pinned (OpenSpec.ofChange bocuReadsSpec)

/-- ITS FALSE NEIGHBOUR: 'it returns false'. Refute it at one input. -/
def bocuReadsWrong : ChangeSpec := { name := "bocuReads", fn := fun _ => fun
  | [d1, d2, d3] => { results := [.lit (.bool false)], args := [d1, d2, d3] }
  | _ => none }
def BocuReadsWrongFalsely : Prop := bocuReadsRow.holds Tryd.pinned (OpenSpec.ofChange bocuReadsWrong)

/-- 'pilcrowlaw12.BocuWrites': WHATEVER THE INPUT: true; the input reads as it did. -/
def bocuWritesSpec : ChangeSpec := { name := "bocuWrites", fn := fun _ => fun
  | [d1, d2, d3] => { results := [.lit (.bool true)], args := [d1, d2, d3] }
  | _ => none }
def bocuWritesRow : OpenClaim := { program := "ytlifobdooophbaadoor", sum := "9d62417d937a5a553f29e89ed2eea36bda9954a9c8a16e3513ca758e18629813", func := "pilcrow/pilcrowlaw12.BocuWrites", spec := "bocuWrites", inPlace := ["internal/abi.NoEscape"], named := ["pilcrow/diff.leads", "pilcrow/diff.runs"], apart := false, laid := [("pilcrow/diff.leads", laid_pilcrow_diff_leads), ("pilcrow/diff.runs", laid_pilcrow_diff_runs)] }
def BocuWritesSaid : Prop := bocuWritesRow.holds Tryd.pinned (OpenSpec.ofChange bocuWritesSpec)

/-- ITS FALSE NEIGHBOUR: 'it returns false'. Refute it at one input. -/
def bocuWritesWrong : ChangeSpec := { name := "bocuWrites", fn := fun _ => fun
  | [d1, d2, d3] => { results := [.lit (.bool false)], args := [d1, d2, d3] }
  | _ => none }
def BocuWritesWrongFalsely : Prop := bocuWritesRow.holds Tryd.pinned (OpenSpec.ofChange bocuWritesWrong)

/-- 'pilcrowlaw12.BocuBack': WHATEVER THE INPUT: true; the input reads as it did. -/
def bocuBackSpec : ChangeSpec := { name := "bocuBack", fn := fun _ => fun
  | [d1, d2, d3] => { results := [.lit (.bool true)], args := [d1, d2, d3] }
  | _ => none }
def bocuBackRow : OpenClaim := { program := "ytlifobdooophbaadoor", sum := "9d62417d937a5a553f29e89ed2eea36bda9954a9c8a16e3513ca758e18629813", func := "pilcrow/pilcrowlaw12.BocuBack", spec := "bocuBack", inPlace := ["internal/abi.NoEscape"], named := ["pilcrow/diff.leads", "pilcrow/diff.runs"], apart := false, laid := [("pilcrow/diff.leads", laid_pilcrow_diff_leads), ("pilcrow/diff.runs", laid_pilcrow_diff_runs)] }
def BocuBackSaid : Prop := bocuBackRow.holds Tryd.pinned (OpenSpec.ofChange bocuBackSpec)

/-- ITS FALSE NEIGHBOUR: 'it returns false'. Refute it at one input. -/
def bocuBackWrong : ChangeSpec := { name := "bocuBack", fn := fun _ => fun
  | [d1, d2, d3] => { results := [.lit (.bool false)], args := [d1, d2, d3] }
  | _ => none }
def BocuBackWrongFalsely : Prop := bocuBackRow.holds Tryd.pinned (OpenSpec.ofChange bocuBackWrong)

/-- 'pilcrowlaw12.BocuOne': WHATEVER THE INPUT: true; the input reads as it did. -/
def bocuOneSpec : ChangeSpec := { name := "bocuOne", fn := fun _ => fun
  | [d] => { results := [.lit (.bool true)], args := [d] }
  | _ => none }
def bocuOneRow : OpenClaim := { program := "ytlifobdooophbaadoor", sum := "9d62417d937a5a553f29e89ed2eea36bda9954a9c8a16e3513ca758e18629813", func := "pilcrow/pilcrowlaw12.BocuOne", spec := "bocuOne", inPlace := ["internal/abi.NoEscape"], named := ["pilcrow/diff.leads", "pilcrow/diff.runs"], apart := false, laid := [("pilcrow/diff.leads", laid_pilcrow_diff_leads), ("pilcrow/diff.runs", laid_pilcrow_diff_runs)] }
def BocuOneSaid : Prop := bocuOneRow.holds Tryd.pinned (OpenSpec.ofChange bocuOneSpec)

/-- ITS FALSE NEIGHBOUR: 'it returns false'. Refute it at one input. -/
def bocuOneWrong : ChangeSpec := { name := "bocuOne", fn := fun _ => fun
  | [d] => { results := [.lit (.bool false)], args := [d] }
  | _ => none }
def BocuOneWrongFalsely : Prop := bocuOneRow.holds Tryd.pinned (OpenSpec.ofChange bocuOneWrong)

/-- 'pilcrowlaw12.BocuExtends': WHATEVER THE INPUT: true; the input reads as it did. -/
def bocuExtendsSpec : ChangeSpec := { name := "bocuExtends", fn := fun _ => fun
  | [d1, d2] => { results := [.lit (.bool true)], args := [d1, d2] }
  | _ => none }
def bocuExtendsRow : OpenClaim := { program := "ytlifobdooophbaadoor", sum := "9d62417d937a5a553f29e89ed2eea36bda9954a9c8a16e3513ca758e18629813", func := "pilcrow/pilcrowlaw12.BocuExtends", spec := "bocuExtends", inPlace := ["internal/abi.NoEscape"], named := ["pilcrow/diff.leads", "pilcrow/diff.runs"], apart := false, laid := [("pilcrow/diff.leads", laid_pilcrow_diff_leads), ("pilcrow/diff.runs", laid_pilcrow_diff_runs)] }
def BocuExtendsSaid : Prop := bocuExtendsRow.holds Tryd.pinned (OpenSpec.ofChange bocuExtendsSpec)

/-- ITS FALSE NEIGHBOUR: 'it returns false'. Refute it at one input. -/
def bocuExtendsWrong : ChangeSpec := { name := "bocuExtends", fn := fun _ => fun
  | [d1, d2] => { results := [.lit (.bool false)], args := [d1, d2] }
  | _ => none }
def BocuExtendsWrongFalsely : Prop := bocuExtendsRow.holds Tryd.pinned (OpenSpec.ofChange bocuExtendsWrong)

/-- 'pilcrowlaw12.BocuOrder': WHATEVER THE INPUT: true; the input reads as it did. -/
def bocuOrderSpec : ChangeSpec := { name := "bocuOrder", fn := fun _ => fun
  | [d1, d2] => { results := [.lit (.bool true)], args := [d1, d2] }
  | _ => none }
def bocuOrderRow : OpenClaim := { program := "ytlifobdooophbaadoor", sum := "9d62417d937a5a553f29e89ed2eea36bda9954a9c8a16e3513ca758e18629813", func := "pilcrow/pilcrowlaw12.BocuOrder", spec := "bocuOrder", inPlace := ["internal/abi.NoEscape"], named := ["pilcrow/diff.leads", "pilcrow/diff.runs"], apart := false, laid := [("pilcrow/diff.leads", laid_pilcrow_diff_leads), ("pilcrow/diff.runs", laid_pilcrow_diff_runs)] }
def BocuOrderSaid : Prop := bocuOrderRow.holds Tryd.pinned (OpenSpec.ofChange bocuOrderSpec)

/-- ITS FALSE NEIGHBOUR: 'it returns false'. Refute it at one input. -/
def bocuOrderWrong : ChangeSpec := { name := "bocuOrder", fn := fun _ => fun
  | [d1, d2] => { results := [.lit (.bool false)], args := [d1, d2] }
  | _ => none }
def BocuOrderWrongFalsely : Prop := bocuOrderRow.holds Tryd.pinned (OpenSpec.ofChange bocuOrderWrong)

/-- 'pilcrowlaw12.BocuKept': WHATEVER THE INPUT: true; the input reads as it did. -/
def bocuKeptSpec : ChangeSpec := { name := "bocuKept", fn := fun _ => fun
  | [d] => { results := [.lit (.bool true)], args := [d] }
  | _ => none }
def bocuKeptRow : OpenClaim := { program := "ytlifobdooophbaadoor", sum := "9d62417d937a5a553f29e89ed2eea36bda9954a9c8a16e3513ca758e18629813", func := "pilcrow/pilcrowlaw12.BocuKept", spec := "bocuKept", inPlace := ["internal/abi.NoEscape"], named := ["pilcrow/diff.leads", "pilcrow/diff.runs"], apart := false, laid := [("pilcrow/diff.leads", laid_pilcrow_diff_leads), ("pilcrow/diff.runs", laid_pilcrow_diff_runs)] }
def BocuKeptSaid : Prop := bocuKeptRow.holds Tryd.pinned (OpenSpec.ofChange bocuKeptSpec)

/-- ITS FALSE NEIGHBOUR: 'it returns false'. Refute it at one input. -/
def bocuKeptWrong : ChangeSpec := { name := "bocuKept", fn := fun _ => fun
  | [d] => { results := [.lit (.bool false)], args := [d] }
  | _ => none }
def BocuKeptWrongFalsely : Prop := bocuKeptRow.holds Tryd.pinned (OpenSpec.ofChange bocuKeptWrong)

/-- 'pilcrowlaw12.BocuResets': WHATEVER THE INPUT: true; the input reads as it did. -/
def bocuResetsSpec : ChangeSpec := { name := "bocuResets", fn := fun _ => fun
  | [d1, d2] => { results := [.lit (.bool true)], args := [d1, d2] }
  | _ => none }
def bocuResetsRow : OpenClaim := { program := "ytlifobdooophbaadoor", sum := "9d62417d937a5a553f29e89ed2eea36bda9954a9c8a16e3513ca758e18629813", func := "pilcrow/pilcrowlaw12.BocuResets", spec := "bocuResets", inPlace := ["internal/abi.NoEscape"], named := ["pilcrow/diff.leads", "pilcrow/diff.runs"], apart := false, laid := [("pilcrow/diff.leads", laid_pilcrow_diff_leads), ("pilcrow/diff.runs", laid_pilcrow_diff_runs)] }
def BocuResetsSaid : Prop := bocuResetsRow.holds Tryd.pinned (OpenSpec.ofChange bocuResetsSpec)

/-- ITS FALSE NEIGHBOUR: 'it returns false'. Refute it at one input. -/
def bocuResetsWrong : ChangeSpec := { name := "bocuResets", fn := fun _ => fun
  | [d1, d2] => { results := [.lit (.bool false)], args := [d1, d2] }
  | _ => none }
def BocuResetsWrongFalsely : Prop := bocuResetsRow.holds Tryd.pinned (OpenSpec.ofChange bocuResetsWrong)

/- THE SECOND FORM. 'bulk': how many values and letters a reading holds, each counted each time it is reached (what is shared counts as often as it is met; a slice's spare places count too). A statement '..UptoSaid' is the law's where the arguments, and the package variables that the reading takes, are together of bulk at most 1048576: NARROWER than '..Said'. Prove '..Said' where nothing that the law and all that it calls make is longer than what came in: it says more and counts as full. Else prove '..UptoSaid'. A law counts once. -/
mutual
def uptoBulk {H : Type} : DataW H → Nat
  | .lit (.string bytes) => bytes.length + 1
  | .lit _ => 1
  | .nil => 1
  | .ptr d => uptoBulk d + 1
  | .slice elems spare => uptoBulkAll elems + uptoBulkAll spare + 1
  | .agg parts => uptoBulkAll parts + 1
  | .iface _ d => uptoBulk d + 1
  | .map entries => uptoBulkEntries entries + 1
  | .held _ => 1
def uptoBulkAll {H : Type} : List (DataW H) → Nat
  | [] => 0
  | d :: r => uptoBulk d + uptoBulkAll r
def uptoBulkEntries {H : Type} : List (Lit × DataW H) → Nat
  | [] => 0
  | x :: r => uptoBulkEntry x + uptoBulkEntries r
def uptoBulkEntry {H : Type} : Lit × DataW H → Nat
  | (.string bytes, d) => bytes.length + uptoBulk d + 1
  | (_, d) => uptoBulk d + 1
 end
def uptoSmall : (H : Type) → List (DataW H) → Bool := fun _ ds => decide (uptoBulkAll ds ≤ 1048576)
def OpenSpec.upto (s : _root_.Go.ChangeSpec) : _root_.Go.OpenSpec := { _root_.Go.OpenSpec.ofChange s with cond := some uptoSmall }

/-- 'pilcrowlaw12.BocuReads', WHERE WHAT IT READS IS OF BULK AT MOST 1048576: true; the input reads as it did. -/
def bocuReadsUptoRow : OpenClaim := { program := "ytlifobdooophbaadoor", sum := "9d62417d937a5a553f29e89ed2eea36bda9954a9c8a16e3513ca758e18629813", func := "pilcrow/pilcrowlaw12.BocuReads", spec := "bocuReads", inPlace := ["internal/abi.NoEscape"], named := ["pilcrow/diff.leads", "pilcrow/diff.runs"], apart := false, laid := [("pilcrow/diff.leads", laid_pilcrow_diff_leads), ("pilcrow/diff.runs", laid_pilcrow_diff_runs)], narrowed := true }
def BocuReadsUptoSaid : Prop := bocuReadsUptoRow.holds Tryd.pinned (OpenSpec.upto bocuReadsSpec)

/-- 'pilcrowlaw12.BocuWrites', WHERE WHAT IT READS IS OF BULK AT MOST 1048576: true; the input reads as it did. -/
def bocuWritesUptoRow : OpenClaim := { program := "ytlifobdooophbaadoor", sum := "9d62417d937a5a553f29e89ed2eea36bda9954a9c8a16e3513ca758e18629813", func := "pilcrow/pilcrowlaw12.BocuWrites", spec := "bocuWrites", inPlace := ["internal/abi.NoEscape"], named := ["pilcrow/diff.leads", "pilcrow/diff.runs"], apart := false, laid := [("pilcrow/diff.leads", laid_pilcrow_diff_leads), ("pilcrow/diff.runs", laid_pilcrow_diff_runs)], narrowed := true }
def BocuWritesUptoSaid : Prop := bocuWritesUptoRow.holds Tryd.pinned (OpenSpec.upto bocuWritesSpec)

/-- 'pilcrowlaw12.BocuBack', WHERE WHAT IT READS IS OF BULK AT MOST 1048576: true; the input reads as it did. -/
def bocuBackUptoRow : OpenClaim := { program := "ytlifobdooophbaadoor", sum := "9d62417d937a5a553f29e89ed2eea36bda9954a9c8a16e3513ca758e18629813", func := "pilcrow/pilcrowlaw12.BocuBack", spec := "bocuBack", inPlace := ["internal/abi.NoEscape"], named := ["pilcrow/diff.leads", "pilcrow/diff.runs"], apart := false, laid := [("pilcrow/diff.leads", laid_pilcrow_diff_leads), ("pilcrow/diff.runs", laid_pilcrow_diff_runs)], narrowed := true }
def BocuBackUptoSaid : Prop := bocuBackUptoRow.holds Tryd.pinned (OpenSpec.upto bocuBackSpec)

/-- 'pilcrowlaw12.BocuOne', WHERE WHAT IT READS IS OF BULK AT MOST 1048576: true; the input reads as it did. -/
def bocuOneUptoRow : OpenClaim := { program := "ytlifobdooophbaadoor", sum := "9d62417d937a5a553f29e89ed2eea36bda9954a9c8a16e3513ca758e18629813", func := "pilcrow/pilcrowlaw12.BocuOne", spec := "bocuOne", inPlace := ["internal/abi.NoEscape"], named := ["pilcrow/diff.leads", "pilcrow/diff.runs"], apart := false, laid := [("pilcrow/diff.leads", laid_pilcrow_diff_leads), ("pilcrow/diff.runs", laid_pilcrow_diff_runs)], narrowed := true }
def BocuOneUptoSaid : Prop := bocuOneUptoRow.holds Tryd.pinned (OpenSpec.upto bocuOneSpec)

/-- 'pilcrowlaw12.BocuExtends', WHERE WHAT IT READS IS OF BULK AT MOST 1048576: true; the input reads as it did. -/
def bocuExtendsUptoRow : OpenClaim := { program := "ytlifobdooophbaadoor", sum := "9d62417d937a5a553f29e89ed2eea36bda9954a9c8a16e3513ca758e18629813", func := "pilcrow/pilcrowlaw12.BocuExtends", spec := "bocuExtends", inPlace := ["internal/abi.NoEscape"], named := ["pilcrow/diff.leads", "pilcrow/diff.runs"], apart := false, laid := [("pilcrow/diff.leads", laid_pilcrow_diff_leads), ("pilcrow/diff.runs", laid_pilcrow_diff_runs)], narrowed := true }
def BocuExtendsUptoSaid : Prop := bocuExtendsUptoRow.holds Tryd.pinned (OpenSpec.upto bocuExtendsSpec)

/-- 'pilcrowlaw12.BocuOrder', WHERE WHAT IT READS IS OF BULK AT MOST 1048576: true; the input reads as it did. -/
def bocuOrderUptoRow : OpenClaim := { program := "ytlifobdooophbaadoor", sum := "9d62417d937a5a553f29e89ed2eea36bda9954a9c8a16e3513ca758e18629813", func := "pilcrow/pilcrowlaw12.BocuOrder", spec := "bocuOrder", inPlace := ["internal/abi.NoEscape"], named := ["pilcrow/diff.leads", "pilcrow/diff.runs"], apart := false, laid := [("pilcrow/diff.leads", laid_pilcrow_diff_leads), ("pilcrow/diff.runs", laid_pilcrow_diff_runs)], narrowed := true }
def BocuOrderUptoSaid : Prop := bocuOrderUptoRow.holds Tryd.pinned (OpenSpec.upto bocuOrderSpec)

/-- 'pilcrowlaw12.BocuKept', WHERE WHAT IT READS IS OF BULK AT MOST 1048576: true; the input reads as it did. -/
def bocuKeptUptoRow : OpenClaim := { program := "ytlifobdooophbaadoor", sum := "9d62417d937a5a553f29e89ed2eea36bda9954a9c8a16e3513ca758e18629813", func := "pilcrow/pilcrowlaw12.BocuKept", spec := "bocuKept", inPlace := ["internal/abi.NoEscape"], named := ["pilcrow/diff.leads", "pilcrow/diff.runs"], apart := false, laid := [("pilcrow/diff.leads", laid_pilcrow_diff_leads), ("pilcrow/diff.runs", laid_pilcrow_diff_runs)], narrowed := true }
def BocuKeptUptoSaid : Prop := bocuKeptUptoRow.holds Tryd.pinned (OpenSpec.upto bocuKeptSpec)

/-- 'pilcrowlaw12.BocuResets', WHERE WHAT IT READS IS OF BULK AT MOST 1048576: true; the input reads as it did. -/
def bocuResetsUptoRow : OpenClaim := { program := "ytlifobdooophbaadoor", sum := "9d62417d937a5a553f29e89ed2eea36bda9954a9c8a16e3513ca758e18629813", func := "pilcrow/pilcrowlaw12.BocuResets", spec := "bocuResets", inPlace := ["internal/abi.NoEscape"], named := ["pilcrow/diff.leads", "pilcrow/diff.runs"], apart := false, laid := [("pilcrow/diff.leads", laid_pilcrow_diff_leads), ("pilcrow/diff.runs", laid_pilcrow_diff_runs)], narrowed := true }
def BocuResetsUptoSaid : Prop := bocuResetsUptoRow.holds Tryd.pinned (OpenSpec.upto bocuResetsSpec)

end Rows
end Go.Proofs.YtlifobdooophbaaDoor
