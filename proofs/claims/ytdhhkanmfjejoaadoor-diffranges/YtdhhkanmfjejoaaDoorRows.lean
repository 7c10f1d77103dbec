/-
  NARROWER THAN 'FOR EVERY INPUT', by the rows' own cells (each row's printed sentence says how): DiffPacks: laid · DiffRanges: laid · DiffTrails: laid · DiffPrev: laid · DiffBack: laid · DiffOrder: laid.
  DERIVED. THE GIVEN ROWS OF THIS SEAT. 6 by the template 'for every input the law returns true; each argument reads behind the call as it read before'; 0 by the template 'total and deterministic' (their statements: YtdhhkanmfjejoaaDoorTotals.lean).
  GIVEN WITH THE SEED: the statements are not yours to turn. If you find one false, say at which input.
  Laid BY PROGRAM, IN A SANDBOX (cutbox-rows.mjs): the forced cells as the released guide's own fill.sh prints them over the translation eb3d7b7458f5bf8a… (all of the seat's roots in one cut). By AI agents, Wed Nov 11 2026. No macro, syntax, notation, axiom, sorry.
-/
import Derived.Test.YtdhhkanmfjejoaaDoorChecked
import GoSem.Claim
import GoSem.ClaimJoined
import GoSem.ClaimMapViews
import Derived.JoinedTies
import Derived.KernelRfl
namespace Go.Proofs.YtdhhkanmfjejoaaDoor
/- THE CELL 'sum', in the pinned program and in every row, IS THE sha256 OF THE DUMP (.gsa) THAT YtdhhkanmfjejoaaDoorProg.lean LOADS. Nothing in Lean hashes anything: it is a label: what it is worth is what the hold of that sum in a sandbox is worth. -/
noncomputable def Tryd.pinned : Pinned := { name := "ytdhhkanmfjejoaadoor", sum := "eb3d7b7458f5bf8ae84a9c4b440416e9b00d00c6e4617ae73d9a2c1615be4c20", checked := Tryd.checked }
namespace Rows
def none {H : Type} : Left H := { results := [], args := [] }

/- WHAT THE LISTED PACKAGE-LEVEL VARIABLES READ AS WHEN THE CALL BEGINS. Each datum BY PROGRAM (the guide's laid-datum.mjs) off the statement by which the dump's own 'gosem.cut.vars' lays the variable. In a bare row this is a premise. The card (YtdhhkanmfjejoaaDoorCards.lean) ties it to the program's text. -/
def laid_pilcrow_diff_leads {H : Type} : DataW H := .agg [.agg [.lit (.int .u8 33), .lit (.int .u8 33), .lit (.int .i64 3), .lit (.int .i64 (-14536567))], .agg [.lit (.int .u8 34), .lit (.int .u8 36), .lit (.int .i64 2), .lit (.int .i64 (-187660))], .agg [.lit (.int .u8 37), .lit (.int .u8 79), .lit (.int .i64 1), .lit (.int .i64 (-10513))], .agg [.lit (.int .u8 80), .lit (.int .u8 207), .lit (.int .i64 0), .lit (.int .i64 (-64))], .agg [.lit (.int .u8 208), .lit (.int .u8 250), .lit (.int .i64 1), .lit (.int .i64 64)], .agg [.lit (.int .u8 251), .lit (.int .u8 253), .lit (.int .i64 2), .lit (.int .i64 10513)], .agg [.lit (.int .u8 254), .lit (.int .u8 254), .lit (.int .i64 3), .lit (.int .i64 187660)]]
def laid_pilcrow_diff_runs {H : Type} : DataW H := .agg [.agg [.lit (.int .u8 1), .lit (.int .u8 6), .lit (.int .i64 0)], .agg [.lit (.int .u8 16), .lit (.int .u8 25), .lit (.int .i64 6)], .agg [.lit (.int .u8 28), .lit (.int .u8 31), .lit (.int .i64 16)], .agg [.lit (.int .u8 33), .lit (.int .u8 255), .lit (.int .i64 20)]]

/-- 'pilcrowlaw11.DiffPacks': WHATEVER THE INPUT: true; the input reads as it did. -/
def diffPacksSpec : ChangeSpec := { name := "diffPacks", fn := fun _ => fun
  | [d] => { results := [.lit (.bool true)], args := [d] }
  | _ => none }
def diffPacksRow : OpenClaim := { program := "ytdhhkanmfjejoaadoor", sum := "eb3d7b7458f5bf8ae84a9c4b440416e9b00d00c6e4617ae73d9a2c1615be4c20", func := "pilcrow/pilcrowlaw11.DiffPacks", spec := "diffPacks", named := ["pilcrow/diff.leads", "pilcrow/diff.runs"], apart := false, laid := [("pilcrow/diff.leads", laid_pilcrow_diff_leads), ("pilcrow/diff.runs", laid_pilcrow_diff_runs)] }
def DiffPacksSaid : Prop := diffPacksRow.holds Tryd.pinned (OpenSpec.ofChange diffPacksSpec)

/-- ITS FALSE NEIGHBOUR: 'it returns false'. Refute it at one input. -/
def diffPacksWrong : ChangeSpec := { name := "diffPacks", fn := fun _ => fun
  | [d] => { results := [.lit (.bool false)], args := [d] }
  | _ => none }
def DiffPacksWrongFalsely : Prop := diffPacksRow.holds Tryd.pinned (OpenSpec.ofChange diffPacksWrong)

/-- 'pilcrowlaw11.DiffRanges': WHATEVER THE INPUT: true; the input reads as it did. -/
def diffRangesSpec : ChangeSpec := { name := "diffRanges", fn := fun _ => fun
  | [d] => { results := [.lit (.bool true)], args := [d] }
  | _ => none }
def diffRangesRow : OpenClaim := { program := "ytdhhkanmfjejoaadoor", sum := "eb3d7b7458f5bf8ae84a9c4b440416e9b00d00c6e4617ae73d9a2c1615be4c20", func := "pilcrow/pilcrowlaw11.DiffRanges", spec := "diffRanges", named := ["pilcrow/diff.leads", "pilcrow/diff.runs"], apart := false, laid := [("pilcrow/diff.leads", laid_pilcrow_diff_leads), ("pilcrow/diff.runs", laid_pilcrow_diff_runs)] }
def DiffRangesSaid : Prop := diffRangesRow.holds Tryd.pinned (OpenSpec.ofChange diffRangesSpec)

/-- ITS FALSE NEIGHBOUR: 'it returns false'. Refute it at one input. -/
def diffRangesWrong : ChangeSpec := { name := "diffRanges", fn := fun _ => fun
  | [d] => { results := [.lit (.bool false)], args := [d] }
  | _ => none }
def DiffRangesWrongFalsely : Prop := diffRangesRow.holds Tryd.pinned (OpenSpec.ofChange diffRangesWrong)

/-- 'pilcrowlaw11.DiffTrails': WHATEVER THE INPUT: true; the input reads as it did. -/
def diffTrailsSpec : ChangeSpec := { name := "diffTrails", fn := fun _ => fun
  | [d1, d2, d3] => { results := [.lit (.bool true)], args := [d1, d2, d3] }
  | _ => none }
def diffTrailsRow : OpenClaim := { program := "ytdhhkanmfjejoaadoor", sum := "eb3d7b7458f5bf8ae84a9c4b440416e9b00d00c6e4617ae73d9a2c1615be4c20", func := "pilcrow/pilcrowlaw11.DiffTrails", spec := "diffTrails", named := ["pilcrow/diff.runs", "pilcrow/diff.leads"], apart := false, laid := [("pilcrow/diff.leads", laid_pilcrow_diff_leads), ("pilcrow/diff.runs", laid_pilcrow_diff_runs)] }
def DiffTrailsSaid : Prop := diffTrailsRow.holds Tryd.pinned (OpenSpec.ofChange diffTrailsSpec)

/-- ITS FALSE NEIGHBOUR: 'it returns false'. Refute it at one input. -/
def diffTrailsWrong : ChangeSpec := { name := "diffTrails", fn := fun _ => fun
  | [d1, d2, d3] => { results := [.lit (.bool false)], args := [d1, d2, d3] }
  | _ => none }
def DiffTrailsWrongFalsely : Prop := diffTrailsRow.holds Tryd.pinned (OpenSpec.ofChange diffTrailsWrong)

/-- 'pilcrowlaw11.DiffPrev': WHATEVER THE INPUT: true; the input reads as it did. -/
def diffPrevSpec : ChangeSpec := { name := "diffPrev", fn := fun _ => fun
  | [d] => { results := [.lit (.bool true)], args := [d] }
  | _ => none }
def diffPrevRow : OpenClaim := { program := "ytdhhkanmfjejoaadoor", sum := "eb3d7b7458f5bf8ae84a9c4b440416e9b00d00c6e4617ae73d9a2c1615be4c20", func := "pilcrow/pilcrowlaw11.DiffPrev", spec := "diffPrev", named := ["pilcrow/diff.leads", "pilcrow/diff.runs"], apart := false, laid := [("pilcrow/diff.leads", laid_pilcrow_diff_leads), ("pilcrow/diff.runs", laid_pilcrow_diff_runs)] }
def DiffPrevSaid : Prop := diffPrevRow.holds Tryd.pinned (OpenSpec.ofChange diffPrevSpec)

/-- ITS FALSE NEIGHBOUR: 'it returns false'. Refute it at one input. -/
def diffPrevWrong : ChangeSpec := { name := "diffPrev", fn := fun _ => fun
  | [d] => { results := [.lit (.bool false)], args := [d] }
  | _ => none }
def DiffPrevWrongFalsely : Prop := diffPrevRow.holds Tryd.pinned (OpenSpec.ofChange diffPrevWrong)

/-- 'pilcrowlaw11.DiffBack': WHATEVER THE INPUT: true; the input reads as it did. -/
def diffBackSpec : ChangeSpec := { name := "diffBack", fn := fun _ => fun
  | [d1, d2] => { results := [.lit (.bool true)], args := [d1, d2] }
  | _ => none }
def diffBackRow : OpenClaim := { program := "ytdhhkanmfjejoaadoor", sum := "eb3d7b7458f5bf8ae84a9c4b440416e9b00d00c6e4617ae73d9a2c1615be4c20", func := "pilcrow/pilcrowlaw11.DiffBack", spec := "diffBack", named := ["pilcrow/diff.leads", "pilcrow/diff.runs"], apart := false, laid := [("pilcrow/diff.leads", laid_pilcrow_diff_leads), ("pilcrow/diff.runs", laid_pilcrow_diff_runs)] }
def DiffBackSaid : Prop := diffBackRow.holds Tryd.pinned (OpenSpec.ofChange diffBackSpec)

/-- ITS FALSE NEIGHBOUR: 'it returns false'. Refute it at one input. -/
def diffBackWrong : ChangeSpec := { name := "diffBack", fn := fun _ => fun
  | [d1, d2] => { results := [.lit (.bool false)], args := [d1, d2] }
  | _ => none }
def DiffBackWrongFalsely : Prop := diffBackRow.holds Tryd.pinned (OpenSpec.ofChange diffBackWrong)

/-- 'pilcrowlaw11.DiffOrder': WHATEVER THE INPUT: true; the input reads as it did. -/
def diffOrderSpec : ChangeSpec := { name := "diffOrder", fn := fun _ => fun
  | [d1, d2] => { results := [.lit (.bool true)], args := [d1, d2] }
  | _ => none }
def diffOrderRow : OpenClaim := { program := "ytdhhkanmfjejoaadoor", sum := "eb3d7b7458f5bf8ae84a9c4b440416e9b00d00c6e4617ae73d9a2c1615be4c20", func := "pilcrow/pilcrowlaw11.DiffOrder", spec := "diffOrder", named := ["pilcrow/diff.leads", "pilcrow/diff.runs"], apart := false, laid := [("pilcrow/diff.leads", laid_pilcrow_diff_leads), ("pilcrow/diff.runs", laid_pilcrow_diff_runs)] }
def DiffOrderSaid : Prop := diffOrderRow.holds Tryd.pinned (OpenSpec.ofChange diffOrderSpec)

/-- ITS FALSE NEIGHBOUR: 'it returns false'. Refute it at one input. -/
def diffOrderWrong : ChangeSpec := { name := "diffOrder", fn := fun _ => fun
  | [d1, d2] => { results := [.lit (.bool false)], args := [d1, d2] }
  | _ => none }
def DiffOrderWrongFalsely : Prop := diffOrderRow.holds Tryd.pinned (OpenSpec.ofChange diffOrderWrong)

/- THE SECOND FORM. 'bulk': how many values and letters a reading holds, each counted each time it is reached (what is shared counts as often as it is met; a slice's spare places count too). A statement '..UptoSaid' is the law's where the arguments, and the package variables that the reading takes, are together of bulk at most 1048576: NARROWER than '..Said'. Prove '..Said' where nothing that the law and all that it calls make is longer than what came in: it says more and counts as full. Else prove '..UptoSaid'. A law counts once. -/
mutual
def uptoBulk {H : Type} : DataW H → Nat
  | .lit (.string bytes) => bytes.length + 1
  | .lit _ => 1
  | .nil => 1
  | .ptr d => uptoBulk d + 1
  | .slice elems spare => uptoBulkAll elems + uptoBulkAll spare + 1
  | .agg parts => uptoBulkAll parts + 1
  | .iface _ d => uptoBulk d + 1
  | .map entries => uptoBulkEntries entries + 1
  | .held _ => 1
def uptoBulkAll {H : Type} : List (DataW H) → Nat
  | [] => 0
  | d :: r => uptoBulk d + uptoBulkAll r
def uptoBulkEntries {H : Type} : List (Lit × DataW H) → Nat
  | [] => 0
  | x :: r => uptoBulkEntry x + uptoBulkEntries r
def uptoBulkEntry {H : Type} : Lit × DataW H → Nat
  | (.string bytes, d) => bytes.length + uptoBulk d + 1
  | (_, d) => uptoBulk d + 1
 end
def uptoSmall : (H : Type) → List (DataW H) → Bool := fun _ ds => decide (uptoBulkAll ds ≤ 1048576)
def OpenSpec.upto (s : _root_.Go.ChangeSpec) : _root_.Go.OpenSpec := { _root_.Go.OpenSpec.ofChange s with cond := some uptoSmall }

/-- 'pilcrowlaw11.DiffPacks', WHERE WHAT IT READS IS OF BULK AT MOST 1048576: true; the input reads as it did. -/
def diffPacksUptoRow : OpenClaim := { program := "ytdhhkanmfjejoaadoor", sum := "eb3d7b7458f5bf8ae84a9c4b440416e9b00d00c6e4617ae73d9a2c1615be4c20", func := "pilcrow/pilcrowlaw11.DiffPacks", spec := "diffPacks", named := ["pilcrow/diff.leads", "pilcrow/diff.runs"], apart := false, laid := [("pilcrow/diff.leads", laid_pilcrow_diff_leads), ("pilcrow/diff.runs", laid_pilcrow_diff_runs)], narrowed := true }
def DiffPacksUptoSaid : Prop := diffPacksUptoRow.holds Tryd.pinned (OpenSpec.upto diffPacksSpec)

/-- 'pilcrowlaw11.DiffRanges', WHERE WHAT IT READS IS OF BULK AT MOST 1048576: true; the input reads as it did. -/
def diffRangesUptoRow : OpenClaim := { program := "ytdhhkanmfjejoaadoor", sum := "eb3d7b7458f5bf8ae84a9c4b440416e9b00d00c6e4617ae73d9a2c1615be4c20", func := "pilcrow/pilcrowlaw11.DiffRanges", spec := "diffRanges", named := ["pilcrow/diff.leads", "pilcrow/diff.runs"], apart := false, laid := [("pilcrow/diff.leads", laid_pilcrow_diff_leads), ("pilcrow/diff.runs", laid_pilcrow_diff_runs)], narrowed := true }
def DiffRangesUptoSaid : Prop := diffRangesUptoRow.holds Tryd.pinned (OpenSpec.upto diffRangesSpec)

/-- 'pilcrowlaw11.DiffTrails', WHERE WHAT IT READS IS OF BULK AT MOST 1048576: true; the input reads as it did. -/
def diffTrailsUptoRow : OpenClaim := { program := "ytdhhkanmfjejoaadoor", sum := "eb3d7b7458f5bf8ae84a9c4b440416e9b00d00c6e4617ae73d9a2c1615be4c20", func := "pilcrow/pilcrowlaw11.DiffTrails", spec := "diffTrails", named := ["pilcrow/diff.runs", "pilcrow/diff.leads"], apart := false, laid := [("pilcrow/diff.leads", laid_pilcrow_diff_leads), ("pilcrow/diff.runs", laid_pilcrow_diff_runs)], narrowed := true }
def DiffTrailsUptoSaid : Prop := diffTrailsUptoRow.holds Tryd.pinned (OpenSpec.upto diffTrailsSpec)

/-- 'pilcrowlaw11.DiffPrev', WHERE WHAT IT READS IS OF BULK AT MOST 1048576: true; the input reads as it did. -/
def diffPrevUptoRow : OpenClaim := { program := "ytdhhkanmfjejoaadoor", sum := "eb3d7b7458f5bf8ae84a9c4b440416e9b00d00c6e4617ae73d9a2c1615be4c20", func := "pilcrow/pilcrowlaw11.DiffPrev", spec := "diffPrev", named := ["pilcrow/diff.leads", "pilcrow/diff.runs"], apart := false, laid := [("pilcrow/diff.leads", laid_pilcrow_diff_leads), ("pilcrow/diff.runs", laid_pilcrow_diff_runs)], narrowed := true }
def DiffPrevUptoSaid : Prop := diffPrevUptoRow.holds Tryd.pinned (OpenSpec.upto diffPrevSpec)

/-- 'pilcrowlaw11.DiffBack', WHERE WHAT IT READS IS OF BULK AT MOST 1048576: true; the input reads as it did. -/
def diffBackUptoRow : OpenClaim := { program := "ytdhhkanmfjejoaadoor", sum := "eb3d7b7458f5bf8ae84a9c4b440416e9b00d00c6e4617ae73d9a2c1615be4c20", func := "pilcrow/pilcrowlaw11.DiffBack", spec := "diffBack", named := ["pilcrow/diff.leads", "pilcrow/diff.runs"], apart := false, laid := [("pilcrow/diff.leads", laid_pilcrow_diff_leads), ("pilcrow/diff.runs", laid_pilcrow_diff_runs)], narrowed := true }
def DiffBackUptoSaid : Prop := diffBackUptoRow.holds Tryd.pinned (OpenSpec.upto diffBackSpec)

/-- 'pilcrowlaw11.DiffOrder', WHERE WHAT IT READS IS OF BULK AT MOST 1048576: true; the input reads as it did. -/
def diffOrderUptoRow : OpenClaim := { program := "ytdhhkanmfjejoaadoor", sum := "eb3d7b7458f5bf8ae84a9c4b440416e9b00d00c6e4617ae73d9a2c1615be4c20", func := "pilcrow/pilcrowlaw11.DiffOrder", spec := "diffOrder", named := ["pilcrow/diff.leads", "pilcrow/diff.runs"], apart := false, laid := [("pilcrow/diff.leads", laid_pilcrow_diff_leads), ("pilcrow/diff.runs", laid_pilcrow_diff_runs)], narrowed := true }
def DiffOrderUptoSaid : Prop := diffOrderUptoRow.holds Tryd.pinned (OpenSpec.upto diffOrderSpec)

end Rows
end Go.Proofs.YtdhhkanmfjejoaaDoor
