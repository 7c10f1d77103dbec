/-
  NARROWER THAN 'FOR EVERY INPUT', by the rows' own cells (each row's printed sentence says how): CrcSums: laid · CrcParts: laid · CrcFours: laid · CrcBurst: laid · CrcLinear: laid.
  DERIVED. THE GIVEN ROWS OF THIS SEAT. 5 by the template 'for every input the law returns true; each argument reads behind the call as it read before'; 0 by the template 'total and deterministic' (their statements: YtlgblkhkohhhkaaDoorTotals.lean).
  GIVEN WITH THE SEED: the statements are not yours to turn. If you find one false, say at which input.
  Laid BY PROGRAM, IN A SANDBOX (cutbox-rows.mjs): the forced cells as the released guide's own fill.sh prints them over the translation 38351bc83872ab27… (all of the seat's roots in one cut). By AI agents, Wed Nov 11 2026. No macro, syntax, notation, axiom, sorry.
-/
import Derived.Test.YtlgblkhkohhhkaaDoorChecked
import GoSem.Claim
import GoSem.ClaimJoined
import GoSem.ClaimMapViews
import Derived.JoinedTies
import Derived.KernelRfl
namespace Go.Proofs.YtlgblkhkohhhkaaDoor
/- THE CELL 'sum', in the pinned program and in every row, IS THE sha256 OF THE DUMP (.gsa) THAT YtlgblkhkohhhkaaDoorProg.lean LOADS. Nothing in Lean hashes anything: it is a label: what it is worth is what the hold of that sum in a sandbox is worth. -/
noncomputable def Tryd.pinned : Pinned := { name := "ytlgblkhkohhhkaadoor", sum := "38351bc83872ab27d2a0bf605fd105c36a7a8e6f2a2e4d897f6261231240002c", checked := Tryd.checked }
namespace Rows
def none {H : Type} : Left H := { results := [], args := [] }

/- WHAT THE LISTED PACKAGE-LEVEL VARIABLES READ AS WHEN THE CALL BEGINS. Each datum BY PROGRAM (the guide's laid-datum.mjs) off the statement by which the dump's own 'gosem.cut.vars' lays the variable. In a bare row this is a premise. The card (YtlgblkhkohhhkaaDoorCards.lean) ties it to the program's text. -/
def laid_pilcrow_crc_steps {H : Type} : DataW H := .agg [.lit (.int .u32 0), .lit (.int .u32 498536548), .lit (.int .u32 997073096), .lit (.int .u32 651767980), .lit (.int .u32 1994146192), .lit (.int .u32 1802195444), .lit (.int .u32 1303535960), .lit (.int .u32 1342533948), .lit (.int .u32 3988292384), .lit (.int .u32 4027552580), .lit (.int .u32 3604390888), .lit (.int .u32 3412177804), .lit (.int .u32 2607071920), .lit (.int .u32 2262029012), .lit (.int .u32 2685067896), .lit (.int .u32 3183342108)]

/-- 'pilcrowlaw16.CrcSums': WHATEVER THE INPUT: true; the input reads as it did. -/
def crcSumsSpec : ChangeSpec := { name := "crcSums", fn := fun _ => fun
  | [d1, d2] => { results := [.lit (.bool true)], args := [d1, d2] }
  | _ => none }
def crcSumsRow : OpenClaim := { program := "ytlgblkhkohhhkaadoor", sum := "38351bc83872ab27d2a0bf605fd105c36a7a8e6f2a2e4d897f6261231240002c", func := "pilcrow/pilcrowlaw16.CrcSums", spec := "crcSums", named := ["pilcrow/crc.steps"], apart := false, laid := [("pilcrow/crc.steps", laid_pilcrow_crc_steps)] }
def CrcSumsSaid : Prop := crcSumsRow.holds Tryd.pinned (OpenSpec.ofChange crcSumsSpec)

/-- ITS FALSE NEIGHBOUR: 'it returns false'. Refute it at one input. -/
def crcSumsWrong : ChangeSpec := { name := "crcSums", fn := fun _ => fun
  | [d1, d2] => { results := [.lit (.bool false)], args := [d1, d2] }
  | _ => none }
def CrcSumsWrongFalsely : Prop := crcSumsRow.holds Tryd.pinned (OpenSpec.ofChange crcSumsWrong)

/-- 'pilcrowlaw16.CrcParts': WHATEVER THE INPUT: true; the input reads as it did. -/
def crcPartsSpec : ChangeSpec := { name := "crcParts", fn := fun _ => fun
  | [d] => { results := [.lit (.bool true)], args := [d] }
  | _ => none }
def crcPartsRow : OpenClaim := { program := "ytlgblkhkohhhkaadoor", sum := "38351bc83872ab27d2a0bf605fd105c36a7a8e6f2a2e4d897f6261231240002c", func := "pilcrow/pilcrowlaw16.CrcParts", spec := "crcParts", named := ["pilcrow/crc.steps"], apart := false, laid := [("pilcrow/crc.steps", laid_pilcrow_crc_steps)] }
def CrcPartsSaid : Prop := crcPartsRow.holds Tryd.pinned (OpenSpec.ofChange crcPartsSpec)

/-- ITS FALSE NEIGHBOUR: 'it returns false'. Refute it at one input. -/
def crcPartsWrong : ChangeSpec := { name := "crcParts", fn := fun _ => fun
  | [d] => { results := [.lit (.bool false)], args := [d] }
  | _ => none }
def CrcPartsWrongFalsely : Prop := crcPartsRow.holds Tryd.pinned (OpenSpec.ofChange crcPartsWrong)

/-- 'pilcrowlaw16.CrcFours': WHATEVER THE INPUT: true; the input reads as it did. -/
def crcFoursSpec : ChangeSpec := { name := "crcFours", fn := fun _ => fun
  | [d1, d2] => { results := [.lit (.bool true)], args := [d1, d2] }
  | _ => none }
def crcFoursRow : OpenClaim := { program := "ytlgblkhkohhhkaadoor", sum := "38351bc83872ab27d2a0bf605fd105c36a7a8e6f2a2e4d897f6261231240002c", func := "pilcrow/pilcrowlaw16.CrcFours", spec := "crcFours", named := ["pilcrow/crc.steps"], apart := false, laid := [("pilcrow/crc.steps", laid_pilcrow_crc_steps)] }
def CrcFoursSaid : Prop := crcFoursRow.holds Tryd.pinned (OpenSpec.ofChange crcFoursSpec)

/-- ITS FALSE NEIGHBOUR: 'it returns false'. Refute it at one input. -/
def crcFoursWrong : ChangeSpec := { name := "crcFours", fn := fun _ => fun
  | [d1, d2] => { results := [.lit (.bool false)], args := [d1, d2] }
  | _ => none }
def CrcFoursWrongFalsely : Prop := crcFoursRow.holds Tryd.pinned (OpenSpec.ofChange crcFoursWrong)

/-- 'pilcrowlaw16.CrcBurst': WHATEVER THE INPUT: true; the input reads as it did. -/
def crcBurstSpec : ChangeSpec := { name := "crcBurst", fn := fun _ => fun
  | [d1, d2, d3] => { results := [.lit (.bool true)], args := [d1, d2, d3] }
  | _ => none }
def crcBurstRow : OpenClaim := { program := "ytlgblkhkohhhkaadoor", sum := "38351bc83872ab27d2a0bf605fd105c36a7a8e6f2a2e4d897f6261231240002c", func := "pilcrow/pilcrowlaw16.CrcBurst", spec := "crcBurst", named := ["pilcrow/crc.steps"], apart := false, laid := [("pilcrow/crc.steps", laid_pilcrow_crc_steps)] }
def CrcBurstSaid : Prop := crcBurstRow.holds Tryd.pinned (OpenSpec.ofChange crcBurstSpec)

/-- ITS FALSE NEIGHBOUR: 'it returns false'. Refute it at one input. -/
def crcBurstWrong : ChangeSpec := { name := "crcBurst", fn := fun _ => fun
  | [d1, d2, d3] => { results := [.lit (.bool false)], args := [d1, d2, d3] }
  | _ => none }
def CrcBurstWrongFalsely : Prop := crcBurstRow.holds Tryd.pinned (OpenSpec.ofChange crcBurstWrong)

/-- 'pilcrowlaw16.CrcLinear': WHATEVER THE INPUT: true; the input reads as it did. -/
def crcLinearSpec : ChangeSpec := { name := "crcLinear", fn := fun _ => fun
  | [d1, d2, d3] => { results := [.lit (.bool true)], args := [d1, d2, d3] }
  | _ => none }
def crcLinearRow : OpenClaim := { program := "ytlgblkhkohhhkaadoor", sum := "38351bc83872ab27d2a0bf605fd105c36a7a8e6f2a2e4d897f6261231240002c", func := "pilcrow/pilcrowlaw16.CrcLinear", spec := "crcLinear", named := ["pilcrow/crc.steps"], apart := false, laid := [("pilcrow/crc.steps", laid_pilcrow_crc_steps)] }
def CrcLinearSaid : Prop := crcLinearRow.holds Tryd.pinned (OpenSpec.ofChange crcLinearSpec)

/-- ITS FALSE NEIGHBOUR: 'it returns false'. Refute it at one input. -/
def crcLinearWrong : ChangeSpec := { name := "crcLinear", fn := fun _ => fun
  | [d1, d2, d3] => { results := [.lit (.bool false)], args := [d1, d2, d3] }
  | _ => none }
def CrcLinearWrongFalsely : Prop := crcLinearRow.holds Tryd.pinned (OpenSpec.ofChange crcLinearWrong)

/- THE SECOND FORM. 'bulk': how many values and letters a reading holds, each counted each time it is reached (what is shared counts as often as it is met; a slice's spare places count too). A statement '..UptoSaid' is the law's where the arguments, and the package variables that the reading takes, are together of bulk at most 1048576: NARROWER than '..Said'. Prove '..Said' where nothing that the law and all that it calls make is longer than what came in: it says more and counts as full. Else prove '..UptoSaid'. A law counts once. -/
mutual
def uptoBulk {H : Type} : DataW H → Nat
  | .lit (.string bytes) => bytes.length + 1
  | .lit _ => 1
  | .nil => 1
  | .ptr d => uptoBulk d + 1
  | .slice elems spare => uptoBulkAll elems + uptoBulkAll spare + 1
  | .agg parts => uptoBulkAll parts + 1
  | .iface _ d => uptoBulk d + 1
  | .map entries => uptoBulkEntries entries + 1
  | .held _ => 1
def uptoBulkAll {H : Type} : List (DataW H) → Nat
  | [] => 0
  | d :: r => uptoBulk d + uptoBulkAll r
def uptoBulkEntries {H : Type} : List (Lit × DataW H) → Nat
  | [] => 0
  | x :: r => uptoBulkEntry x + uptoBulkEntries r
def uptoBulkEntry {H : Type} : Lit × DataW H → Nat
  | (.string bytes, d) => bytes.length + uptoBulk d + 1
  | (_, d) => uptoBulk d + 1
 end
def uptoSmall : (H : Type) → List (DataW H) → Bool := fun _ ds => decide (uptoBulkAll ds ≤ 1048576)
def OpenSpec.upto (s : _root_.Go.ChangeSpec) : _root_.Go.OpenSpec := { _root_.Go.OpenSpec.ofChange s with cond := some uptoSmall }

/-- 'pilcrowlaw16.CrcSums', WHERE WHAT IT READS IS OF BULK AT MOST 1048576: true; the input reads as it did. -/
def crcSumsUptoRow : OpenClaim := { program := "ytlgblkhkohhhkaadoor", sum := "38351bc83872ab27d2a0bf605fd105c36a7a8e6f2a2e4d897f6261231240002c", func := "pilcrow/pilcrowlaw16.CrcSums", spec := "crcSums", named := ["pilcrow/crc.steps"], apart := false, laid := [("pilcrow/crc.steps", laid_pilcrow_crc_steps)], narrowed := true }
def CrcSumsUptoSaid : Prop := crcSumsUptoRow.holds Tryd.pinned (OpenSpec.upto crcSumsSpec)

/-- 'pilcrowlaw16.CrcParts', WHERE WHAT IT READS IS OF BULK AT MOST 1048576: true; the input reads as it did. -/
def crcPartsUptoRow : OpenClaim := { program := "ytlgblkhkohhhkaadoor", sum := "38351bc83872ab27d2a0bf605fd105c36a7a8e6f2a2e4d897f6261231240002c", func := "pilcrow/pilcrowlaw16.CrcParts", spec := "crcParts", named := ["pilcrow/crc.steps"], apart := false, laid := [("pilcrow/crc.steps", laid_pilcrow_crc_steps)], narrowed := true }
def CrcPartsUptoSaid : Prop := crcPartsUptoRow.holds Tryd.pinned (OpenSpec.upto crcPartsSpec)

/-- 'pilcrowlaw16.CrcFours', WHERE WHAT IT READS IS OF BULK AT MOST 1048576: true; the input reads as it did. -/
def crcFoursUptoRow : OpenClaim := { program := "ytlgblkhkohhhkaadoor", sum := "38351bc83872ab27d2a0bf605fd105c36a7a8e6f2a2e4d897f6261231240002c", func := "pilcrow/pilcrowlaw16.CrcFours", spec := "crcFours", named := ["pilcrow/crc.steps"], apart := false, laid := [("pilcrow/crc.steps", laid_pilcrow_crc_steps)], narrowed := true }
def CrcFoursUptoSaid : Prop := crcFoursUptoRow.holds Tryd.pinned (OpenSpec.upto crcFoursSpec)

/-- 'pilcrowlaw16.CrcBurst', WHERE WHAT IT READS IS OF BULK AT MOST 1048576: true; the input reads as it did. -/
def crcBurstUptoRow : OpenClaim := { program := "ytlgblkhkohhhkaadoor", sum := "38351bc83872ab27d2a0bf605fd105c36a7a8e6f2a2e4d897f6261231240002c", func := "pilcrow/pilcrowlaw16.CrcBurst", spec := "crcBurst", named := ["pilcrow/crc.steps"], apart := false, laid := [("pilcrow/crc.steps", laid_pilcrow_crc_steps)], narrowed := true }
def CrcBurstUptoSaid : Prop := crcBurstUptoRow.holds Tryd.pinned (OpenSpec.upto crcBurstSpec)

/-- 'pilcrowlaw16.CrcLinear', WHERE WHAT IT READS IS OF BULK AT MOST 1048576: true; the input reads as it did. -/
def crcLinearUptoRow : OpenClaim := { program := "ytlgblkhkohhhkaadoor", sum := "38351bc83872ab27d2a0bf605fd105c36a7a8e6f2a2e4d897f6261231240002c", func := "pilcrow/pilcrowlaw16.CrcLinear", spec := "crcLinear", named := ["pilcrow/crc.steps"], apart := false, laid := [("pilcrow/crc.steps", laid_pilcrow_crc_steps)], narrowed := true }
def CrcLinearUptoSaid : Prop := crcLinearUptoRow.holds Tryd.pinned (OpenSpec.upto crcLinearSpec)

end Rows
end Go.Proofs.YtlgblkhkohhhkaaDoor
