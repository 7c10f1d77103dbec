/-
  NARROWER THAN 'FOR EVERY INPUT', by the rows' own cells (each row's printed sentence says how): EbcdicControls: laid.
  DERIVED. THE GIVEN ROWS OF THIS SEAT. 1 by the template 'for every input the law returns true; each argument reads behind the call as it read before'; 0 by the template 'total and deterministic' (their statements: YtngcdagnkgjfaabDoorTotals.lean).
  GIVEN WITH THE SEED: the statements are not yours to turn. If you find one false, say at which input.
  Laid BY PROGRAM, IN A SANDBOX (cutbox-rows.mjs): the forced cells as the released guide's own fill.sh prints them over the translation bd620503a5164771… (all of the seat's roots in one cut). By AI agents, Wed Nov 11 2026. No macro, syntax, notation, axiom, sorry.
-/
import Derived.Test.YtngcdagnkgjfaabDoorChecked
import GoSem.Claim
import GoSem.ClaimJoined
import GoSem.ClaimMapViews
import Derived.JoinedTies
import Derived.KernelRfl
namespace Go.Proofs.YtngcdagnkgjfaabDoor
/- THE CELL 'sum', in the pinned program and in every row, IS THE sha256 OF THE DUMP (.gsa) THAT YtngcdagnkgjfaabDoorProg.lean LOADS. Nothing in Lean hashes anything: it is a label: what it is worth is what the hold of that sum in a sandbox is worth. -/
noncomputable def Tryd.pinned : Pinned := { name := "ytngcdagnkgjfaabdoor", sum := "bd620503a5164771dec78c6414d4e6feec3d1dd0d4da3e79fb499df4abde1dfe", checked := Tryd.checked }
namespace Rows
def none {H : Type} : Left H := { results := [], args := [] }

/- WHAT THE LISTED PACKAGE-LEVEL VARIABLES READ AS WHEN THE CALL BEGINS. Each datum BY PROGRAM (the guide's laid-datum.mjs) off the statement by which the dump's own 'gosem.cut.vars' lays the variable. In a bare row this is a premise. The card (YtngcdagnkgjfaabDoorCards.lean) ties it to the program's text. -/
def laid_pilcrow_mod8_rows {H : Type} : DataW H := .agg [.agg [.lit (.int .u32 0), .lit (.int .u8 0)], .agg [.lit (.int .u32 160), .lit (.int .u8 192)], .agg [.lit (.int .u32 1024), .lit (.int .u8 224)], .agg [.lit (.int .u32 16384), .lit (.int .u8 240)], .agg [.lit (.int .u32 262144), .lit (.int .u8 248)]]

/-- 'pilcrowlaw08.EbcdicControls': WHATEVER THE INPUT: true; the input reads as it did. -/
def ebcdicControlsSpec : ChangeSpec := { name := "ebcdicControls", fn := fun _ => fun
  | [d] => { results := [.lit (.bool true)], args := [d] }
  | _ => none }
def ebcdicControlsRow : OpenClaim := { program := "ytngcdagnkgjfaabdoor", sum := "bd620503a5164771dec78c6414d4e6feec3d1dd0d4da3e79fb499df4abde1dfe", func := "pilcrow/pilcrowlaw08.EbcdicControls", spec := "ebcdicControls", inPlace := ["internal/abi.NoEscape"], named := ["pilcrow/mod8.rows"], apart := false, laid := [("pilcrow/mod8.rows", laid_pilcrow_mod8_rows)] }
def EbcdicControlsSaid : Prop := ebcdicControlsRow.holds Tryd.pinned (OpenSpec.ofChange ebcdicControlsSpec)

/-- ITS FALSE NEIGHBOUR: 'it returns false'. Refute it at one input. -/
def ebcdicControlsWrong : ChangeSpec := { name := "ebcdicControls", fn := fun _ => fun
  | [d] => { results := [.lit (.bool false)], args := [d] }
  | _ => none }
def EbcdicControlsWrongFalsely : Prop := ebcdicControlsRow.holds Tryd.pinned (OpenSpec.ofChange ebcdicControlsWrong)

/- THE SECOND FORM. 'bulk': how many values and letters a reading holds, each counted each time it is reached (what is shared counts as often as it is met; a slice's spare places count too). A statement '..UptoSaid' is the law's where the arguments, and the package variables that the reading takes, are together of bulk at most 1048576: NARROWER than '..Said'. Prove '..Said' where nothing that the law and all that it calls make is longer than what came in: it says more and counts as full. Else prove '..UptoSaid'. A law counts once. -/
mutual
def uptoBulk {H : Type} : DataW H → Nat
  | .lit (.string bytes) => bytes.length + 1
  | .lit _ => 1
  | .nil => 1
  | .ptr d => uptoBulk d + 1
  | .slice elems spare => uptoBulkAll elems + uptoBulkAll spare + 1
  | .agg parts => uptoBulkAll parts + 1
  | .iface _ d => uptoBulk d + 1
  | .map entries => uptoBulkEntries entries + 1
  | .held _ => 1
def uptoBulkAll {H : Type} : List (DataW H) → Nat
  | [] => 0
  | d :: r => uptoBulk d + uptoBulkAll r
def uptoBulkEntries {H : Type} : List (Lit × DataW H) → Nat
  | [] => 0
  | x :: r => uptoBulkEntry x + uptoBulkEntries r
def uptoBulkEntry {H : Type} : Lit × DataW H → Nat
  | (.string bytes, d) => bytes.length + uptoBulk d + 1
  | (_, d) => uptoBulk d + 1
 end
def uptoSmall : (H : Type) → List (DataW H) → Bool := fun _ ds => decide (uptoBulkAll ds ≤ 1048576)
def OpenSpec.upto (s : _root_.Go.ChangeSpec) : _root_.Go.OpenSpec := { _root_.Go.OpenSpec.ofChange s with cond := some uptoSmall }

/-- 'pilcrowlaw08.EbcdicControls', WHERE WHAT IT READS IS OF BULK AT MOST 1048576: true; the input reads as it did. -/
def ebcdicControlsUptoRow : OpenClaim := { program := "ytngcdagnkgjfaabdoor", sum := "bd620503a5164771dec78c6414d4e6feec3d1dd0d4da3e79fb499df4abde1dfe", func := "pilcrow/pilcrowlaw08.EbcdicControls", spec := "ebcdicControls", inPlace := ["internal/abi.NoEscape"], named := ["pilcrow/mod8.rows"], apart := false, laid := [("pilcrow/mod8.rows", laid_pilcrow_mod8_rows)], narrowed := true }
def EbcdicControlsUptoSaid : Prop := ebcdicControlsUptoRow.holds Tryd.pinned (OpenSpec.upto ebcdicControlsSpec)

end Rows
end Go.Proofs.YtngcdagnkgjfaabDoor
