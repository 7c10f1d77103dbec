/-
  NARROWER THAN 'FOR EVERY INPUT', by the rows' own cells (each row's printed sentence says how): EbcdicReads: laid · EbcdicWrites: laid · EbcdicBack: laid · EbcdicOne: laid · EbcdicExtends: laid · EbcdicMod8: laid.
  DERIVED. THE GIVEN ROWS OF THIS SEAT. 6 by the template 'for every input the law returns true; each argument reads behind the call as it read before'; 0 by the template 'total and deterministic' (their statements: YtngcdagnkgjfaaaDoorTotals.lean).
  GIVEN WITH THE SEED: the statements are not yours to turn. If you find one false, say at which input.
  Laid BY PROGRAM, IN A SANDBOX (cutbox-rows.mjs): the forced cells as the released guide's own fill.sh prints them over the translation 25fc559bbb65920f… (all of the seat's roots in one cut). By AI agents, Wed Nov 11 2026. No macro, syntax, notation, axiom, sorry.
-/
import Derived.Test.YtngcdagnkgjfaaaDoorChecked
import GoSem.Claim
import GoSem.ClaimJoined
import GoSem.ClaimMapViews
import Derived.JoinedTies
import Derived.KernelRfl
namespace Go.Proofs.YtngcdagnkgjfaaaDoor
/- THE CELL 'sum', in the pinned program and in every row, IS THE sha256 OF THE DUMP (.gsa) THAT YtngcdagnkgjfaaaDoorProg.lean LOADS. Nothing in Lean hashes anything: it is a label: what it is worth is what the hold of that sum in a sandbox is worth. -/
noncomputable def Tryd.pinned : Pinned := { name := "ytngcdagnkgjfaaadoor", sum := "25fc559bbb65920fc9d39f685db307c2b64e4d232136dd6a9484dc8034a1c86d", checked := Tryd.checked }
namespace Rows
def none {H : Type} : Left H := { results := [], args := [] }

/- WHAT THE LISTED PACKAGE-LEVEL VARIABLES READ AS WHEN THE CALL BEGINS. Each datum BY PROGRAM (the guide's laid-datum.mjs) off the statement by which the dump's own 'gosem.cut.vars' lays the variable. In a bare row this is a premise. The card (YtngcdagnkgjfaaaDoorCards.lean) ties it to the program's text. -/
def laid_pilcrow_mod8_rows {H : Type} : DataW H := .agg [.agg [.lit (.int .u32 0), .lit (.int .u8 0)], .agg [.lit (.int .u32 160), .lit (.int .u8 192)], .agg [.lit (.int .u32 1024), .lit (.int .u8 224)], .agg [.lit (.int .u32 16384), .lit (.int .u8 240)], .agg [.lit (.int .u32 262144), .lit (.int .u8 248)]]

/-- 'pilcrowlaw08.EbcdicReads': WHATEVER THE INPUT: true; the input reads as it did. -/
def ebcdicReadsSpec : ChangeSpec := { name := "ebcdicReads", fn := fun _ => fun
  | [d1, d2, d3] => { results := [.lit (.bool true)], args := [d1, d2, d3] }
  | _ => none }
def ebcdicReadsRow : OpenClaim := { program := "ytngcdagnkgjfaaadoor", sum := "25fc559bbb65920fc9d39f685db307c2b64e4d232136dd6a9484dc8034a1c86d", func := "pilcrow/pilcrowlaw08.EbcdicReads", spec := "ebcdicReads", inPlace := ["internal/abi.NoEscape"], named := ["pilcrow/mod8.rows"], apart := false, laid := [("pilcrow/mod8.rows", laid_pilcrow_mod8_rows)] }
def EbcdicReadsSaid : Prop := ebcdicReadsRow.holds Tryd.pinned (OpenSpec.ofChange ebcdicReadsSpec)

/-- ITS FALSE NEIGHBOUR: 'it returns false'. Refute it at one input. -/
def ebcdicReadsWrong : ChangeSpec := { name := "ebcdicReads", fn := fun _ => fun
  | [d1, d2, d3] => { results := [.lit (.bool false)], args := [d1, d2, d3] }
  | _ => none }
def EbcdicReadsWrongFalsely : Prop := ebcdicReadsRow.holds Tryd.pinned (OpenSpec.ofChange ebcdicReadsWrong)

/-- 'pilcrowlaw08.EbcdicWrites': WHATEVER THE INPUT: true; the input reads as it did. -/
def ebcdicWritesSpec : ChangeSpec := { name := "ebcdicWrites", fn := fun _ => fun
  | [d1, d2, d3] => { results := [.lit (.bool true)], args := [d1, d2, d3] }
  | _ => none }
def ebcdicWritesRow : OpenClaim := { program := "ytngcdagnkgjfaaadoor", sum := "25fc559bbb65920fc9d39f685db307c2b64e4d232136dd6a9484dc8034a1c86d", func := "pilcrow/pilcrowlaw08.EbcdicWrites", spec := "ebcdicWrites", inPlace := ["internal/abi.NoEscape"], named := ["pilcrow/mod8.rows"], apart := false, laid := [("pilcrow/mod8.rows", laid_pilcrow_mod8_rows)] }
def EbcdicWritesSaid : Prop := ebcdicWritesRow.holds Tryd.pinned (OpenSpec.ofChange ebcdicWritesSpec)

/-- ITS FALSE NEIGHBOUR: 'it returns false'. Refute it at one input. -/
def ebcdicWritesWrong : ChangeSpec := { name := "ebcdicWrites", fn := fun _ => fun
  | [d1, d2, d3] => { results := [.lit (.bool false)], args := [d1, d2, d3] }
  | _ => none }
def EbcdicWritesWrongFalsely : Prop := ebcdicWritesRow.holds Tryd.pinned (OpenSpec.ofChange ebcdicWritesWrong)

/-- 'pilcrowlaw08.EbcdicBack': WHATEVER THE INPUT: true; the input reads as it did. -/
def ebcdicBackSpec : ChangeSpec := { name := "ebcdicBack", fn := fun _ => fun
  | [d1, d2, d3] => { results := [.lit (.bool true)], args := [d1, d2, d3] }
  | _ => none }
def ebcdicBackRow : OpenClaim := { program := "ytngcdagnkgjfaaadoor", sum := "25fc559bbb65920fc9d39f685db307c2b64e4d232136dd6a9484dc8034a1c86d", func := "pilcrow/pilcrowlaw08.EbcdicBack", spec := "ebcdicBack", inPlace := ["internal/abi.NoEscape"], named := ["pilcrow/mod8.rows"], apart := false, laid := [("pilcrow/mod8.rows", laid_pilcrow_mod8_rows)] }
def EbcdicBackSaid : Prop := ebcdicBackRow.holds Tryd.pinned (OpenSpec.ofChange ebcdicBackSpec)

/-- ITS FALSE NEIGHBOUR: 'it returns false'. Refute it at one input. -/
def ebcdicBackWrong : ChangeSpec := { name := "ebcdicBack", fn := fun _ => fun
  | [d1, d2, d3] => { results := [.lit (.bool false)], args := [d1, d2, d3] }
  | _ => none }
def EbcdicBackWrongFalsely : Prop := ebcdicBackRow.holds Tryd.pinned (OpenSpec.ofChange ebcdicBackWrong)

/-- 'pilcrowlaw08.EbcdicOne': WHATEVER THE INPUT: true; the input reads as it did. -/
def ebcdicOneSpec : ChangeSpec := { name := "ebcdicOne", fn := fun _ => fun
  | [d] => { results := [.lit (.bool true)], args := [d] }
  | _ => none }
def ebcdicOneRow : OpenClaim := { program := "ytngcdagnkgjfaaadoor", sum := "25fc559bbb65920fc9d39f685db307c2b64e4d232136dd6a9484dc8034a1c86d", func := "pilcrow/pilcrowlaw08.EbcdicOne", spec := "ebcdicOne", inPlace := ["internal/abi.NoEscape"], named := ["pilcrow/mod8.rows"], apart := false, laid := [("pilcrow/mod8.rows", laid_pilcrow_mod8_rows)] }
def EbcdicOneSaid : Prop := ebcdicOneRow.holds Tryd.pinned (OpenSpec.ofChange ebcdicOneSpec)

/-- ITS FALSE NEIGHBOUR: 'it returns false'. Refute it at one input. -/
def ebcdicOneWrong : ChangeSpec := { name := "ebcdicOne", fn := fun _ => fun
  | [d] => { results := [.lit (.bool false)], args := [d] }
  | _ => none }
def EbcdicOneWrongFalsely : Prop := ebcdicOneRow.holds Tryd.pinned (OpenSpec.ofChange ebcdicOneWrong)

/-- 'pilcrowlaw08.EbcdicExtends': WHATEVER THE INPUT: true; the input reads as it did. -/
def ebcdicExtendsSpec : ChangeSpec := { name := "ebcdicExtends", fn := fun _ => fun
  | [d1, d2] => { results := [.lit (.bool true)], args := [d1, d2] }
  | _ => none }
def ebcdicExtendsRow : OpenClaim := { program := "ytngcdagnkgjfaaadoor", sum := "25fc559bbb65920fc9d39f685db307c2b64e4d232136dd6a9484dc8034a1c86d", func := "pilcrow/pilcrowlaw08.EbcdicExtends", spec := "ebcdicExtends", inPlace := ["internal/abi.NoEscape"], named := ["pilcrow/mod8.rows"], apart := false, laid := [("pilcrow/mod8.rows", laid_pilcrow_mod8_rows)] }
def EbcdicExtendsSaid : Prop := ebcdicExtendsRow.holds Tryd.pinned (OpenSpec.ofChange ebcdicExtendsSpec)

/-- ITS FALSE NEIGHBOUR: 'it returns false'. Refute it at one input. -/
def ebcdicExtendsWrong : ChangeSpec := { name := "ebcdicExtends", fn := fun _ => fun
  | [d1, d2] => { results := [.lit (.bool false)], args := [d1, d2] }
  | _ => none }
def EbcdicExtendsWrongFalsely : Prop := ebcdicExtendsRow.holds Tryd.pinned (OpenSpec.ofChange ebcdicExtendsWrong)

/-- 'pilcrowlaw08.EbcdicMod8': WHATEVER THE INPUT: true; the input reads as it did. -/
def ebcdicMod8Spec : ChangeSpec := { name := "ebcdicMod8", fn := fun _ => fun
  | [d1, d2] => { results := [.lit (.bool true)], args := [d1, d2] }
  | _ => none }
def ebcdicMod8Row : OpenClaim := { program := "ytngcdagnkgjfaaadoor", sum := "25fc559bbb65920fc9d39f685db307c2b64e4d232136dd6a9484dc8034a1c86d", func := "pilcrow/pilcrowlaw08.EbcdicMod8", spec := "ebcdicMod8", inPlace := ["internal/abi.NoEscape"], named := ["pilcrow/mod8.rows"], apart := false, laid := [("pilcrow/mod8.rows", laid_pilcrow_mod8_rows)] }
def EbcdicMod8Said : Prop := ebcdicMod8Row.holds Tryd.pinned (OpenSpec.ofChange ebcdicMod8Spec)

/-- ITS FALSE NEIGHBOUR: 'it returns false'. Refute it at one input. -/
def ebcdicMod8Wrong : ChangeSpec := { name := "ebcdicMod8", fn := fun _ => fun
  | [d1, d2] => { results := [.lit (.bool false)], args := [d1, d2] }
  | _ => none }
def EbcdicMod8WrongFalsely : Prop := ebcdicMod8Row.holds Tryd.pinned (OpenSpec.ofChange ebcdicMod8Wrong)

/- THE SECOND FORM. 'bulk': how many values and letters a reading holds, each counted each time it is reached (what is shared counts as often as it is met; a slice's spare places count too). A statement '..UptoSaid' is the law's where the arguments, and the package variables that the reading takes, are together of bulk at most 1048576: NARROWER than '..Said'. Prove '..Said' where nothing that the law and all that it calls make is longer than what came in: it says more and counts as full. Else prove '..UptoSaid'. A law counts once. -/
mutual
def uptoBulk {H : Type} : DataW H → Nat
  | .lit (.string bytes) => bytes.length + 1
  | .lit _ => 1
  | .nil => 1
  | .ptr d => uptoBulk d + 1
  | .slice elems spare => uptoBulkAll elems + uptoBulkAll spare + 1
  | .agg parts => uptoBulkAll parts + 1
  | .iface _ d => uptoBulk d + 1
  | .map entries => uptoBulkEntries entries + 1
  | .held _ => 1
def uptoBulkAll {H : Type} : List (DataW H) → Nat
  | [] => 0
  | d :: r => uptoBulk d + uptoBulkAll r
def uptoBulkEntries {H : Type} : List (Lit × DataW H) → Nat
  | [] => 0
  | x :: r => uptoBulkEntry x + uptoBulkEntries r
def uptoBulkEntry {H : Type} : Lit × DataW H → Nat
  | (.string bytes, d) => bytes.length + uptoBulk d + 1
  | (_, d) => uptoBulk d + 1
 end
def uptoSmall : (H : Type) → List (DataW H) → Bool := fun _ ds => decide (uptoBulkAll ds ≤ 1048576)
def OpenSpec.upto (s : _root_.Go.ChangeSpec) : _root_.Go.OpenSpec := { _root_.Go.OpenSpec.ofChange s with cond := some uptoSmall }

/-- 'pilcrowlaw08.EbcdicReads', WHERE WHAT IT READS IS OF BULK AT MOST 1048576: true; the input reads as it did. -/
def ebcdicReadsUptoRow : OpenClaim := { program := "ytngcdagnkgjfaaadoor", sum := "25fc559bbb65920fc9d39f685db307c2b64e4d232136dd6a9484dc8034a1c86d", func := "pilcrow/pilcrowlaw08.EbcdicReads", spec := "ebcdicReads", inPlace := ["internal/abi.NoEscape"], named := ["pilcrow/mod8.rows"], apart := false, laid := [("pilcrow/mod8.rows", laid_pilcrow_mod8_rows)], narrowed := true }
def EbcdicReadsUptoSaid : Prop := ebcdicReadsUptoRow.holds Tryd.pinned (OpenSpec.upto ebcdicReadsSpec)

/-- 'pilcrowlaw08.EbcdicWrites', WHERE WHAT IT READS IS OF BULK AT MOST 1048576: true; the input reads as it did. -/
def ebcdicWritesUptoRow : OpenClaim := { program := "ytngcdagnkgjfaaadoor", sum := "25fc559bbb65920fc9d39f685db307c2b64e4d232136dd6a9484dc8034a1c86d", func := "pilcrow/pilcrowlaw08.EbcdicWrites", spec := "ebcdicWrites", inPlace := ["internal/abi.NoEscape"], named := ["pilcrow/mod8.rows"], apart := false, laid := [("pilcrow/mod8.rows", laid_pilcrow_mod8_rows)], narrowed := true }
def EbcdicWritesUptoSaid : Prop := ebcdicWritesUptoRow.holds Tryd.pinned (OpenSpec.upto ebcdicWritesSpec)

/-- 'pilcrowlaw08.EbcdicBack', WHERE WHAT IT READS IS OF BULK AT MOST 1048576: true; the input reads as it did. -/
def ebcdicBackUptoRow : OpenClaim := { program := "ytngcdagnkgjfaaadoor", sum := "25fc559bbb65920fc9d39f685db307c2b64e4d232136dd6a9484dc8034a1c86d", func := "pilcrow/pilcrowlaw08.EbcdicBack", spec := "ebcdicBack", inPlace := ["internal/abi.NoEscape"], named := ["pilcrow/mod8.rows"], apart := false, laid := [("pilcrow/mod8.rows", laid_pilcrow_mod8_rows)], narrowed := true }
def EbcdicBackUptoSaid : Prop := ebcdicBackUptoRow.holds Tryd.pinned (OpenSpec.upto ebcdicBackSpec)

/-- 'pilcrowlaw08.EbcdicOne', WHERE WHAT IT READS IS OF BULK AT MOST 1048576: true; the input reads as it did. -/
def ebcdicOneUptoRow : OpenClaim := { program := "ytngcdagnkgjfaaadoor", sum := "25fc559bbb65920fc9d39f685db307c2b64e4d232136dd6a9484dc8034a1c86d", func := "pilcrow/pilcrowlaw08.EbcdicOne", spec := "ebcdicOne", inPlace := ["internal/abi.NoEscape"], named := ["pilcrow/mod8.rows"], apart := false, laid := [("pilcrow/mod8.rows", laid_pilcrow_mod8_rows)], narrowed := true }
def EbcdicOneUptoSaid : Prop := ebcdicOneUptoRow.holds Tryd.pinned (OpenSpec.upto ebcdicOneSpec)

/-- 'pilcrowlaw08.EbcdicExtends', WHERE WHAT IT READS IS OF BULK AT MOST 1048576: true; the input reads as it did. -/
def ebcdicExtendsUptoRow : OpenClaim := { program := "ytngcdagnkgjfaaadoor", sum := "25fc559bbb65920fc9d39f685db307c2b64e4d232136dd6a9484dc8034a1c86d", func := "pilcrow/pilcrowlaw08.EbcdicExtends", spec := "ebcdicExtends", inPlace := ["internal/abi.NoEscape"], named := ["pilcrow/mod8.rows"], apart := false, laid := [("pilcrow/mod8.rows", laid_pilcrow_mod8_rows)], narrowed := true }
def EbcdicExtendsUptoSaid : Prop := ebcdicExtendsUptoRow.holds Tryd.pinned (OpenSpec.upto ebcdicExtendsSpec)

/-- 'pilcrowlaw08.EbcdicMod8', WHERE WHAT IT READS IS OF BULK AT MOST 1048576: true; the input reads as it did. -/
def ebcdicMod8UptoRow : OpenClaim := { program := "ytngcdagnkgjfaaadoor", sum := "25fc559bbb65920fc9d39f685db307c2b64e4d232136dd6a9484dc8034a1c86d", func := "pilcrow/pilcrowlaw08.EbcdicMod8", spec := "ebcdicMod8", inPlace := ["internal/abi.NoEscape"], named := ["pilcrow/mod8.rows"], apart := false, laid := [("pilcrow/mod8.rows", laid_pilcrow_mod8_rows)], narrowed := true }
def EbcdicMod8UptoSaid : Prop := ebcdicMod8UptoRow.holds Tryd.pinned (OpenSpec.upto ebcdicMod8Spec)

end Rows
end Go.Proofs.YtngcdagnkgjfaaaDoor
