/-
  NARROWER THAN 'FOR EVERY INPUT', by the rows' own cells (each row's printed sentence says how): Mod8Reads: laid · Mod8Writes: laid · Mod8Back: laid · Mod8One: laid · Mod8Extends: laid · Mod8Order: laid · EbcdicReads: laid · EbcdicWrites: laid · EbcdicBack: laid · EbcdicOne: laid · EbcdicExtends: laid · EbcdicMod8: laid · EbcdicControls: laid.
  DERIVED. THE GIVEN ROWS OF THIS SEAT. 13 by the template 'for every input the law returns true; each argument reads behind the call as it read before'; 0 by the template 'total and deterministic' (their statements: YtjbgcclbomimiaaDoorTotals.lean).
  GIVEN WITH THE SEED: the statements are not yours to turn. If you find one false, say at which input.
  Laid BY PROGRAM, IN A SANDBOX (cutbox-rows.mjs): the forced cells as the released guide's own fill.sh prints them over the translation 9cee782ecd1eef43… (all of the seat's roots in one cut). By AI agents, Wed Nov 11 2026. No macro, syntax, notation, axiom, sorry.
-/
import Derived.Test.YtjbgcclbomimiaaDoorChecked
import GoSem.Claim
import GoSem.ClaimJoined
import GoSem.ClaimMapViews
import Derived.JoinedTies
import Derived.KernelRfl
namespace Go.Proofs.YtjbgcclbomimiaaDoor
/- THE CELL 'sum', in the pinned program and in every row, IS THE sha256 OF THE DUMP (.gsa) THAT YtjbgcclbomimiaaDoorProg.lean LOADS. Nothing in Lean hashes anything: it is a label: what it is worth is what the hold of that sum in a sandbox is worth. -/
noncomputable def Tryd.pinned : Pinned := { name := "ytjbgcclbomimiaadoor", sum := "9cee782ecd1eef433c8df32e7a8a66d81f1b4915c510a39d65a230fbb16b4471", checked := Tryd.checked }
namespace Rows
def none {H : Type} : Left H := { results := [], args := [] }

/- WHAT THE LISTED PACKAGE-LEVEL VARIABLES READ AS WHEN THE CALL BEGINS. Each datum BY PROGRAM (the guide's laid-datum.mjs) off the statement by which the dump's own 'gosem.cut.vars' lays the variable. In a bare row this is a premise. The card (YtjbgcclbomimiaaDoorCards.lean) ties it to the program's text. -/
def laid_pilcrow_mod8_rows {H : Type} : DataW H := .agg [.agg [.lit (.int .u32 0), .lit (.int .u8 0)], .agg [.lit (.int .u32 160), .lit (.int .u8 192)], .agg [.lit (.int .u32 1024), .lit (.int .u8 224)], .agg [.lit (.int .u32 16384), .lit (.int .u8 240)], .agg [.lit (.int .u32 262144), .lit (.int .u8 248)]]

/-- 'pilcrowlaw06.Mod8Reads': WHATEVER THE INPUT: true; the input reads as it did. -/
def mod8ReadsSpec : ChangeSpec := { name := "mod8Reads", fn := fun _ => fun
  | [d1, d2, d3] => { results := [.lit (.bool true)], args := [d1, d2, d3] }
  | _ => none }
def mod8ReadsRow : OpenClaim := { program := "ytjbgcclbomimiaadoor", sum := "9cee782ecd1eef433c8df32e7a8a66d81f1b4915c510a39d65a230fbb16b4471", func := "pilcrow/pilcrowlaw06.Mod8Reads", spec := "mod8Reads", inPlace := ["internal/abi.NoEscape"], named := ["pilcrow/mod8.rows"], apart := false, laid := [("pilcrow/mod8.rows", laid_pilcrow_mod8_rows)] }
def Mod8ReadsSaid : Prop := mod8ReadsRow.holds Tryd.pinned (OpenSpec.ofChange mod8ReadsSpec)

/-- ITS FALSE NEIGHBOUR: 'it returns false'. Refute it at one input. -/
def mod8ReadsWrong : ChangeSpec := { name := "mod8Reads", fn := fun _ => fun
  | [d1, d2, d3] => { results := [.lit (.bool false)], args := [d1, d2, d3] }
  | _ => none }
def Mod8ReadsWrongFalsely : Prop := mod8ReadsRow.holds Tryd.pinned (OpenSpec.ofChange mod8ReadsWrong)

/-- 'pilcrowlaw06.Mod8Writes': WHATEVER THE INPUT: true; the input reads as it did. -/
def mod8WritesSpec : ChangeSpec := { name := "mod8Writes", fn := fun _ => fun
  | [d1, d2, d3] => { results := [.lit (.bool true)], args := [d1, d2, d3] }
  | _ => none }
def mod8WritesRow : OpenClaim := { program := "ytjbgcclbomimiaadoor", sum := "9cee782ecd1eef433c8df32e7a8a66d81f1b4915c510a39d65a230fbb16b4471", func := "pilcrow/pilcrowlaw06.Mod8Writes", spec := "mod8Writes", inPlace := ["internal/abi.NoEscape"], named := ["pilcrow/mod8.rows"], apart := false, laid := [("pilcrow/mod8.rows", laid_pilcrow_mod8_rows)] }
def Mod8WritesSaid : Prop := mod8WritesRow.holds Tryd.pinned (OpenSpec.ofChange mod8WritesSpec)

/-- ITS FALSE NEIGHBOUR: 'it returns false'. Refute it at one input. -/
def mod8WritesWrong : ChangeSpec := { name := "mod8Writes", fn := fun _ => fun
  | [d1, d2, d3] => { results := [.lit (.bool false)], args := [d1, d2, d3] }
  | _ => none }
def Mod8WritesWrongFalsely : Prop := mod8WritesRow.holds Tryd.pinned (OpenSpec.ofChange mod8WritesWrong)

/-- 'pilcrowlaw06.Mod8Back': WHATEVER THE INPUT: true; the input reads as it did. -/
def mod8BackSpec : ChangeSpec := { name := "mod8Back", fn := fun _ => fun
  | [d1, d2, d3] => { results := [.lit (.bool true)], args := [d1, d2, d3] }
  | _ => none }
def mod8BackRow : OpenClaim := { program := "ytjbgcclbomimiaadoor", sum := "9cee782ecd1eef433c8df32e7a8a66d81f1b4915c510a39d65a230fbb16b4471", func := "pilcrow/pilcrowlaw06.Mod8Back", spec := "mod8Back", inPlace := ["internal/abi.NoEscape"], named := ["pilcrow/mod8.rows"], apart := false, laid := [("pilcrow/mod8.rows", laid_pilcrow_mod8_rows)] }
def Mod8BackSaid : Prop := mod8BackRow.holds Tryd.pinned (OpenSpec.ofChange mod8BackSpec)

/-- ITS FALSE NEIGHBOUR: 'it returns false'. Refute it at one input. -/
def mod8BackWrong : ChangeSpec := { name := "mod8Back", fn := fun _ => fun
  | [d1, d2, d3] => { results := [.lit (.bool false)], args := [d1, d2, d3] }
  | _ => none }
def Mod8BackWrongFalsely : Prop := mod8BackRow.holds Tryd.pinned (OpenSpec.ofChange mod8BackWrong)

/-- 'pilcrowlaw06.Mod8One': WHATEVER THE INPUT: true; the input reads as it did. -/
def mod8OneSpec : ChangeSpec := { name := "mod8One", fn := fun _ => fun
  | [d] => { results := [.lit (.bool true)], args := [d] }
  | _ => none }
def mod8OneRow : OpenClaim := { program := "ytjbgcclbomimiaadoor", sum := "9cee782ecd1eef433c8df32e7a8a66d81f1b4915c510a39d65a230fbb16b4471", func := "pilcrow/pilcrowlaw06.Mod8One", spec := "mod8One", inPlace := ["internal/abi.NoEscape"], named := ["pilcrow/mod8.rows"], apart := false, laid := [("pilcrow/mod8.rows", laid_pilcrow_mod8_rows)] }
def Mod8OneSaid : Prop := mod8OneRow.holds Tryd.pinned (OpenSpec.ofChange mod8OneSpec)

/-- ITS FALSE NEIGHBOUR: 'it returns false'. Refute it at one input. -/
def mod8OneWrong : ChangeSpec := { name := "mod8One", fn := fun _ => fun
  | [d] => { results := [.lit (.bool false)], args := [d] }
  | _ => none }
def Mod8OneWrongFalsely : Prop := mod8OneRow.holds Tryd.pinned (OpenSpec.ofChange mod8OneWrong)

/-- 'pilcrowlaw06.Mod8Extends': WHATEVER THE INPUT: true; the input reads as it did. -/
def mod8ExtendsSpec : ChangeSpec := { name := "mod8Extends", fn := fun _ => fun
  | [d1, d2] => { results := [.lit (.bool true)], args := [d1, d2] }
  | _ => none }
def mod8ExtendsRow : OpenClaim := { program := "ytjbgcclbomimiaadoor", sum := "9cee782ecd1eef433c8df32e7a8a66d81f1b4915c510a39d65a230fbb16b4471", func := "pilcrow/pilcrowlaw06.Mod8Extends", spec := "mod8Extends", inPlace := ["internal/abi.NoEscape"], named := ["pilcrow/mod8.rows"], apart := false, laid := [("pilcrow/mod8.rows", laid_pilcrow_mod8_rows)] }
def Mod8ExtendsSaid : Prop := mod8ExtendsRow.holds Tryd.pinned (OpenSpec.ofChange mod8ExtendsSpec)

/-- ITS FALSE NEIGHBOUR: 'it returns false'. Refute it at one input. -/
def mod8ExtendsWrong : ChangeSpec := { name := "mod8Extends", fn := fun _ => fun
  | [d1, d2] => { results := [.lit (.bool false)], args := [d1, d2] }
  | _ => none }
def Mod8ExtendsWrongFalsely : Prop := mod8ExtendsRow.holds Tryd.pinned (OpenSpec.ofChange mod8ExtendsWrong)

/-- 'pilcrowlaw06.Mod8Order': WHATEVER THE INPUT: true; the input reads as it did. -/
def mod8OrderSpec : ChangeSpec := { name := "mod8Order", fn := fun _ => fun
  | [d1, d2] => { results := [.lit (.bool true)], args := [d1, d2] }
  | _ => none }
def mod8OrderRow : OpenClaim := { program := "ytjbgcclbomimiaadoor", sum := "9cee782ecd1eef433c8df32e7a8a66d81f1b4915c510a39d65a230fbb16b4471", func := "pilcrow/pilcrowlaw06.Mod8Order", spec := "mod8Order", inPlace := ["internal/abi.NoEscape"], named := ["pilcrow/mod8.rows"], apart := false, laid := [("pilcrow/mod8.rows", laid_pilcrow_mod8_rows)] }
def Mod8OrderSaid : Prop := mod8OrderRow.holds Tryd.pinned (OpenSpec.ofChange mod8OrderSpec)

/-- ITS FALSE NEIGHBOUR: 'it returns false'. Refute it at one input. -/
def mod8OrderWrong : ChangeSpec := { name := "mod8Order", fn := fun _ => fun
  | [d1, d2] => { results := [.lit (.bool false)], args := [d1, d2] }
  | _ => none }
def Mod8OrderWrongFalsely : Prop := mod8OrderRow.holds Tryd.pinned (OpenSpec.ofChange mod8OrderWrong)

/-- 'pilcrowlaw08.EbcdicReads': WHATEVER THE INPUT: true; the input reads as it did. -/
def ebcdicReadsSpec : ChangeSpec := { name := "ebcdicReads", fn := fun _ => fun
  | [d1, d2, d3] => { results := [.lit (.bool true)], args := [d1, d2, d3] }
  | _ => none }
def ebcdicReadsRow : OpenClaim := { program := "ytjbgcclbomimiaadoor", sum := "9cee782ecd1eef433c8df32e7a8a66d81f1b4915c510a39d65a230fbb16b4471", func := "pilcrow/pilcrowlaw08.EbcdicReads", spec := "ebcdicReads", inPlace := ["internal/abi.NoEscape"], named := ["pilcrow/mod8.rows"], apart := false, laid := [("pilcrow/mod8.rows", laid_pilcrow_mod8_rows)] }
def EbcdicReadsSaid : Prop := ebcdicReadsRow.holds Tryd.pinned (OpenSpec.ofChange ebcdicReadsSpec)

/-- ITS FALSE NEIGHBOUR: 'it returns false'. Refute it at one input. -/
def ebcdicReadsWrong : ChangeSpec := { name := "ebcdicReads", fn := fun _ => fun
  | [d1, d2, d3] => { results := [.lit (.bool false)], args := [d1, d2, d3] }
  | _ => none }
def EbcdicReadsWrongFalsely : Prop := ebcdicReadsRow.holds Tryd.pinned (OpenSpec.ofChange ebcdicReadsWrong)

/-- 'pilcrowlaw08.EbcdicWrites': WHATEVER THE INPUT: true; the input reads as it did. -/
def ebcdicWritesSpec : ChangeSpec := { name := "ebcdicWrites", fn := fun _ => fun
  | [d1, d2, d3] => { results := [.lit (.bool true)], args := [d1, d2, d3] }
  | _ => none }
def ebcdicWritesRow : OpenClaim := { program := "ytjbgcclbomimiaadoor", sum := "9cee782ecd1eef433c8df32e7a8a66d81f1b4915c510a39d65a230fbb16b4471", func := "pilcrow/pilcrowlaw08.EbcdicWrites", spec := "ebcdicWrites", inPlace := ["internal/abi.NoEscape"], named := ["pilcrow/mod8.rows"], apart := false, laid := [("pilcrow/mod8.rows", laid_pilcrow_mod8_rows)] }
def EbcdicWritesSaid : Prop := ebcdicWritesRow.holds Tryd.pinned (OpenSpec.ofChange ebcdicWritesSpec)

/-- ITS FALSE NEIGHBOUR: 'it returns false'. Refute it at one input. -/
def ebcdicWritesWrong : ChangeSpec := { name := "ebcdicWrites", fn := fun _ => fun
  | [d1, d2, d3] => { results := [.lit (.bool false)], args := [d1, d2, d3] }
  | _ => none }
def EbcdicWritesWrongFalsely : Prop := ebcdicWritesRow.holds Tryd.pinned (OpenSpec.ofChange ebcdicWritesWrong)

/-- 'pilcrowlaw08.EbcdicBack': WHATEVER THE INPUT: true; the input reads as it did. -/
def ebcdicBackSpec : ChangeSpec := { name := "ebcdicBack", fn := fun _ => fun
  | [d1, d2, d3] => { results := [.lit (.bool true)], args := [d1, d2, d3] }
  | _ => none }
def ebcdicBackRow : OpenClaim := { program := "ytjbgcclbomimiaadoor", sum := "9cee782ecd1eef433c8df32e7a8a66d81f1b4915c510a39d65a230fbb16b4471", func := "pilcrow/pilcrowlaw08.EbcdicBack", spec := "ebcdicBack", inPlace := ["internal/abi.NoEscape"], named := ["pilcrow/mod8.rows"], apart := false, laid := [("pilcrow/mod8.rows", laid_pilcrow_mod8_rows)] }
def EbcdicBackSaid : Prop := ebcdicBackRow.holds Tryd.pinned (OpenSpec.ofChange ebcdicBackSpec)

/-- ITS FALSE NEIGHBOUR: 'it returns false'. Refute it at one input. -/
def ebcdicBackWrong : ChangeSpec := { name := "ebcdicBack", fn := fun _ => fun
  | [d1, d2, d3] => { results := [.lit (.bool false)], args := [d1, d2, d3] }
  | _ => none }
def EbcdicBackWrongFalsely : Prop := ebcdicBackRow.holds Tryd.pinned (OpenSpec.ofChange ebcdicBackWrong)

/-- 'pilcrowlaw08.EbcdicOne': WHATEVER THE INPUT: true; the input reads as it did. -/
def ebcdicOneSpec : ChangeSpec := { name := "ebcdicOne", fn := fun _ => fun
  | [d] => { results := [.lit (.bool true)], args := [d] }
  | _ => none }
def ebcdicOneRow : OpenClaim := { program := "ytjbgcclbomimiaadoor", sum := "9cee782ecd1eef433c8df32e7a8a66d81f1b4915c510a39d65a230fbb16b4471", func := "pilcrow/pilcrowlaw08.EbcdicOne", spec := "ebcdicOne", inPlace := ["internal/abi.NoEscape"], named := ["pilcrow/mod8.rows"], apart := false, laid := [("pilcrow/mod8.rows", laid_pilcrow_mod8_rows)] }
def EbcdicOneSaid : Prop := ebcdicOneRow.holds Tryd.pinned (OpenSpec.ofChange ebcdicOneSpec)

/-- ITS FALSE NEIGHBOUR: 'it returns false'. Refute it at one input. -/
def ebcdicOneWrong : ChangeSpec := { name := "ebcdicOne", fn := fun _ => fun
  | [d] => { results := [.lit (.bool false)], args := [d] }
  | _ => none }
def EbcdicOneWrongFalsely : Prop := ebcdicOneRow.holds Tryd.pinned (OpenSpec.ofChange ebcdicOneWrong)

/-- 'pilcrowlaw08.EbcdicExtends': WHATEVER THE INPUT: true; the input reads as it did. -/
def ebcdicExtendsSpec : ChangeSpec := { name := "ebcdicExtends", fn := fun _ => fun
  | [d1, d2] => { results := [.lit (.bool true)], args := [d1, d2] }
  | _ => none }
def ebcdicExtendsRow : OpenClaim := { program := "ytjbgcclbomimiaadoor", sum := "9cee782ecd1eef433c8df32e7a8a66d81f1b4915c510a39d65a230fbb16b4471", func := "pilcrow/pilcrowlaw08.EbcdicExtends", spec := "ebcdicExtends", inPlace := ["internal/abi.NoEscape"], named := ["pilcrow/mod8.rows"], apart := false, laid := [("pilcrow/mod8.rows", laid_pilcrow_mod8_rows)] }
def EbcdicExtendsSaid : Prop := ebcdicExtendsRow.holds Tryd.pinned (OpenSpec.ofChange ebcdicExtendsSpec)

/-- ITS FALSE NEIGHBOUR: 'it returns false'. Refute it at one input. -/
def ebcdicExtendsWrong : ChangeSpec := { name := "ebcdicExtends", fn := fun _ => fun
  | [d1, d2] => { results := [.lit (.bool false)], args := [d1, d2] }
  | _ => none }
def EbcdicExtendsWrongFalsely : Prop := ebcdicExtendsRow.holds Tryd.pinned (OpenSpec.ofChange ebcdicExtendsWrong)

/-- 'pilcrowlaw08.EbcdicMod8': WHATEVER THE INPUT: true; the input reads as it did. -/
def ebcdicMod8Spec : ChangeSpec := { name := "ebcdicMod8", fn := fun _ => fun
  | [d1, d2] => { results := [.lit (.bool true)], args := [d1, d2] }
  | _ => none }
def ebcdicMod8Row : OpenClaim := { program := "ytjbgcclbomimiaadoor", sum := "9cee782ecd1eef433c8df32e7a8a66d81f1b4915c510a39d65a230fbb16b4471", func := "pilcrow/pilcrowlaw08.EbcdicMod8", spec := "ebcdicMod8", inPlace := ["internal/abi.NoEscape"], named := ["pilcrow/mod8.rows"], apart := false, laid := [("pilcrow/mod8.rows", laid_pilcrow_mod8_rows)] }
def EbcdicMod8Said : Prop := ebcdicMod8Row.holds Tryd.pinned (OpenSpec.ofChange ebcdicMod8Spec)

/-- ITS FALSE NEIGHBOUR: 'it returns false'. Refute it at one input. -/
def ebcdicMod8Wrong : ChangeSpec := { name := "ebcdicMod8", fn := fun _ => fun
  | [d1, d2] => { results := [.lit (.bool false)], args := [d1, d2] }
  | _ => none }
def EbcdicMod8WrongFalsely : Prop := ebcdicMod8Row.holds Tryd.pinned (OpenSpec.ofChange ebcdicMod8Wrong)

/-- 'pilcrowlaw08.EbcdicControls': WHATEVER THE INPUT: true; the input reads as it did. -/
def ebcdicControlsSpec : ChangeSpec := { name := "ebcdicControls", fn := fun _ => fun
  | [d] => { results := [.lit (.bool true)], args := [d] }
  | _ => none }
def ebcdicControlsRow : OpenClaim := { program := "ytjbgcclbomimiaadoor", sum := "9cee782ecd1eef433c8df32e7a8a66d81f1b4915c510a39d65a230fbb16b4471", func := "pilcrow/pilcrowlaw08.EbcdicControls", spec := "ebcdicControls", inPlace := ["internal/abi.NoEscape"], named := ["pilcrow/mod8.rows"], apart := false, laid := [("pilcrow/mod8.rows", laid_pilcrow_mod8_rows)] }
def EbcdicControlsSaid : Prop := ebcdicControlsRow.holds Tryd.pinned (OpenSpec.ofChange ebcdicControlsSpec)

/-- ITS FALSE NEIGHBOUR: 'it returns false'. Refute it at one input. -/
def ebcdicControlsWrong : ChangeSpec := { name := "ebcdicControls", fn := fun _ => fun
  | [d] => { results := [.lit (.bool false)], args := [d] }
  | _ => none }
def EbcdicControlsWrongFalsely : Prop := ebcdicControlsRow.holds Tryd.pinned (OpenSpec.ofChange ebcdicControlsWrong)

/- THE SECOND FORM. 'bulk': how many values and letters a reading holds, each counted each time it is reached (what is shared counts as often as it is met; a slice's spare places count too). A statement '..UptoSaid' is the law's where the arguments, and the package variables that the reading takes, are together of bulk at most 1048576: NARROWER than '..Said'. Prove '..Said' where nothing that the law and all that it calls make is longer than what came in: it says more and counts as full. Else prove '..UptoSaid'. A law counts once. -/
mutual
def uptoBulk {H : Type} : DataW H → Nat
  | .lit (.string bytes) => bytes.length + 1
  | .lit _ => 1
  | .nil => 1
  | .ptr d => uptoBulk d + 1
  | .slice elems spare => uptoBulkAll elems + uptoBulkAll spare + 1
  | .agg parts => uptoBulkAll parts + 1
  | .iface _ d => uptoBulk d + 1
  | .map entries => uptoBulkEntries entries + 1
  | .held _ => 1
def uptoBulkAll {H : Type} : List (DataW H) → Nat
  | [] => 0
  | d :: r => uptoBulk d + uptoBulkAll r
def uptoBulkEntries {H : Type} : List (Lit × DataW H) → Nat
  | [] => 0
  | x :: r => uptoBulkEntry x + uptoBulkEntries r
def uptoBulkEntry {H : Type} : Lit × DataW H → Nat
  | (.string bytes, d) => bytes.length + uptoBulk d + 1
  | (_, d) => uptoBulk d + 1
 end
def uptoSmall : (H : Type) → List (DataW H) → Bool := fun _ ds => decide (uptoBulkAll ds ≤ 1048576)
def OpenSpec.upto (s : _root_.Go.ChangeSpec) : _root_.Go.OpenSpec := { _root_.Go.OpenSpec.ofChange s with cond := some uptoSmall }

/-- 'pilcrowlaw06.Mod8Reads', WHERE WHAT IT READS IS OF BULK AT MOST 1048576: true; the input reads as it did. -/
def mod8ReadsUptoRow : OpenClaim := { program := "ytjbgcclbomimiaadoor", sum := "9cee782ecd1eef433c8df32e7a8a66d81f1b4915c510a39d65a230fbb16b4471", func := "pilcrow/pilcrowlaw06.Mod8Reads", spec := "mod8Reads", inPlace := ["internal/abi.NoEscape"], named := ["pilcrow/mod8.rows"], apart := false, laid := [("pilcrow/mod8.rows", laid_pilcrow_mod8_rows)], narrowed := true }
def Mod8ReadsUptoSaid : Prop := mod8ReadsUptoRow.holds Tryd.pinned (OpenSpec.upto mod8ReadsSpec)

/-- 'pilcrowlaw06.Mod8Writes', WHERE WHAT IT READS IS OF BULK AT MOST 1048576: true; the input reads as it did. -/
def mod8WritesUptoRow : OpenClaim := { program := "ytjbgcclbomimiaadoor", sum := "9cee782ecd1eef433c8df32e7a8a66d81f1b4915c510a39d65a230fbb16b4471", func := "pilcrow/pilcrowlaw06.Mod8Writes", spec := "mod8Writes", inPlace := ["internal/abi.NoEscape"], named := ["pilcrow/mod8.rows"], apart := false, laid := [("pilcrow/mod8.rows", laid_pilcrow_mod8_rows)], narrowed := true }
def Mod8WritesUptoSaid : Prop := mod8WritesUptoRow.holds Tryd.pinned (OpenSpec.upto mod8WritesSpec)

/-- 'pilcrowlaw06.Mod8Back', WHERE WHAT IT READS IS OF BULK AT MOST 1048576: true; the input reads as it did. -/
def mod8BackUptoRow : OpenClaim := { program := "ytjbgcclbomimiaadoor", sum := "9cee782ecd1eef433c8df32e7a8a66d81f1b4915c510a39d65a230fbb16b4471", func := "pilcrow/pilcrowlaw06.Mod8Back", spec := "mod8Back", inPlace := ["internal/abi.NoEscape"], named := ["pilcrow/mod8.rows"], apart := false, laid := [("pilcrow/mod8.rows", laid_pilcrow_mod8_rows)], narrowed := true }
def Mod8BackUptoSaid : Prop := mod8BackUptoRow.holds Tryd.pinned (OpenSpec.upto mod8BackSpec)

/-- 'pilcrowlaw06.Mod8One', WHERE WHAT IT READS IS OF BULK AT MOST 1048576: true; the input reads as it did. -/
def mod8OneUptoRow : OpenClaim := { program := "ytjbgcclbomimiaadoor", sum := "9cee782ecd1eef433c8df32e7a8a66d81f1b4915c510a39d65a230fbb16b4471", func := "pilcrow/pilcrowlaw06.Mod8One", spec := "mod8One", inPlace := ["internal/abi.NoEscape"], named := ["pilcrow/mod8.rows"], apart := false, laid := [("pilcrow/mod8.rows", laid_pilcrow_mod8_rows)], narrowed := true }
def Mod8OneUptoSaid : Prop := mod8OneUptoRow.holds Tryd.pinned (OpenSpec.upto mod8OneSpec)

/-- 'pilcrowlaw06.Mod8Extends', WHERE WHAT IT READS IS OF BULK AT MOST 1048576: true; the input reads as it did. -/
def mod8ExtendsUptoRow : OpenClaim := { program := "ytjbgcclbomimiaadoor", sum := "9cee782ecd1eef433c8df32e7a8a66d81f1b4915c510a39d65a230fbb16b4471", func := "pilcrow/pilcrowlaw06.Mod8Extends", spec := "mod8Extends", inPlace := ["internal/abi.NoEscape"], named := ["pilcrow/mod8.rows"], apart := false, laid := [("pilcrow/mod8.rows", laid_pilcrow_mod8_rows)], narrowed := true }
def Mod8ExtendsUptoSaid : Prop := mod8ExtendsUptoRow.holds Tryd.pinned (OpenSpec.upto mod8ExtendsSpec)

/-- 'pilcrowlaw06.Mod8Order', WHERE WHAT IT READS IS OF BULK AT MOST 1048576: true; the input reads as it did. -/
def mod8OrderUptoRow : OpenClaim := { program := "ytjbgcclbomimiaadoor", sum := "9cee782ecd1eef433c8df32e7a8a66d81f1b4915c510a39d65a230fbb16b4471", func := "pilcrow/pilcrowlaw06.Mod8Order", spec := "mod8Order", inPlace := ["internal/abi.NoEscape"], named := ["pilcrow/mod8.rows"], apart := false, laid := [("pilcrow/mod8.rows", laid_pilcrow_mod8_rows)], narrowed := true }
def Mod8OrderUptoSaid : Prop := mod8OrderUptoRow.holds Tryd.pinned (OpenSpec.upto mod8OrderSpec)

/-- 'pilcrowlaw08.EbcdicReads', WHERE WHAT IT READS IS OF BULK AT MOST 1048576: true; the input reads as it did. -/
def ebcdicReadsUptoRow : OpenClaim := { program := "ytjbgcclbomimiaadoor", sum := "9cee782ecd1eef433c8df32e7a8a66d81f1b4915c510a39d65a230fbb16b4471", func := "pilcrow/pilcrowlaw08.EbcdicReads", spec := "ebcdicReads", inPlace := ["internal/abi.NoEscape"], named := ["pilcrow/mod8.rows"], apart := false, laid := [("pilcrow/mod8.rows", laid_pilcrow_mod8_rows)], narrowed := true }
def EbcdicReadsUptoSaid : Prop := ebcdicReadsUptoRow.holds Tryd.pinned (OpenSpec.upto ebcdicReadsSpec)

/-- 'pilcrowlaw08.EbcdicWrites', WHERE WHAT IT READS IS OF BULK AT MOST 1048576: true; the input reads as it did. -/
def ebcdicWritesUptoRow : OpenClaim := { program := "ytjbgcclbomimiaadoor", sum := "9cee782ecd1eef433c8df32e7a8a66d81f1b4915c510a39d65a230fbb16b4471", func := "pilcrow/pilcrowlaw08.EbcdicWrites", spec := "ebcdicWrites", inPlace := ["internal/abi.NoEscape"], named := ["pilcrow/mod8.rows"], apart := false, laid := [("pilcrow/mod8.rows", laid_pilcrow_mod8_rows)], narrowed := true }
def EbcdicWritesUptoSaid : Prop := ebcdicWritesUptoRow.holds Tryd.pinned (OpenSpec.upto ebcdicWritesSpec)

/-- 'pilcrowlaw08.EbcdicBack', WHERE WHAT IT READS IS OF BULK AT MOST 1048576: true; the input reads as it did. -/
def ebcdicBackUptoRow : OpenClaim := { program := "ytjbgcclbomimiaadoor", sum := "9cee782ecd1eef433c8df32e7a8a66d81f1b4915c510a39d65a230fbb16b4471", func := "pilcrow/pilcrowlaw08.EbcdicBack", spec := "ebcdicBack", inPlace := ["internal/abi.NoEscape"], named := ["pilcrow/mod8.rows"], apart := false, laid := [("pilcrow/mod8.rows", laid_pilcrow_mod8_rows)], narrowed := true }
def EbcdicBackUptoSaid : Prop := ebcdicBackUptoRow.holds Tryd.pinned (OpenSpec.upto ebcdicBackSpec)

/-- 'pilcrowlaw08.EbcdicOne', WHERE WHAT IT READS IS OF BULK AT MOST 1048576: true; the input reads as it did. -/
def ebcdicOneUptoRow : OpenClaim := { program := "ytjbgcclbomimiaadoor", sum := "9cee782ecd1eef433c8df32e7a8a66d81f1b4915c510a39d65a230fbb16b4471", func := "pilcrow/pilcrowlaw08.EbcdicOne", spec := "ebcdicOne", inPlace := ["internal/abi.NoEscape"], named := ["pilcrow/mod8.rows"], apart := false, laid := [("pilcrow/mod8.rows", laid_pilcrow_mod8_rows)], narrowed := true }
def EbcdicOneUptoSaid : Prop := ebcdicOneUptoRow.holds Tryd.pinned (OpenSpec.upto ebcdicOneSpec)

/-- 'pilcrowlaw08.EbcdicExtends', WHERE WHAT IT READS IS OF BULK AT MOST 1048576: true; the input reads as it did. -/
def ebcdicExtendsUptoRow : OpenClaim := { program := "ytjbgcclbomimiaadoor", sum := "9cee782ecd1eef433c8df32e7a8a66d81f1b4915c510a39d65a230fbb16b4471", func := "pilcrow/pilcrowlaw08.EbcdicExtends", spec := "ebcdicExtends", inPlace := ["internal/abi.NoEscape"], named := ["pilcrow/mod8.rows"], apart := false, laid := [("pilcrow/mod8.rows", laid_pilcrow_mod8_rows)], narrowed := true }
def EbcdicExtendsUptoSaid : Prop := ebcdicExtendsUptoRow.holds Tryd.pinned (OpenSpec.upto ebcdicExtendsSpec)

/-- 'pilcrowlaw08.EbcdicMod8', WHERE WHAT IT READS IS OF BULK AT MOST 1048576: true; the input reads as it did. -/
def ebcdicMod8UptoRow : OpenClaim := { program := "ytjbgcclbomimiaadoor", sum := "9cee782ecd1eef433c8df32e7a8a66d81f1b4915c510a39d65a230fbb16b4471", func := "pilcrow/pilcrowlaw08.EbcdicMod8", spec := "ebcdicMod8", inPlace := ["internal/abi.NoEscape"], named := ["pilcrow/mod8.rows"], apart := false, laid := [("pilcrow/mod8.rows", laid_pilcrow_mod8_rows)], narrowed := true }
def EbcdicMod8UptoSaid : Prop := ebcdicMod8UptoRow.holds Tryd.pinned (OpenSpec.upto ebcdicMod8Spec)

/-- 'pilcrowlaw08.EbcdicControls', WHERE WHAT IT READS IS OF BULK AT MOST 1048576: true; the input reads as it did. -/
def ebcdicControlsUptoRow : OpenClaim := { program := "ytjbgcclbomimiaadoor", sum := "9cee782ecd1eef433c8df32e7a8a66d81f1b4915c510a39d65a230fbb16b4471", func := "pilcrow/pilcrowlaw08.EbcdicControls", spec := "ebcdicControls", inPlace := ["internal/abi.NoEscape"], named := ["pilcrow/mod8.rows"], apart := false, laid := [("pilcrow/mod8.rows", laid_pilcrow_mod8_rows)], narrowed := true }
def EbcdicControlsUptoSaid : Prop := ebcdicControlsUptoRow.holds Tryd.pinned (OpenSpec.upto ebcdicControlsSpec)

end Rows
end Go.Proofs.YtjbgcclbomimiaaDoor
