/-
  NARROWER THAN 'FOR EVERY INPUT', by the rows' own cells (each row's printed sentence says how): CompressBack: laid · CompressSize: laid · CompressLatin: laid · CompressMark: laid · CompressPlain: laid.
  DERIVED. THE GIVEN ROWS OF THIS SEAT. 5 by the template 'for every input the law returns true; each argument reads behind the call as it read before'; 0 by the template 'total and deterministic' (their statements: YtpglmfhlgaliaaaDoorTotals.lean).
  GIVEN WITH THE SEED: the statements are not yours to turn. If you find one false, say at which input.
  Laid BY PROGRAM, IN A SANDBOX (cutbox-rows.mjs): the forced cells as the released guide's own fill.sh prints them over the translation ee1cf4a5d343f8f5… (all of the seat's roots in one cut). By AI agents, Wed Nov 11 2026. No macro, syntax, notation, axiom, sorry.
-/
import Derived.Test.YtpglmfhlgaliaaaDoorChecked
import GoSem.Claim
import GoSem.ClaimJoined
import GoSem.ClaimMapViews
import Derived.JoinedTies
import Derived.KernelRfl
namespace Go.Proofs.YtpglmfhlgaliaaaDoor
/- THE CELL 'sum', in the pinned program and in every row, IS THE sha256 OF THE DUMP (.gsa) THAT YtpglmfhlgaliaaaDoorProg.lean LOADS. Nothing in Lean hashes anything: it is a label: what it is worth is what the hold of that sum in a sandbox is worth. -/
noncomputable def Tryd.pinned : Pinned := { name := "ytpglmfhlgaliaaadoor", sum := "ee1cf4a5d343f8f52ca017b50a2a20de50963a43f47130597145ce59343fe671", checked := Tryd.checked }
namespace Rows
def none {H : Type} : Left H := { results := [], args := [] }

/- WHAT THE LISTED PACKAGE-LEVEL VARIABLES READ AS WHEN THE CALL BEGINS. Each datum BY PROGRAM (the guide's laid-datum.mjs) off the statement by which the dump's own 'gosem.cut.vars' lays the variable. In a bare row this is a premise. The card (YtpglmfhlgaliaaaDoorCards.lean) ties it to the program's text. -/
def laid_pilcrow_window_static {H : Type} : DataW H := .agg [.lit (.int .u32 0), .lit (.int .u32 128), .lit (.int .u32 256), .lit (.int .u32 768), .lit (.int .u32 8192), .lit (.int .u32 8320), .lit (.int .u32 8448), .lit (.int .u32 12288)]
def laid_pilcrow_window_named {H : Type} : DataW H := .agg [.lit (.int .u32 192), .lit (.int .u32 592), .lit (.int .u32 880), .lit (.int .u32 1328), .lit (.int .u32 12352), .lit (.int .u32 12448), .lit (.int .u32 65376)]

/-- 'pilcrowlaw15.CompressBack': WHATEVER THE INPUT: true; the input reads as it did. -/
def compressBackSpec : ChangeSpec := { name := "compressBack", fn := fun _ => fun
  | [d1, d2] => { results := [.lit (.bool true)], args := [d1, d2] }
  | _ => none }
def compressBackRow : OpenClaim := { program := "ytpglmfhlgaliaaadoor", sum := "ee1cf4a5d343f8f52ca017b50a2a20de50963a43f47130597145ce59343fe671", func := "pilcrow/pilcrowlaw15.CompressBack", spec := "compressBack", inPlace := ["internal/abi.NoEscape"], named := ["pilcrow/window.named", "pilcrow/window.static"], apart := false, laid := [("pilcrow/window.static", laid_pilcrow_window_static), ("pilcrow/window.named", laid_pilcrow_window_named)] }
def CompressBackSaid : Prop := compressBackRow.holds Tryd.pinned (OpenSpec.ofChange compressBackSpec)

/-- ITS FALSE NEIGHBOUR: 'it returns false'. Refute it at one input. -/
def compressBackWrong : ChangeSpec := { name := "compressBack", fn := fun _ => fun
  | [d1, d2] => { results := [.lit (.bool false)], args := [d1, d2] }
  | _ => none }
def CompressBackWrongFalsely : Prop := compressBackRow.holds Tryd.pinned (OpenSpec.ofChange compressBackWrong)

/-- 'pilcrowlaw15.CompressSize': WHATEVER THE INPUT: true; the input reads as it did. -/
def compressSizeSpec : ChangeSpec := { name := "compressSize", fn := fun _ => fun
  | [d] => { results := [.lit (.bool true)], args := [d] }
  | _ => none }
def compressSizeRow : OpenClaim := { program := "ytpglmfhlgaliaaadoor", sum := "ee1cf4a5d343f8f52ca017b50a2a20de50963a43f47130597145ce59343fe671", func := "pilcrow/pilcrowlaw15.CompressSize", spec := "compressSize", inPlace := ["internal/abi.NoEscape"], named := ["pilcrow/window.named", "pilcrow/window.static"], apart := false, laid := [("pilcrow/window.static", laid_pilcrow_window_static), ("pilcrow/window.named", laid_pilcrow_window_named)] }
def CompressSizeSaid : Prop := compressSizeRow.holds Tryd.pinned (OpenSpec.ofChange compressSizeSpec)

/-- ITS FALSE NEIGHBOUR: 'it returns false'. Refute it at one input. -/
def compressSizeWrong : ChangeSpec := { name := "compressSize", fn := fun _ => fun
  | [d] => { results := [.lit (.bool false)], args := [d] }
  | _ => none }
def CompressSizeWrongFalsely : Prop := compressSizeRow.holds Tryd.pinned (OpenSpec.ofChange compressSizeWrong)

/-- 'pilcrowlaw15.CompressLatin': WHATEVER THE INPUT: true; the input reads as it did. -/
def compressLatinSpec : ChangeSpec := { name := "compressLatin", fn := fun _ => fun
  | [d1, d2] => { results := [.lit (.bool true)], args := [d1, d2] }
  | _ => none }
def compressLatinRow : OpenClaim := { program := "ytpglmfhlgaliaaadoor", sum := "ee1cf4a5d343f8f52ca017b50a2a20de50963a43f47130597145ce59343fe671", func := "pilcrow/pilcrowlaw15.CompressLatin", spec := "compressLatin", inPlace := ["internal/abi.NoEscape"], named := ["pilcrow/window.named", "pilcrow/window.static"], apart := false, laid := [("pilcrow/window.static", laid_pilcrow_window_static), ("pilcrow/window.named", laid_pilcrow_window_named)] }
def CompressLatinSaid : Prop := compressLatinRow.holds Tryd.pinned (OpenSpec.ofChange compressLatinSpec)

/-- ITS FALSE NEIGHBOUR: 'it returns false'. Refute it at one input. -/
def compressLatinWrong : ChangeSpec := { name := "compressLatin", fn := fun _ => fun
  | [d1, d2] => { results := [.lit (.bool false)], args := [d1, d2] }
  | _ => none }
def CompressLatinWrongFalsely : Prop := compressLatinRow.holds Tryd.pinned (OpenSpec.ofChange compressLatinWrong)

/-- 'pilcrowlaw15.CompressMark': WHATEVER THE INPUT: true; the input reads as it did. -/
def compressMarkSpec : ChangeSpec := { name := "compressMark", fn := fun _ => fun
  | [d1, d2] => { results := [.lit (.bool true)], args := [d1, d2] }
  | _ => none }
def compressMarkRow : OpenClaim := { program := "ytpglmfhlgaliaaadoor", sum := "ee1cf4a5d343f8f52ca017b50a2a20de50963a43f47130597145ce59343fe671", func := "pilcrow/pilcrowlaw15.CompressMark", spec := "compressMark", inPlace := ["internal/abi.NoEscape"], named := ["pilcrow/window.named", "pilcrow/window.static"], apart := false, laid := [("pilcrow/window.static", laid_pilcrow_window_static), ("pilcrow/window.named", laid_pilcrow_window_named)] }
def CompressMarkSaid : Prop := compressMarkRow.holds Tryd.pinned (OpenSpec.ofChange compressMarkSpec)

/-- ITS FALSE NEIGHBOUR: 'it returns false'. Refute it at one input. -/
def compressMarkWrong : ChangeSpec := { name := "compressMark", fn := fun _ => fun
  | [d1, d2] => { results := [.lit (.bool false)], args := [d1, d2] }
  | _ => none }
def CompressMarkWrongFalsely : Prop := compressMarkRow.holds Tryd.pinned (OpenSpec.ofChange compressMarkWrong)

/-- 'pilcrowlaw15.CompressPlain': WHATEVER THE INPUT: true; the input reads as it did. -/
def compressPlainSpec : ChangeSpec := { name := "compressPlain", fn := fun _ => fun
  | [d] => { results := [.lit (.bool true)], args := [d] }
  | _ => none }
def compressPlainRow : OpenClaim := { program := "ytpglmfhlgaliaaadoor", sum := "ee1cf4a5d343f8f52ca017b50a2a20de50963a43f47130597145ce59343fe671", func := "pilcrow/pilcrowlaw15.CompressPlain", spec := "compressPlain", inPlace := ["internal/abi.NoEscape"], named := ["pilcrow/window.named", "pilcrow/window.static"], apart := false, laid := [("pilcrow/window.static", laid_pilcrow_window_static), ("pilcrow/window.named", laid_pilcrow_window_named)] }
def CompressPlainSaid : Prop := compressPlainRow.holds Tryd.pinned (OpenSpec.ofChange compressPlainSpec)

/-- ITS FALSE NEIGHBOUR: 'it returns false'. Refute it at one input. -/
def compressPlainWrong : ChangeSpec := { name := "compressPlain", fn := fun _ => fun
  | [d] => { results := [.lit (.bool false)], args := [d] }
  | _ => none }
def CompressPlainWrongFalsely : Prop := compressPlainRow.holds Tryd.pinned (OpenSpec.ofChange compressPlainWrong)

/- THE SECOND FORM. 'bulk': how many values and letters a reading holds, each counted each time it is reached (what is shared counts as often as it is met; a slice's spare places count too). A statement '..UptoSaid' is the law's where the arguments, and the package variables that the reading takes, are together of bulk at most 1048576: NARROWER than '..Said'. Prove '..Said' where nothing that the law and all that it calls make is longer than what came in: it says more and counts as full. Else prove '..UptoSaid'. A law counts once. -/
mutual
def uptoBulk {H : Type} : DataW H → Nat
  | .lit (.string bytes) => bytes.length + 1
  | .lit _ => 1
  | .nil => 1
  | .ptr d => uptoBulk d + 1
  | .slice elems spare => uptoBulkAll elems + uptoBulkAll spare + 1
  | .agg parts => uptoBulkAll parts + 1
  | .iface _ d => uptoBulk d + 1
  | .map entries => uptoBulkEntries entries + 1
  | .held _ => 1
def uptoBulkAll {H : Type} : List (DataW H) → Nat
  | [] => 0
  | d :: r => uptoBulk d + uptoBulkAll r
def uptoBulkEntries {H : Type} : List (Lit × DataW H) → Nat
  | [] => 0
  | x :: r => uptoBulkEntry x + uptoBulkEntries r
def uptoBulkEntry {H : Type} : Lit × DataW H → Nat
  | (.string bytes, d) => bytes.length + uptoBulk d + 1
  | (_, d) => uptoBulk d + 1
 end
def uptoSmall : (H : Type) → List (DataW H) → Bool := fun _ ds => decide (uptoBulkAll ds ≤ 1048576)
def OpenSpec.upto (s : _root_.Go.ChangeSpec) : _root_.Go.OpenSpec := { _root_.Go.OpenSpec.ofChange s with cond := some uptoSmall }

/-- 'pilcrowlaw15.CompressBack', WHERE WHAT IT READS IS OF BULK AT MOST 1048576: true; the input reads as it did. -/
def compressBackUptoRow : OpenClaim := { program := "ytpglmfhlgaliaaadoor", sum := "ee1cf4a5d343f8f52ca017b50a2a20de50963a43f47130597145ce59343fe671", func := "pilcrow/pilcrowlaw15.CompressBack", spec := "compressBack", inPlace := ["internal/abi.NoEscape"], named := ["pilcrow/window.named", "pilcrow/window.static"], apart := false, laid := [("pilcrow/window.static", laid_pilcrow_window_static), ("pilcrow/window.named", laid_pilcrow_window_named)], narrowed := true }
def CompressBackUptoSaid : Prop := compressBackUptoRow.holds Tryd.pinned (OpenSpec.upto compressBackSpec)

/-- 'pilcrowlaw15.CompressSize', WHERE WHAT IT READS IS OF BULK AT MOST 1048576: true; the input reads as it did. -/
def compressSizeUptoRow : OpenClaim := { program := "ytpglmfhlgaliaaadoor", sum := "ee1cf4a5d343f8f52ca017b50a2a20de50963a43f47130597145ce59343fe671", func := "pilcrow/pilcrowlaw15.CompressSize", spec := "compressSize", inPlace := ["internal/abi.NoEscape"], named := ["pilcrow/window.named", "pilcrow/window.static"], apart := false, laid := [("pilcrow/window.static", laid_pilcrow_window_static), ("pilcrow/window.named", laid_pilcrow_window_named)], narrowed := true }
def CompressSizeUptoSaid : Prop := compressSizeUptoRow.holds Tryd.pinned (OpenSpec.upto compressSizeSpec)

/-- 'pilcrowlaw15.CompressLatin', WHERE WHAT IT READS IS OF BULK AT MOST 1048576: true; the input reads as it did. -/
def compressLatinUptoRow : OpenClaim := { program := "ytpglmfhlgaliaaadoor", sum := "ee1cf4a5d343f8f52ca017b50a2a20de50963a43f47130597145ce59343fe671", func := "pilcrow/pilcrowlaw15.CompressLatin", spec := "compressLatin", inPlace := ["internal/abi.NoEscape"], named := ["pilcrow/window.named", "pilcrow/window.static"], apart := false, laid := [("pilcrow/window.static", laid_pilcrow_window_static), ("pilcrow/window.named", laid_pilcrow_window_named)], narrowed := true }
def CompressLatinUptoSaid : Prop := compressLatinUptoRow.holds Tryd.pinned (OpenSpec.upto compressLatinSpec)

/-- 'pilcrowlaw15.CompressMark', WHERE WHAT IT READS IS OF BULK AT MOST 1048576: true; the input reads as it did. -/
def compressMarkUptoRow : OpenClaim := { program := "ytpglmfhlgaliaaadoor", sum := "ee1cf4a5d343f8f52ca017b50a2a20de50963a43f47130597145ce59343fe671", func := "pilcrow/pilcrowlaw15.CompressMark", spec := "compressMark", inPlace := ["internal/abi.NoEscape"], named := ["pilcrow/window.named", "pilcrow/window.static"], apart := false, laid := [("pilcrow/window.static", laid_pilcrow_window_static), ("pilcrow/window.named", laid_pilcrow_window_named)], narrowed := true }
def CompressMarkUptoSaid : Prop := compressMarkUptoRow.holds Tryd.pinned (OpenSpec.upto compressMarkSpec)

/-- 'pilcrowlaw15.CompressPlain', WHERE WHAT IT READS IS OF BULK AT MOST 1048576: true; the input reads as it did. -/
def compressPlainUptoRow : OpenClaim := { program := "ytpglmfhlgaliaaadoor", sum := "ee1cf4a5d343f8f52ca017b50a2a20de50963a43f47130597145ce59343fe671", func := "pilcrow/pilcrowlaw15.CompressPlain", spec := "compressPlain", inPlace := ["internal/abi.NoEscape"], named := ["pilcrow/window.named", "pilcrow/window.static"], apart := false, laid := [("pilcrow/window.static", laid_pilcrow_window_static), ("pilcrow/window.named", laid_pilcrow_window_named)], narrowed := true }
def CompressPlainUptoSaid : Prop := compressPlainUptoRow.holds Tryd.pinned (OpenSpec.upto compressPlainSpec)

end Rows
end Go.Proofs.YtpglmfhlgaliaaaDoor
