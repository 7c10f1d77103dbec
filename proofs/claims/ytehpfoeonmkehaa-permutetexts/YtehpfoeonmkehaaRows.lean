/-
  No cell of these rows narrows 'for every input' (looked for: loops, veiled, ifaces, maps, wideKeys, modest, calm, conditions, laid).
  DERIVED. THE GIVEN ROWS OF THIS SEAT. 5 by the template 'for every input the law returns true; each argument reads behind the call as it read before'; 0 by the template 'total and deterministic' (their statements: YtehpfoeonmkehaaTotals.lean).
  GIVEN WITH THE SEED: the statements are not yours to turn. If you find one false, say at which input.
  Laid BY PROGRAM, IN A SANDBOX (cutbox-rows.mjs): the forced cells as the released guide's own fill.sh prints them over the translation 57eaea98e03a3c8c… (all of the seat's roots in one cut). By AI agents, Wed Nov 11 2026. No macro, syntax, notation, axiom, sorry.
-/
import Derived.Test.YtehpfoeonmkehaaChecked
import GoSem.Claim
import GoSem.ClaimJoined
import GoSem.ClaimMapViews
import Derived.JoinedTies
import Derived.KernelRfl
namespace Go.Proofs.Ytehpfoeonmkehaa
/- THE CELL 'sum', in the pinned program and in every row, IS THE sha256 OF THE DUMP (.gsa) THAT YtehpfoeonmkehaaProg.lean LOADS. Nothing in Lean hashes anything: it is a label: what it is worth is what the hold of that sum in a sandbox is worth. -/
noncomputable def Try.pinned : Pinned := { name := "ytehpfoeonmkehaa", sum := "57eaea98e03a3c8ce9227c8952e433b031f05b6d1e0cbd781fbea036d48969d2", checked := Try.checked }
namespace Rows
def none {H : Type} : Left H := { results := [], args := [] }

/-- 'pilcrowlaw07.PermuteTells': WHATEVER THE INPUT: true; the input reads as it did. -/
def permuteTellsSpec : ChangeSpec := { name := "permuteTells", fn := fun _ => fun
  | [d] => { results := [.lit (.bool true)], args := [d] }
  | _ => none }
def permuteTellsRow : OpenClaim := { program := "ytehpfoeonmkehaa", sum := "57eaea98e03a3c8ce9227c8952e433b031f05b6d1e0cbd781fbea036d48969d2", func := "pilcrow/pilcrowlaw07.PermuteTells", spec := "permuteTells", apart := false }
def PermuteTellsSaid : Prop := permuteTellsRow.holds Try.pinned (OpenSpec.ofChange permuteTellsSpec)

/-- ITS FALSE NEIGHBOUR: 'it returns false'. Refute it at one input. -/
def permuteTellsWrong : ChangeSpec := { name := "permuteTells", fn := fun _ => fun
  | [d] => { results := [.lit (.bool false)], args := [d] }
  | _ => none }
def PermuteTellsWrongFalsely : Prop := permuteTellsRow.holds Try.pinned (OpenSpec.ofChange permuteTellsWrong)

/-- 'pilcrowlaw07.PermuteTexts': WHATEVER THE INPUT: true; the input reads as it did. -/
def permuteTextsSpec : ChangeSpec := { name := "permuteTexts", fn := fun _ => fun
  | [d] => { results := [.lit (.bool true)], args := [d] }
  | _ => none }
def permuteTextsRow : OpenClaim := { program := "ytehpfoeonmkehaa", sum := "57eaea98e03a3c8ce9227c8952e433b031f05b6d1e0cbd781fbea036d48969d2", func := "pilcrow/pilcrowlaw07.PermuteTexts", spec := "permuteTexts", apart := false }
def PermuteTextsSaid : Prop := permuteTextsRow.holds Try.pinned (OpenSpec.ofChange permuteTextsSpec)

/-- ITS FALSE NEIGHBOUR: 'it returns false'. Refute it at one input. -/
def permuteTextsWrong : ChangeSpec := { name := "permuteTexts", fn := fun _ => fun
  | [d] => { results := [.lit (.bool false)], args := [d] }
  | _ => none }
def PermuteTextsWrongFalsely : Prop := permuteTextsRow.holds Try.pinned (OpenSpec.ofChange permuteTextsWrong)

/-- 'pilcrowlaw07.PermuteAll': WHATEVER THE INPUT: true; the input reads as it did. -/
def permuteAllSpec : ChangeSpec := { name := "permuteAll", fn := fun _ => fun
  | [d] => { results := [.lit (.bool true)], args := [d] }
  | _ => none }
def permuteAllRow : OpenClaim := { program := "ytehpfoeonmkehaa", sum := "57eaea98e03a3c8ce9227c8952e433b031f05b6d1e0cbd781fbea036d48969d2", func := "pilcrow/pilcrowlaw07.PermuteAll", spec := "permuteAll", apart := false }
def PermuteAllSaid : Prop := permuteAllRow.holds Try.pinned (OpenSpec.ofChange permuteAllSpec)

/-- ITS FALSE NEIGHBOUR: 'it returns false'. Refute it at one input. -/
def permuteAllWrong : ChangeSpec := { name := "permuteAll", fn := fun _ => fun
  | [d] => { results := [.lit (.bool false)], args := [d] }
  | _ => none }
def PermuteAllWrongFalsely : Prop := permuteAllRow.holds Try.pinned (OpenSpec.ofChange permuteAllWrong)

/-- 'pilcrowlaw07.PermuteApart': WHATEVER THE INPUT: true; the input reads as it did. -/
def permuteApartSpec : ChangeSpec := { name := "permuteApart", fn := fun _ => fun
  | [d1, d2] => { results := [.lit (.bool true)], args := [d1, d2] }
  | _ => none }
def permuteApartRow : OpenClaim := { program := "ytehpfoeonmkehaa", sum := "57eaea98e03a3c8ce9227c8952e433b031f05b6d1e0cbd781fbea036d48969d2", func := "pilcrow/pilcrowlaw07.PermuteApart", spec := "permuteApart", apart := false }
def PermuteApartSaid : Prop := permuteApartRow.holds Try.pinned (OpenSpec.ofChange permuteApartSpec)

/-- ITS FALSE NEIGHBOUR: 'it returns false'. Refute it at one input. -/
def permuteApartWrong : ChangeSpec := { name := "permuteApart", fn := fun _ => fun
  | [d1, d2] => { results := [.lit (.bool false)], args := [d1, d2] }
  | _ => none }
def PermuteApartWrongFalsely : Prop := permuteApartRow.holds Try.pinned (OpenSpec.ofChange permuteApartWrong)

/-- 'pilcrowlaw07.PermuteParts': WHATEVER THE INPUT: true; the input reads as it did. -/
def permutePartsSpec : ChangeSpec := { name := "permuteParts", fn := fun _ => fun
  | [d1, d2] => { results := [.lit (.bool true)], args := [d1, d2] }
  | _ => none }
def permutePartsRow : OpenClaim := { program := "ytehpfoeonmkehaa", sum := "57eaea98e03a3c8ce9227c8952e433b031f05b6d1e0cbd781fbea036d48969d2", func := "pilcrow/pilcrowlaw07.PermuteParts", spec := "permuteParts", apart := false }
def PermutePartsSaid : Prop := permutePartsRow.holds Try.pinned (OpenSpec.ofChange permutePartsSpec)

/-- ITS FALSE NEIGHBOUR: 'it returns false'. Refute it at one input. -/
def permutePartsWrong : ChangeSpec := { name := "permuteParts", fn := fun _ => fun
  | [d1, d2] => { results := [.lit (.bool false)], args := [d1, d2] }
  | _ => none }
def PermutePartsWrongFalsely : Prop := permutePartsRow.holds Try.pinned (OpenSpec.ofChange permutePartsWrong)

/- THE SECOND FORM. 'bulk': how many values and letters a reading holds, each counted each time it is reached (what is shared counts as often as it is met; a slice's spare places count too). A statement '..UptoSaid' is the law's where the arguments, and the package variables that the reading takes, are together of bulk at most 1048576: NARROWER than '..Said'. Prove '..Said' where nothing that the law and all that it calls make is longer than what came in: it says more and counts as full. Else prove '..UptoSaid'. A law counts once. -/
mutual
def uptoBulk {H : Type} : DataW H → Nat
  | .lit (.string bytes) => bytes.length + 1
  | .lit _ => 1
  | .nil => 1
  | .ptr d => uptoBulk d + 1
  | .slice elems spare => uptoBulkAll elems + uptoBulkAll spare + 1
  | .agg parts => uptoBulkAll parts + 1
  | .iface _ d => uptoBulk d + 1
  | .map entries => uptoBulkEntries entries + 1
  | .held _ => 1
def uptoBulkAll {H : Type} : List (DataW H) → Nat
  | [] => 0
  | d :: r => uptoBulk d + uptoBulkAll r
def uptoBulkEntries {H : Type} : List (Lit × DataW H) → Nat
  | [] => 0
  | x :: r => uptoBulkEntry x + uptoBulkEntries r
def uptoBulkEntry {H : Type} : Lit × DataW H → Nat
  | (.string bytes, d) => bytes.length + uptoBulk d + 1
  | (_, d) => uptoBulk d + 1
 end
def uptoSmall : (H : Type) → List (DataW H) → Bool := fun _ ds => decide (uptoBulkAll ds ≤ 1048576)
def OpenSpec.upto (s : _root_.Go.ChangeSpec) : _root_.Go.OpenSpec := { _root_.Go.OpenSpec.ofChange s with cond := some uptoSmall }

/-- 'pilcrowlaw07.PermuteTells', WHERE WHAT IT READS IS OF BULK AT MOST 1048576: true; the input reads as it did. -/
def permuteTellsUptoRow : OpenClaim := { program := "ytehpfoeonmkehaa", sum := "57eaea98e03a3c8ce9227c8952e433b031f05b6d1e0cbd781fbea036d48969d2", func := "pilcrow/pilcrowlaw07.PermuteTells", spec := "permuteTells", apart := false, narrowed := true }
def PermuteTellsUptoSaid : Prop := permuteTellsUptoRow.holds Try.pinned (OpenSpec.upto permuteTellsSpec)

/-- 'pilcrowlaw07.PermuteTexts', WHERE WHAT IT READS IS OF BULK AT MOST 1048576: true; the input reads as it did. -/
def permuteTextsUptoRow : OpenClaim := { program := "ytehpfoeonmkehaa", sum := "57eaea98e03a3c8ce9227c8952e433b031f05b6d1e0cbd781fbea036d48969d2", func := "pilcrow/pilcrowlaw07.PermuteTexts", spec := "permuteTexts", apart := false, narrowed := true }
def PermuteTextsUptoSaid : Prop := permuteTextsUptoRow.holds Try.pinned (OpenSpec.upto permuteTextsSpec)

/-- 'pilcrowlaw07.PermuteAll', WHERE WHAT IT READS IS OF BULK AT MOST 1048576: true; the input reads as it did. -/
def permuteAllUptoRow : OpenClaim := { program := "ytehpfoeonmkehaa", sum := "57eaea98e03a3c8ce9227c8952e433b031f05b6d1e0cbd781fbea036d48969d2", func := "pilcrow/pilcrowlaw07.PermuteAll", spec := "permuteAll", apart := false, narrowed := true }
def PermuteAllUptoSaid : Prop := permuteAllUptoRow.holds Try.pinned (OpenSpec.upto permuteAllSpec)

/-- 'pilcrowlaw07.PermuteApart', WHERE WHAT IT READS IS OF BULK AT MOST 1048576: true; the input reads as it did. -/
def permuteApartUptoRow : OpenClaim := { program := "ytehpfoeonmkehaa", sum := "57eaea98e03a3c8ce9227c8952e433b031f05b6d1e0cbd781fbea036d48969d2", func := "pilcrow/pilcrowlaw07.PermuteApart", spec := "permuteApart", apart := false, narrowed := true }
def PermuteApartUptoSaid : Prop := permuteApartUptoRow.holds Try.pinned (OpenSpec.upto permuteApartSpec)

/-- 'pilcrowlaw07.PermuteParts', WHERE WHAT IT READS IS OF BULK AT MOST 1048576: true; the input reads as it did. -/
def permutePartsUptoRow : OpenClaim := { program := "ytehpfoeonmkehaa", sum := "57eaea98e03a3c8ce9227c8952e433b031f05b6d1e0cbd781fbea036d48969d2", func := "pilcrow/pilcrowlaw07.PermuteParts", spec := "permuteParts", apart := false, narrowed := true }
def PermutePartsUptoSaid : Prop := permutePartsUptoRow.holds Try.pinned (OpenSpec.upto permutePartsSpec)

end Rows
end Go.Proofs.Ytehpfoeonmkehaa
