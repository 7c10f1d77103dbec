/-
  DERIVED. GIVEN WITH THE SEED: THE CARDS: each row of YtngcdagnkgjfaaaDoorRows.lean that lists a variable, with what it lists TIED to the program's text (the seventh form; the later family's looks); each row that meets fmt, with fmt's text TOLD by the authors' own Lean function (tested against real Go, not proved from fmt's source: count such statements apart). THE CARD IS WHAT COUNTS. Prove the row's statement (the work); the ties are given (YtngcdagnkgjfaaaDoorTie.lean); close each card by the builder's one call (the guide's Derived/Test/ToyasCard.lean, 'card_holds'). Laid BY PROGRAM, IN A SANDBOX (cutbox-door.mjs). By AI agents, Wed Nov 11 2026. No macro, syntax, notation, axiom, sorry.
-/
import Derived.Test.YtngcdagnkgjfaaaDoorRows
import GoSem.ClaimSeven
namespace Go.Proofs.YtngcdagnkgjfaaaDoor
namespace Rows

/-- THE TIED CARD OF 'pilcrowlaw08.EbcdicReads'. -/
def ebcdicReadsCard : Claim7 := { stood := { row := ebcdicReadsRow, standIns := [], harness := (true, "f17d23b88eb67ab95025e5674d58a575206803abf6fc021d70530ca08f27c6eb"), looks := false }, kinds := [], alts := [], laidByText := true, laidKinds := [.data], laidTests := true, laidLooks := .later }
def EbcdicReadsCardSaid : Prop := Claim7.holds Tryd.pinned (.plain (OpenSpec.ofChange ebcdicReadsSpec)) ebcdicReadsCard

/-- THE TIED CARD OF 'pilcrowlaw08.EbcdicWrites'. -/
def ebcdicWritesCard : Claim7 := { stood := { row := ebcdicWritesRow, standIns := [], harness := (true, "f17d23b88eb67ab95025e5674d58a575206803abf6fc021d70530ca08f27c6eb"), looks := false }, kinds := [], alts := [], laidByText := true, laidKinds := [.data], laidTests := true, laidLooks := .later }
def EbcdicWritesCardSaid : Prop := Claim7.holds Tryd.pinned (.plain (OpenSpec.ofChange ebcdicWritesSpec)) ebcdicWritesCard

/-- THE TIED CARD OF 'pilcrowlaw08.EbcdicBack'. -/
def ebcdicBackCard : Claim7 := { stood := { row := ebcdicBackRow, standIns := [], harness := (true, "f17d23b88eb67ab95025e5674d58a575206803abf6fc021d70530ca08f27c6eb"), looks := false }, kinds := [], alts := [], laidByText := true, laidKinds := [.data], laidTests := true, laidLooks := .later }
def EbcdicBackCardSaid : Prop := Claim7.holds Tryd.pinned (.plain (OpenSpec.ofChange ebcdicBackSpec)) ebcdicBackCard

/-- THE TIED CARD OF 'pilcrowlaw08.EbcdicOne'. -/
def ebcdicOneCard : Claim7 := { stood := { row := ebcdicOneRow, standIns := [], harness := (true, "f17d23b88eb67ab95025e5674d58a575206803abf6fc021d70530ca08f27c6eb"), looks := false }, kinds := [], alts := [], laidByText := true, laidKinds := [.data], laidTests := true, laidLooks := .later }
def EbcdicOneCardSaid : Prop := Claim7.holds Tryd.pinned (.plain (OpenSpec.ofChange ebcdicOneSpec)) ebcdicOneCard

/-- THE TIED CARD OF 'pilcrowlaw08.EbcdicExtends'. -/
def ebcdicExtendsCard : Claim7 := { stood := { row := ebcdicExtendsRow, standIns := [], harness := (true, "f17d23b88eb67ab95025e5674d58a575206803abf6fc021d70530ca08f27c6eb"), looks := false }, kinds := [], alts := [], laidByText := true, laidKinds := [.data], laidTests := true, laidLooks := .later }
def EbcdicExtendsCardSaid : Prop := Claim7.holds Tryd.pinned (.plain (OpenSpec.ofChange ebcdicExtendsSpec)) ebcdicExtendsCard

/-- THE TIED CARD OF 'pilcrowlaw08.EbcdicMod8'. -/
def ebcdicMod8Card : Claim7 := { stood := { row := ebcdicMod8Row, standIns := [], harness := (true, "f17d23b88eb67ab95025e5674d58a575206803abf6fc021d70530ca08f27c6eb"), looks := false }, kinds := [], alts := [], laidByText := true, laidKinds := [.data], laidTests := true, laidLooks := .later }
def EbcdicMod8CardSaid : Prop := Claim7.holds Tryd.pinned (.plain (OpenSpec.ofChange ebcdicMod8Spec)) ebcdicMod8Card

/-- THE SECOND FORM's CARD OF 'pilcrowlaw08.EbcdicReads'. -/
def ebcdicReadsUptoCard : Claim7 := { stood := { row := ebcdicReadsUptoRow, standIns := [], harness := (true, "f17d23b88eb67ab95025e5674d58a575206803abf6fc021d70530ca08f27c6eb"), looks := false }, kinds := [], alts := [], laidByText := true, laidKinds := [.data], laidTests := true, laidLooks := .later }
def EbcdicReadsUptoCardSaid : Prop := Claim7.holds Tryd.pinned (.plain (OpenSpec.upto ebcdicReadsSpec)) ebcdicReadsUptoCard

/-- THE SECOND FORM's CARD OF 'pilcrowlaw08.EbcdicWrites'. -/
def ebcdicWritesUptoCard : Claim7 := { stood := { row := ebcdicWritesUptoRow, standIns := [], harness := (true, "f17d23b88eb67ab95025e5674d58a575206803abf6fc021d70530ca08f27c6eb"), looks := false }, kinds := [], alts := [], laidByText := true, laidKinds := [.data], laidTests := true, laidLooks := .later }
def EbcdicWritesUptoCardSaid : Prop := Claim7.holds Tryd.pinned (.plain (OpenSpec.upto ebcdicWritesSpec)) ebcdicWritesUptoCard

/-- THE SECOND FORM's CARD OF 'pilcrowlaw08.EbcdicBack'. -/
def ebcdicBackUptoCard : Claim7 := { stood := { row := ebcdicBackUptoRow, standIns := [], harness := (true, "f17d23b88eb67ab95025e5674d58a575206803abf6fc021d70530ca08f27c6eb"), looks := false }, kinds := [], alts := [], laidByText := true, laidKinds := [.data], laidTests := true, laidLooks := .later }
def EbcdicBackUptoCardSaid : Prop := Claim7.holds Tryd.pinned (.plain (OpenSpec.upto ebcdicBackSpec)) ebcdicBackUptoCard

/-- THE SECOND FORM's CARD OF 'pilcrowlaw08.EbcdicOne'. -/
def ebcdicOneUptoCard : Claim7 := { stood := { row := ebcdicOneUptoRow, standIns := [], harness := (true, "f17d23b88eb67ab95025e5674d58a575206803abf6fc021d70530ca08f27c6eb"), looks := false }, kinds := [], alts := [], laidByText := true, laidKinds := [.data], laidTests := true, laidLooks := .later }
def EbcdicOneUptoCardSaid : Prop := Claim7.holds Tryd.pinned (.plain (OpenSpec.upto ebcdicOneSpec)) ebcdicOneUptoCard

/-- THE SECOND FORM's CARD OF 'pilcrowlaw08.EbcdicExtends'. -/
def ebcdicExtendsUptoCard : Claim7 := { stood := { row := ebcdicExtendsUptoRow, standIns := [], harness := (true, "f17d23b88eb67ab95025e5674d58a575206803abf6fc021d70530ca08f27c6eb"), looks := false }, kinds := [], alts := [], laidByText := true, laidKinds := [.data], laidTests := true, laidLooks := .later }
def EbcdicExtendsUptoCardSaid : Prop := Claim7.holds Tryd.pinned (.plain (OpenSpec.upto ebcdicExtendsSpec)) ebcdicExtendsUptoCard

/-- THE SECOND FORM's CARD OF 'pilcrowlaw08.EbcdicMod8'. -/
def ebcdicMod8UptoCard : Claim7 := { stood := { row := ebcdicMod8UptoRow, standIns := [], harness := (true, "f17d23b88eb67ab95025e5674d58a575206803abf6fc021d70530ca08f27c6eb"), looks := false }, kinds := [], alts := [], laidByText := true, laidKinds := [.data], laidTests := true, laidLooks := .later }
def EbcdicMod8UptoCardSaid : Prop := Claim7.holds Tryd.pinned (.plain (OpenSpec.upto ebcdicMod8Spec)) ebcdicMod8UptoCard
end Rows
end Go.Proofs.YtngcdagnkgjfaaaDoor
