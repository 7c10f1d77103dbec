/-
  DERIVED. GIVEN WITH THE SEED: THE CARDS: each row of YtlifobdooophbaaDoorRows.lean that lists a variable, with what it lists TIED to the program's text (the seventh form; the later family's looks); each row that meets fmt, with fmt's text TOLD by the authors' own Lean function (tested against real Go, not proved from fmt's source: count such statements apart). THE CARD IS WHAT COUNTS. Prove the row's statement (the work); the ties are given (YtlifobdooophbaaDoorTie.lean); close each card by the builder's one call (the guide's Derived/Test/ToyasCard.lean, 'card_holds'). Laid BY PROGRAM, IN A SANDBOX (cutbox-door.mjs). By AI agents, Wed Nov 11 2026. No macro, syntax, notation, axiom, sorry.
-/
import Derived.Test.YtlifobdooophbaaDoorRows
import GoSem.ClaimSeven
namespace Go.Proofs.YtlifobdooophbaaDoor
namespace Rows

/-- THE TIED CARD OF 'pilcrowlaw12.BocuReads'. -/
def bocuReadsCard : Claim7 := { stood := { row := bocuReadsRow, standIns := [], harness := (true, "917da348e6f09eb713dfcf191e04184f838c3ed0966220c22e6c456c234d540b"), looks := false }, kinds := [], alts := [], laidByText := true, laidKinds := [.data, .data], laidTests := true, laidLooks := .later }
def BocuReadsCardSaid : Prop := Claim7.holds Tryd.pinned (.plain (OpenSpec.ofChange bocuReadsSpec)) bocuReadsCard

/-- THE TIED CARD OF 'pilcrowlaw12.BocuWrites'. -/
def bocuWritesCard : Claim7 := { stood := { row := bocuWritesRow, standIns := [], harness := (true, "917da348e6f09eb713dfcf191e04184f838c3ed0966220c22e6c456c234d540b"), looks := false }, kinds := [], alts := [], laidByText := true, laidKinds := [.data, .data], laidTests := true, laidLooks := .later }
def BocuWritesCardSaid : Prop := Claim7.holds Tryd.pinned (.plain (OpenSpec.ofChange bocuWritesSpec)) bocuWritesCard

/-- THE TIED CARD OF 'pilcrowlaw12.BocuBack'. -/
def bocuBackCard : Claim7 := { stood := { row := bocuBackRow, standIns := [], harness := (true, "917da348e6f09eb713dfcf191e04184f838c3ed0966220c22e6c456c234d540b"), looks := false }, kinds := [], alts := [], laidByText := true, laidKinds := [.data, .data], laidTests := true, laidLooks := .later }
def BocuBackCardSaid : Prop := Claim7.holds Tryd.pinned (.plain (OpenSpec.ofChange bocuBackSpec)) bocuBackCard

/-- THE TIED CARD OF 'pilcrowlaw12.BocuOne'. -/
def bocuOneCard : Claim7 := { stood := { row := bocuOneRow, standIns := [], harness := (true, "917da348e6f09eb713dfcf191e04184f838c3ed0966220c22e6c456c234d540b"), looks := false }, kinds := [], alts := [], laidByText := true, laidKinds := [.data, .data], laidTests := true, laidLooks := .later }
def BocuOneCardSaid : Prop := Claim7.holds Tryd.pinned (.plain (OpenSpec.ofChange bocuOneSpec)) bocuOneCard

/-- THE TIED CARD OF 'pilcrowlaw12.BocuExtends'. -/
def bocuExtendsCard : Claim7 := { stood := { row := bocuExtendsRow, standIns := [], harness := (true, "917da348e6f09eb713dfcf191e04184f838c3ed0966220c22e6c456c234d540b"), looks := false }, kinds := [], alts := [], laidByText := true, laidKinds := [.data, .data], laidTests := true, laidLooks := .later }
def BocuExtendsCardSaid : Prop := Claim7.holds Tryd.pinned (.plain (OpenSpec.ofChange bocuExtendsSpec)) bocuExtendsCard

/-- THE TIED CARD OF 'pilcrowlaw12.BocuOrder'. -/
def bocuOrderCard : Claim7 := { stood := { row := bocuOrderRow, standIns := [], harness := (true, "917da348e6f09eb713dfcf191e04184f838c3ed0966220c22e6c456c234d540b"), looks := false }, kinds := [], alts := [], laidByText := true, laidKinds := [.data, .data], laidTests := true, laidLooks := .later }
def BocuOrderCardSaid : Prop := Claim7.holds Tryd.pinned (.plain (OpenSpec.ofChange bocuOrderSpec)) bocuOrderCard

/-- THE TIED CARD OF 'pilcrowlaw12.BocuKept'. -/
def bocuKeptCard : Claim7 := { stood := { row := bocuKeptRow, standIns := [], harness := (true, "917da348e6f09eb713dfcf191e04184f838c3ed0966220c22e6c456c234d540b"), looks := false }, kinds := [], alts := [], laidByText := true, laidKinds := [.data, .data], laidTests := true, laidLooks := .later }
def BocuKeptCardSaid : Prop := Claim7.holds Tryd.pinned (.plain (OpenSpec.ofChange bocuKeptSpec)) bocuKeptCard

/-- THE TIED CARD OF 'pilcrowlaw12.BocuResets'. -/
def bocuResetsCard : Claim7 := { stood := { row := bocuResetsRow, standIns := [], harness := (true, "917da348e6f09eb713dfcf191e04184f838c3ed0966220c22e6c456c234d540b"), looks := false }, kinds := [], alts := [], laidByText := true, laidKinds := [.data, .data], laidTests := true, laidLooks := .later }
def BocuResetsCardSaid : Prop := Claim7.holds Tryd.pinned (.plain (OpenSpec.ofChange bocuResetsSpec)) bocuResetsCard

/-- THE SECOND FORM's CARD OF 'pilcrowlaw12.BocuReads'. -/
def bocuReadsUptoCard : Claim7 := { stood := { row := bocuReadsUptoRow, standIns := [], harness := (true, "917da348e6f09eb713dfcf191e04184f838c3ed0966220c22e6c456c234d540b"), looks := false }, kinds := [], alts := [], laidByText := true, laidKinds := [.data, .data], laidTests := true, laidLooks := .later }
def BocuReadsUptoCardSaid : Prop := Claim7.holds Tryd.pinned (.plain (OpenSpec.upto bocuReadsSpec)) bocuReadsUptoCard

/-- THE SECOND FORM's CARD OF 'pilcrowlaw12.BocuWrites'. -/
def bocuWritesUptoCard : Claim7 := { stood := { row := bocuWritesUptoRow, standIns := [], harness := (true, "917da348e6f09eb713dfcf191e04184f838c3ed0966220c22e6c456c234d540b"), looks := false }, kinds := [], alts := [], laidByText := true, laidKinds := [.data, .data], laidTests := true, laidLooks := .later }
def BocuWritesUptoCardSaid : Prop := Claim7.holds Tryd.pinned (.plain (OpenSpec.upto bocuWritesSpec)) bocuWritesUptoCard

/-- THE SECOND FORM's CARD OF 'pilcrowlaw12.BocuBack'. -/
def bocuBackUptoCard : Claim7 := { stood := { row := bocuBackUptoRow, standIns := [], harness := (true, "917da348e6f09eb713dfcf191e04184f838c3ed0966220c22e6c456c234d540b"), looks := false }, kinds := [], alts := [], laidByText := true, laidKinds := [.data, .data], laidTests := true, laidLooks := .later }
def BocuBackUptoCardSaid : Prop := Claim7.holds Tryd.pinned (.plain (OpenSpec.upto bocuBackSpec)) bocuBackUptoCard

/-- THE SECOND FORM's CARD OF 'pilcrowlaw12.BocuOne'. -/
def bocuOneUptoCard : Claim7 := { stood := { row := bocuOneUptoRow, standIns := [], harness := (true, "917da348e6f09eb713dfcf191e04184f838c3ed0966220c22e6c456c234d540b"), looks := false }, kinds := [], alts := [], laidByText := true, laidKinds := [.data, .data], laidTests := true, laidLooks := .later }
def BocuOneUptoCardSaid : Prop := Claim7.holds Tryd.pinned (.plain (OpenSpec.upto bocuOneSpec)) bocuOneUptoCard

/-- THE SECOND FORM's CARD OF 'pilcrowlaw12.BocuExtends'. -/
def bocuExtendsUptoCard : Claim7 := { stood := { row := bocuExtendsUptoRow, standIns := [], harness := (true, "917da348e6f09eb713dfcf191e04184f838c3ed0966220c22e6c456c234d540b"), looks := false }, kinds := [], alts := [], laidByText := true, laidKinds := [.data, .data], laidTests := true, laidLooks := .later }
def BocuExtendsUptoCardSaid : Prop := Claim7.holds Tryd.pinned (.plain (OpenSpec.upto bocuExtendsSpec)) bocuExtendsUptoCard

/-- THE SECOND FORM's CARD OF 'pilcrowlaw12.BocuOrder'. -/
def bocuOrderUptoCard : Claim7 := { stood := { row := bocuOrderUptoRow, standIns := [], harness := (true, "917da348e6f09eb713dfcf191e04184f838c3ed0966220c22e6c456c234d540b"), looks := false }, kinds := [], alts := [], laidByText := true, laidKinds := [.data, .data], laidTests := true, laidLooks := .later }
def BocuOrderUptoCardSaid : Prop := Claim7.holds Tryd.pinned (.plain (OpenSpec.upto bocuOrderSpec)) bocuOrderUptoCard

/-- THE SECOND FORM's CARD OF 'pilcrowlaw12.BocuKept'. -/
def bocuKeptUptoCard : Claim7 := { stood := { row := bocuKeptUptoRow, standIns := [], harness := (true, "917da348e6f09eb713dfcf191e04184f838c3ed0966220c22e6c456c234d540b"), looks := false }, kinds := [], alts := [], laidByText := true, laidKinds := [.data, .data], laidTests := true, laidLooks := .later }
def BocuKeptUptoCardSaid : Prop := Claim7.holds Tryd.pinned (.plain (OpenSpec.upto bocuKeptSpec)) bocuKeptUptoCard

/-- THE SECOND FORM's CARD OF 'pilcrowlaw12.BocuResets'. -/
def bocuResetsUptoCard : Claim7 := { stood := { row := bocuResetsUptoRow, standIns := [], harness := (true, "917da348e6f09eb713dfcf191e04184f838c3ed0966220c22e6c456c234d540b"), looks := false }, kinds := [], alts := [], laidByText := true, laidKinds := [.data, .data], laidTests := true, laidLooks := .later }
def BocuResetsUptoCardSaid : Prop := Claim7.holds Tryd.pinned (.plain (OpenSpec.upto bocuResetsSpec)) bocuResetsUptoCard
end Rows
end Go.Proofs.YtlifobdooophbaaDoor
