/-
  DERIVED. GIVEN WITH THE SEED: THE CARDS: each row of YtgmnhilibcgmlaaDoorRows.lean that lists a variable, with what it lists TIED to the program's text (the seventh form; the later family's looks); each row that meets fmt, with fmt's text TOLD by the authors' own Lean function (tested against real Go, not proved from fmt's source: count such statements apart). THE CARD IS WHAT COUNTS. Prove the row's statement (the work); the ties are given (YtgmnhilibcgmlaaDoorTie.lean); close each card by the builder's one call (the guide's Derived/Test/ToyasCard.lean, 'card_holds'). Laid BY PROGRAM, IN A SANDBOX (cutbox-door.mjs). By AI agents, Wed Nov 11 2026. No macro, syntax, notation, axiom, sorry.
-/
import Derived.Test.YtgmnhilibcgmlaaDoorRows
import GoSem.ClaimSeven
namespace Go.Proofs.YtgmnhilibcgmlaaDoor
namespace Rows

/-- THE TIED CARD OF 'pilcrowlaw06.Mod8Reads'. -/
def mod8ReadsCard : Claim7 := { stood := { row := mod8ReadsRow, standIns := [], harness := (true, "095779d6e87c5ad41f41b1b7947f7bea636f37b6e0a6a676e7605cff23f42907"), looks := false }, kinds := [], alts := [], laidByText := true, laidKinds := [.data], laidTests := true, laidLooks := .later }
def Mod8ReadsCardSaid : Prop := Claim7.holds Tryd.pinned (.plain (OpenSpec.ofChange mod8ReadsSpec)) mod8ReadsCard

/-- THE TIED CARD OF 'pilcrowlaw06.Mod8Writes'. -/
def mod8WritesCard : Claim7 := { stood := { row := mod8WritesRow, standIns := [], harness := (true, "095779d6e87c5ad41f41b1b7947f7bea636f37b6e0a6a676e7605cff23f42907"), looks := false }, kinds := [], alts := [], laidByText := true, laidKinds := [.data], laidTests := true, laidLooks := .later }
def Mod8WritesCardSaid : Prop := Claim7.holds Tryd.pinned (.plain (OpenSpec.ofChange mod8WritesSpec)) mod8WritesCard

/-- THE TIED CARD OF 'pilcrowlaw06.Mod8Back'. -/
def mod8BackCard : Claim7 := { stood := { row := mod8BackRow, standIns := [], harness := (true, "095779d6e87c5ad41f41b1b7947f7bea636f37b6e0a6a676e7605cff23f42907"), looks := false }, kinds := [], alts := [], laidByText := true, laidKinds := [.data], laidTests := true, laidLooks := .later }
def Mod8BackCardSaid : Prop := Claim7.holds Tryd.pinned (.plain (OpenSpec.ofChange mod8BackSpec)) mod8BackCard

/-- THE TIED CARD OF 'pilcrowlaw06.Mod8One'. -/
def mod8OneCard : Claim7 := { stood := { row := mod8OneRow, standIns := [], harness := (true, "095779d6e87c5ad41f41b1b7947f7bea636f37b6e0a6a676e7605cff23f42907"), looks := false }, kinds := [], alts := [], laidByText := true, laidKinds := [.data], laidTests := true, laidLooks := .later }
def Mod8OneCardSaid : Prop := Claim7.holds Tryd.pinned (.plain (OpenSpec.ofChange mod8OneSpec)) mod8OneCard

/-- THE TIED CARD OF 'pilcrowlaw06.Mod8Extends'. -/
def mod8ExtendsCard : Claim7 := { stood := { row := mod8ExtendsRow, standIns := [], harness := (true, "095779d6e87c5ad41f41b1b7947f7bea636f37b6e0a6a676e7605cff23f42907"), looks := false }, kinds := [], alts := [], laidByText := true, laidKinds := [.data], laidTests := true, laidLooks := .later }
def Mod8ExtendsCardSaid : Prop := Claim7.holds Tryd.pinned (.plain (OpenSpec.ofChange mod8ExtendsSpec)) mod8ExtendsCard

/-- THE TIED CARD OF 'pilcrowlaw06.Mod8Order'. -/
def mod8OrderCard : Claim7 := { stood := { row := mod8OrderRow, standIns := [], harness := (true, "095779d6e87c5ad41f41b1b7947f7bea636f37b6e0a6a676e7605cff23f42907"), looks := false }, kinds := [], alts := [], laidByText := true, laidKinds := [.data], laidTests := true, laidLooks := .later }
def Mod8OrderCardSaid : Prop := Claim7.holds Tryd.pinned (.plain (OpenSpec.ofChange mod8OrderSpec)) mod8OrderCard

/-- THE SECOND FORM's CARD OF 'pilcrowlaw06.Mod8Reads'. -/
def mod8ReadsUptoCard : Claim7 := { stood := { row := mod8ReadsUptoRow, standIns := [], harness := (true, "095779d6e87c5ad41f41b1b7947f7bea636f37b6e0a6a676e7605cff23f42907"), looks := false }, kinds := [], alts := [], laidByText := true, laidKinds := [.data], laidTests := true, laidLooks := .later }
def Mod8ReadsUptoCardSaid : Prop := Claim7.holds Tryd.pinned (.plain (OpenSpec.upto mod8ReadsSpec)) mod8ReadsUptoCard

/-- THE SECOND FORM's CARD OF 'pilcrowlaw06.Mod8Writes'. -/
def mod8WritesUptoCard : Claim7 := { stood := { row := mod8WritesUptoRow, standIns := [], harness := (true, "095779d6e87c5ad41f41b1b7947f7bea636f37b6e0a6a676e7605cff23f42907"), looks := false }, kinds := [], alts := [], laidByText := true, laidKinds := [.data], laidTests := true, laidLooks := .later }
def Mod8WritesUptoCardSaid : Prop := Claim7.holds Tryd.pinned (.plain (OpenSpec.upto mod8WritesSpec)) mod8WritesUptoCard

/-- THE SECOND FORM's CARD OF 'pilcrowlaw06.Mod8Back'. -/
def mod8BackUptoCard : Claim7 := { stood := { row := mod8BackUptoRow, standIns := [], harness := (true, "095779d6e87c5ad41f41b1b7947f7bea636f37b6e0a6a676e7605cff23f42907"), looks := false }, kinds := [], alts := [], laidByText := true, laidKinds := [.data], laidTests := true, laidLooks := .later }
def Mod8BackUptoCardSaid : Prop := Claim7.holds Tryd.pinned (.plain (OpenSpec.upto mod8BackSpec)) mod8BackUptoCard

/-- THE SECOND FORM's CARD OF 'pilcrowlaw06.Mod8One'. -/
def mod8OneUptoCard : Claim7 := { stood := { row := mod8OneUptoRow, standIns := [], harness := (true, "095779d6e87c5ad41f41b1b7947f7bea636f37b6e0a6a676e7605cff23f42907"), looks := false }, kinds := [], alts := [], laidByText := true, laidKinds := [.data], laidTests := true, laidLooks := .later }
def Mod8OneUptoCardSaid : Prop := Claim7.holds Tryd.pinned (.plain (OpenSpec.upto mod8OneSpec)) mod8OneUptoCard

/-- THE SECOND FORM's CARD OF 'pilcrowlaw06.Mod8Extends'. -/
def mod8ExtendsUptoCard : Claim7 := { stood := { row := mod8ExtendsUptoRow, standIns := [], harness := (true, "095779d6e87c5ad41f41b1b7947f7bea636f37b6e0a6a676e7605cff23f42907"), looks := false }, kinds := [], alts := [], laidByText := true, laidKinds := [.data], laidTests := true, laidLooks := .later }
def Mod8ExtendsUptoCardSaid : Prop := Claim7.holds Tryd.pinned (.plain (OpenSpec.upto mod8ExtendsSpec)) mod8ExtendsUptoCard

/-- THE SECOND FORM's CARD OF 'pilcrowlaw06.Mod8Order'. -/
def mod8OrderUptoCard : Claim7 := { stood := { row := mod8OrderUptoRow, standIns := [], harness := (true, "095779d6e87c5ad41f41b1b7947f7bea636f37b6e0a6a676e7605cff23f42907"), looks := false }, kinds := [], alts := [], laidByText := true, laidKinds := [.data], laidTests := true, laidLooks := .later }
def Mod8OrderUptoCardSaid : Prop := Claim7.holds Tryd.pinned (.plain (OpenSpec.upto mod8OrderSpec)) mod8OrderUptoCard
end Rows
end Go.Proofs.YtgmnhilibcgmlaaDoor
