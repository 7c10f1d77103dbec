/-
  DERIVED. GIVEN WITH THE SEED: THE CARDS: each row of YtjbgcclbomimiaaDoorRows.lean that lists a variable, with what it lists TIED to the program's text (the seventh form; the later family's looks); each row that meets fmt, with fmt's text TOLD by the authors' own Lean function (tested against real Go, not proved from fmt's source: count such statements apart). THE CARD IS WHAT COUNTS. Prove the row's statement (the work); the ties are given (YtjbgcclbomimiaaDoorTie.lean); close each card by the builder's one call (the guide's Derived/Test/ToyasCard.lean, 'card_holds'). Laid BY PROGRAM, IN A SANDBOX (cutbox-door.mjs). By AI agents, Wed Nov 11 2026. No macro, syntax, notation, axiom, sorry.
-/
import Derived.Test.YtjbgcclbomimiaaDoorRows
import GoSem.ClaimSeven
namespace Go.Proofs.YtjbgcclbomimiaaDoor
namespace Rows

/-- THE TIED CARD OF 'pilcrowlaw06.Mod8Reads'. -/
def mod8ReadsCard : Claim7 := { stood := { row := mod8ReadsRow, standIns := [], harness := (true, "d8826104f4a96a7adb13aad39b4613585e89c448fef7bfbb354a86c4ee29693d"), looks := false }, kinds := [], alts := [], laidByText := true, laidKinds := [.data], laidTests := true, laidLooks := .later }
def Mod8ReadsCardSaid : Prop := Claim7.holds Tryd.pinned (.plain (OpenSpec.ofChange mod8ReadsSpec)) mod8ReadsCard

/-- THE TIED CARD OF 'pilcrowlaw06.Mod8Writes'. -/
def mod8WritesCard : Claim7 := { stood := { row := mod8WritesRow, standIns := [], harness := (true, "d8826104f4a96a7adb13aad39b4613585e89c448fef7bfbb354a86c4ee29693d"), looks := false }, kinds := [], alts := [], laidByText := true, laidKinds := [.data], laidTests := true, laidLooks := .later }
def Mod8WritesCardSaid : Prop := Claim7.holds Tryd.pinned (.plain (OpenSpec.ofChange mod8WritesSpec)) mod8WritesCard

/-- THE TIED CARD OF 'pilcrowlaw06.Mod8Back'. -/
def mod8BackCard : Claim7 := { stood := { row := mod8BackRow, standIns := [], harness := (true, "d8826104f4a96a7adb13aad39b4613585e89c448fef7bfbb354a86c4ee29693d"), looks := false }, kinds := [], alts := [], laidByText := true, laidKinds := [.data], laidTests := true, laidLooks := .later }
def Mod8BackCardSaid : Prop := Claim7.holds Tryd.pinned (.plain (OpenSpec.ofChange mod8BackSpec)) mod8BackCard

/-- THE TIED CARD OF 'pilcrowlaw06.Mod8One'. -/
def mod8OneCard : Claim7 := { stood := { row := mod8OneRow, standIns := [], harness := (true, "d8826104f4a96a7adb13aad39b4613585e89c448fef7bfbb354a86c4ee29693d"), looks := false }, kinds := [], alts := [], laidByText := true, laidKinds := [.data], laidTests := true, laidLooks := .later }
def Mod8OneCardSaid : Prop := Claim7.holds Tryd.pinned (.plain (OpenSpec.ofChange mod8OneSpec)) mod8OneCard

/-- THE TIED CARD OF 'pilcrowlaw06.Mod8Extends'. -/
def mod8ExtendsCard : Claim7 := { stood := { row := mod8ExtendsRow, standIns := [], harness := (true, "d8826104f4a96a7adb13aad39b4613585e89c448fef7bfbb354a86c4ee29693d"), looks := false }, kinds := [], alts := [], laidByText := true, laidKinds := [.data], laidTests := true, laidLooks := .later }
def Mod8ExtendsCardSaid : Prop := Claim7.holds Tryd.pinned (.plain (OpenSpec.ofChange mod8ExtendsSpec)) mod8ExtendsCard

/-- THE TIED CARD OF 'pilcrowlaw06.Mod8Order'. -/
def mod8OrderCard : Claim7 := { stood := { row := mod8OrderRow, standIns := [], harness := (true, "d8826104f4a96a7adb13aad39b4613585e89c448fef7bfbb354a86c4ee29693d"), looks := false }, kinds := [], alts := [], laidByText := true, laidKinds := [.data], laidTests := true, laidLooks := .later }
def Mod8OrderCardSaid : Prop := Claim7.holds Tryd.pinned (.plain (OpenSpec.ofChange mod8OrderSpec)) mod8OrderCard

/-- THE TIED CARD OF 'pilcrowlaw08.EbcdicReads'. -/
def ebcdicReadsCard : Claim7 := { stood := { row := ebcdicReadsRow, standIns := [], harness := (true, "d8826104f4a96a7adb13aad39b4613585e89c448fef7bfbb354a86c4ee29693d"), looks := false }, kinds := [], alts := [], laidByText := true, laidKinds := [.data], laidTests := true, laidLooks := .later }
def EbcdicReadsCardSaid : Prop := Claim7.holds Tryd.pinned (.plain (OpenSpec.ofChange ebcdicReadsSpec)) ebcdicReadsCard

/-- THE TIED CARD OF 'pilcrowlaw08.EbcdicWrites'. -/
def ebcdicWritesCard : Claim7 := { stood := { row := ebcdicWritesRow, standIns := [], harness := (true, "d8826104f4a96a7adb13aad39b4613585e89c448fef7bfbb354a86c4ee29693d"), looks := false }, kinds := [], alts := [], laidByText := true, laidKinds := [.data], laidTests := true, laidLooks := .later }
def EbcdicWritesCardSaid : Prop := Claim7.holds Tryd.pinned (.plain (OpenSpec.ofChange ebcdicWritesSpec)) ebcdicWritesCard

/-- THE TIED CARD OF 'pilcrowlaw08.EbcdicBack'. -/
def ebcdicBackCard : Claim7 := { stood := { row := ebcdicBackRow, standIns := [], harness := (true, "d8826104f4a96a7adb13aad39b4613585e89c448fef7bfbb354a86c4ee29693d"), looks := false }, kinds := [], alts := [], laidByText := true, laidKinds := [.data], laidTests := true, laidLooks := .later }
def EbcdicBackCardSaid : Prop := Claim7.holds Tryd.pinned (.plain (OpenSpec.ofChange ebcdicBackSpec)) ebcdicBackCard

/-- THE TIED CARD OF 'pilcrowlaw08.EbcdicOne'. -/
def ebcdicOneCard : Claim7 := { stood := { row := ebcdicOneRow, standIns := [], harness := (true, "d8826104f4a96a7adb13aad39b4613585e89c448fef7bfbb354a86c4ee29693d"), looks := false }, kinds := [], alts := [], laidByText := true, laidKinds := [.data], laidTests := true, laidLooks := .later }
def EbcdicOneCardSaid : Prop := Claim7.holds Tryd.pinned (.plain (OpenSpec.ofChange ebcdicOneSpec)) ebcdicOneCard

/-- THE TIED CARD OF 'pilcrowlaw08.EbcdicExtends'. -/
def ebcdicExtendsCard : Claim7 := { stood := { row := ebcdicExtendsRow, standIns := [], harness := (true, "d8826104f4a96a7adb13aad39b4613585e89c448fef7bfbb354a86c4ee29693d"), looks := false }, kinds := [], alts := [], laidByText := true, laidKinds := [.data], laidTests := true, laidLooks := .later }
def EbcdicExtendsCardSaid : Prop := Claim7.holds Tryd.pinned (.plain (OpenSpec.ofChange ebcdicExtendsSpec)) ebcdicExtendsCard

/-- THE TIED CARD OF 'pilcrowlaw08.EbcdicMod8'. -/
def ebcdicMod8Card : Claim7 := { stood := { row := ebcdicMod8Row, standIns := [], harness := (true, "d8826104f4a96a7adb13aad39b4613585e89c448fef7bfbb354a86c4ee29693d"), looks := false }, kinds := [], alts := [], laidByText := true, laidKinds := [.data], laidTests := true, laidLooks := .later }
def EbcdicMod8CardSaid : Prop := Claim7.holds Tryd.pinned (.plain (OpenSpec.ofChange ebcdicMod8Spec)) ebcdicMod8Card

/-- THE TIED CARD OF 'pilcrowlaw08.EbcdicControls'. -/
def ebcdicControlsCard : Claim7 := { stood := { row := ebcdicControlsRow, standIns := [], harness := (true, "d8826104f4a96a7adb13aad39b4613585e89c448fef7bfbb354a86c4ee29693d"), looks := false }, kinds := [], alts := [], laidByText := true, laidKinds := [.data], laidTests := true, laidLooks := .later }
def EbcdicControlsCardSaid : Prop := Claim7.holds Tryd.pinned (.plain (OpenSpec.ofChange ebcdicControlsSpec)) ebcdicControlsCard

/-- THE SECOND FORM's CARD OF 'pilcrowlaw06.Mod8Reads'. -/
def mod8ReadsUptoCard : Claim7 := { stood := { row := mod8ReadsUptoRow, standIns := [], harness := (true, "d8826104f4a96a7adb13aad39b4613585e89c448fef7bfbb354a86c4ee29693d"), looks := false }, kinds := [], alts := [], laidByText := true, laidKinds := [.data], laidTests := true, laidLooks := .later }
def Mod8ReadsUptoCardSaid : Prop := Claim7.holds Tryd.pinned (.plain (OpenSpec.upto mod8ReadsSpec)) mod8ReadsUptoCard

/-- THE SECOND FORM's CARD OF 'pilcrowlaw06.Mod8Writes'. -/
def mod8WritesUptoCard : Claim7 := { stood := { row := mod8WritesUptoRow, standIns := [], harness := (true, "d8826104f4a96a7adb13aad39b4613585e89c448fef7bfbb354a86c4ee29693d"), looks := false }, kinds := [], alts := [], laidByText := true, laidKinds := [.data], laidTests := true, laidLooks := .later }
def Mod8WritesUptoCardSaid : Prop := Claim7.holds Tryd.pinned (.plain (OpenSpec.upto mod8WritesSpec)) mod8WritesUptoCard

/-- THE SECOND FORM's CARD OF 'pilcrowlaw06.Mod8Back'. -/
def mod8BackUptoCard : Claim7 := { stood := { row := mod8BackUptoRow, standIns := [], harness := (true, "d8826104f4a96a7adb13aad39b4613585e89c448fef7bfbb354a86c4ee29693d"), looks := false }, kinds := [], alts := [], laidByText := true, laidKinds := [.data], laidTests := true, laidLooks := .later }
def Mod8BackUptoCardSaid : Prop := Claim7.holds Tryd.pinned (.plain (OpenSpec.upto mod8BackSpec)) mod8BackUptoCard

/-- THE SECOND FORM's CARD OF 'pilcrowlaw06.Mod8One'. -/
def mod8OneUptoCard : Claim7 := { stood := { row := mod8OneUptoRow, standIns := [], harness := (true, "d8826104f4a96a7adb13aad39b4613585e89c448fef7bfbb354a86c4ee29693d"), looks := false }, kinds := [], alts := [], laidByText := true, laidKinds := [.data], laidTests := true, laidLooks := .later }
def Mod8OneUptoCardSaid : Prop := Claim7.holds Tryd.pinned (.plain (OpenSpec.upto mod8OneSpec)) mod8OneUptoCard

/-- THE SECOND FORM's CARD OF 'pilcrowlaw06.Mod8Extends'. -/
def mod8ExtendsUptoCard : Claim7 := { stood := { row := mod8ExtendsUptoRow, standIns := [], harness := (true, "d8826104f4a96a7adb13aad39b4613585e89c448fef7bfbb354a86c4ee29693d"), looks := false }, kinds := [], alts := [], laidByText := true, laidKinds := [.data], laidTests := true, laidLooks := .later }
def Mod8ExtendsUptoCardSaid : Prop := Claim7.holds Tryd.pinned (.plain (OpenSpec.upto mod8ExtendsSpec)) mod8ExtendsUptoCard

/-- THE SECOND FORM's CARD OF 'pilcrowlaw06.Mod8Order'. -/
def mod8OrderUptoCard : Claim7 := { stood := { row := mod8OrderUptoRow, standIns := [], harness := (true, "d8826104f4a96a7adb13aad39b4613585e89c448fef7bfbb354a86c4ee29693d"), looks := false }, kinds := [], alts := [], laidByText := true, laidKinds := [.data], laidTests := true, laidLooks := .later }
def Mod8OrderUptoCardSaid : Prop := Claim7.holds Tryd.pinned (.plain (OpenSpec.upto mod8OrderSpec)) mod8OrderUptoCard

/-- THE SECOND FORM's CARD OF 'pilcrowlaw08.EbcdicReads'. -/
def ebcdicReadsUptoCard : Claim7 := { stood := { row := ebcdicReadsUptoRow, standIns := [], harness := (true, "d8826104f4a96a7adb13aad39b4613585e89c448fef7bfbb354a86c4ee29693d"), looks := false }, kinds := [], alts := [], laidByText := true, laidKinds := [.data], laidTests := true, laidLooks := .later }
def EbcdicReadsUptoCardSaid : Prop := Claim7.holds Tryd.pinned (.plain (OpenSpec.upto ebcdicReadsSpec)) ebcdicReadsUptoCard

/-- THE SECOND FORM's CARD OF 'pilcrowlaw08.EbcdicWrites'. -/
def ebcdicWritesUptoCard : Claim7 := { stood := { row := ebcdicWritesUptoRow, standIns := [], harness := (true, "d8826104f4a96a7adb13aad39b4613585e89c448fef7bfbb354a86c4ee29693d"), looks := false }, kinds := [], alts := [], laidByText := true, laidKinds := [.data], laidTests := true, laidLooks := .later }
def EbcdicWritesUptoCardSaid : Prop := Claim7.holds Tryd.pinned (.plain (OpenSpec.upto ebcdicWritesSpec)) ebcdicWritesUptoCard

/-- THE SECOND FORM's CARD OF 'pilcrowlaw08.EbcdicBack'. -/
def ebcdicBackUptoCard : Claim7 := { stood := { row := ebcdicBackUptoRow, standIns := [], harness := (true, "d8826104f4a96a7adb13aad39b4613585e89c448fef7bfbb354a86c4ee29693d"), looks := false }, kinds := [], alts := [], laidByText := true, laidKinds := [.data], laidTests := true, laidLooks := .later }
def EbcdicBackUptoCardSaid : Prop := Claim7.holds Tryd.pinned (.plain (OpenSpec.upto ebcdicBackSpec)) ebcdicBackUptoCard

/-- THE SECOND FORM's CARD OF 'pilcrowlaw08.EbcdicOne'. -/
def ebcdicOneUptoCard : Claim7 := { stood := { row := ebcdicOneUptoRow, standIns := [], harness := (true, "d8826104f4a96a7adb13aad39b4613585e89c448fef7bfbb354a86c4ee29693d"), looks := false }, kinds := [], alts := [], laidByText := true, laidKinds := [.data], laidTests := true, laidLooks := .later }
def EbcdicOneUptoCardSaid : Prop := Claim7.holds Tryd.pinned (.plain (OpenSpec.upto ebcdicOneSpec)) ebcdicOneUptoCard

/-- THE SECOND FORM's CARD OF 'pilcrowlaw08.EbcdicExtends'. -/
def ebcdicExtendsUptoCard : Claim7 := { stood := { row := ebcdicExtendsUptoRow, standIns := [], harness := (true, "d8826104f4a96a7adb13aad39b4613585e89c448fef7bfbb354a86c4ee29693d"), looks := false }, kinds := [], alts := [], laidByText := true, laidKinds := [.data], laidTests := true, laidLooks := .later }
def EbcdicExtendsUptoCardSaid : Prop := Claim7.holds Tryd.pinned (.plain (OpenSpec.upto ebcdicExtendsSpec)) ebcdicExtendsUptoCard

/-- THE SECOND FORM's CARD OF 'pilcrowlaw08.EbcdicMod8'. -/
def ebcdicMod8UptoCard : Claim7 := { stood := { row := ebcdicMod8UptoRow, standIns := [], harness := (true, "d8826104f4a96a7adb13aad39b4613585e89c448fef7bfbb354a86c4ee29693d"), looks := false }, kinds := [], alts := [], laidByText := true, laidKinds := [.data], laidTests := true, laidLooks := .later }
def EbcdicMod8UptoCardSaid : Prop := Claim7.holds Tryd.pinned (.plain (OpenSpec.upto ebcdicMod8Spec)) ebcdicMod8UptoCard

/-- THE SECOND FORM's CARD OF 'pilcrowlaw08.EbcdicControls'. -/
def ebcdicControlsUptoCard : Claim7 := { stood := { row := ebcdicControlsUptoRow, standIns := [], harness := (true, "d8826104f4a96a7adb13aad39b4613585e89c448fef7bfbb354a86c4ee29693d"), looks := false }, kinds := [], alts := [], laidByText := true, laidKinds := [.data], laidTests := true, laidLooks := .later }
def EbcdicControlsUptoCardSaid : Prop := Claim7.holds Tryd.pinned (.plain (OpenSpec.upto ebcdicControlsSpec)) ebcdicControlsUptoCard
end Rows
end Go.Proofs.YtjbgcclbomimiaaDoor
