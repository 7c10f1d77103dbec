/-
  DERIVED. GIVEN WITH THE SEED: THE CARDS: each row of YtknebngapfakjaaDoorRows.lean that lists a variable, with what it lists TIED to the program's text (the seventh form; the later family's looks); each row that meets fmt, with fmt's text TOLD by the authors' own Lean function (tested against real Go, not proved from fmt's source: count such statements apart). THE CARD IS WHAT COUNTS. Prove the row's statement (the work); the ties are given (YtknebngapfakjaaDoorTie.lean); close each card by the builder's one call (the guide's Derived/Test/ToyasCard.lean, 'card_holds'). Laid BY PROGRAM, IN A SANDBOX (cutbox-door.mjs). By AI agents, Wed Nov 11 2026. No macro, syntax, notation, axiom, sorry.
-/
import Derived.Test.YtknebngapfakjaaDoorRows
import GoSem.ClaimSeven
namespace Go.Proofs.YtknebngapfakjaaDoor
namespace Rows

/-- THE TIED CARD OF 'pilcrowlaw03.Uni8Reads'. -/
def uni8ReadsCard : Claim7 := { stood := { row := uni8ReadsRow, standIns := [], harness := (true, "e3dbf8c772c76a45a3d9579fa3839354814fca76097c51cdecb37c47c5daa00d"), looks := false }, kinds := [], alts := [], laidByText := true, laidKinds := [.data, .pinned], laidTests := true, laidLooks := .later }
def Uni8ReadsCardSaid : Prop := Claim7.holds Tryd.pinned (.plain (OpenSpec.ofChange uni8ReadsSpec)) uni8ReadsCard

/-- THE TIED CARD OF 'pilcrowlaw03.Uni8Writes'. -/
def uni8WritesCard : Claim7 := { stood := { row := uni8WritesRow, standIns := [], harness := (true, "e3dbf8c772c76a45a3d9579fa3839354814fca76097c51cdecb37c47c5daa00d"), looks := false }, kinds := [], alts := [], laidByText := true, laidKinds := [.data, .pinned], laidTests := true, laidLooks := .later }
def Uni8WritesCardSaid : Prop := Claim7.holds Tryd.pinned (.plain (OpenSpec.ofChange uni8WritesSpec)) uni8WritesCard

/-- THE TIED CARD OF 'pilcrowlaw03.Uni8Back'. -/
def uni8BackCard : Claim7 := { stood := { row := uni8BackRow, standIns := [], harness := (true, "e3dbf8c772c76a45a3d9579fa3839354814fca76097c51cdecb37c47c5daa00d"), looks := false }, kinds := [], alts := [], laidByText := true, laidKinds := [.data, .pinned], laidTests := true, laidLooks := .later }
def Uni8BackCardSaid : Prop := Claim7.holds Tryd.pinned (.plain (OpenSpec.ofChange uni8BackSpec)) uni8BackCard

/-- THE TIED CARD OF 'pilcrowlaw03.Uni8One'. -/
def uni8OneCard : Claim7 := { stood := { row := uni8OneRow, standIns := [], harness := (true, "e3dbf8c772c76a45a3d9579fa3839354814fca76097c51cdecb37c47c5daa00d"), looks := false }, kinds := [], alts := [], laidByText := true, laidKinds := [.data, .pinned], laidTests := true, laidLooks := .later }
def Uni8OneCardSaid : Prop := Claim7.holds Tryd.pinned (.plain (OpenSpec.ofChange uni8OneSpec)) uni8OneCard

/-- THE TIED CARD OF 'pilcrowlaw03.Uni8Extends'. -/
def uni8ExtendsCard : Claim7 := { stood := { row := uni8ExtendsRow, standIns := [], harness := (true, "e3dbf8c772c76a45a3d9579fa3839354814fca76097c51cdecb37c47c5daa00d"), looks := false }, kinds := [], alts := [], laidByText := true, laidKinds := [.data, .pinned], laidTests := true, laidLooks := .later }
def Uni8ExtendsCardSaid : Prop := Claim7.holds Tryd.pinned (.plain (OpenSpec.ofChange uni8ExtendsSpec)) uni8ExtendsCard

/-- THE TIED CARD OF 'pilcrowlaw03.Uni8Order'. -/
def uni8OrderCard : Claim7 := { stood := { row := uni8OrderRow, standIns := [], harness := (true, "e3dbf8c772c76a45a3d9579fa3839354814fca76097c51cdecb37c47c5daa00d"), looks := false }, kinds := [], alts := [], laidByText := true, laidKinds := [.data, .pinned], laidTests := true, laidLooks := .later }
def Uni8OrderCardSaid : Prop := Claim7.holds Tryd.pinned (.plain (OpenSpec.ofChange uni8OrderSpec)) uni8OrderCard

/-- THE SECOND FORM's CARD OF 'pilcrowlaw03.Uni8Reads'. -/
def uni8ReadsUptoCard : Claim7 := { stood := { row := uni8ReadsUptoRow, standIns := [], harness := (true, "e3dbf8c772c76a45a3d9579fa3839354814fca76097c51cdecb37c47c5daa00d"), looks := false }, kinds := [], alts := [], laidByText := true, laidKinds := [.data, .pinned], laidTests := true, laidLooks := .later }
def Uni8ReadsUptoCardSaid : Prop := Claim7.holds Tryd.pinned (.plain (OpenSpec.upto uni8ReadsSpec)) uni8ReadsUptoCard

/-- THE SECOND FORM's CARD OF 'pilcrowlaw03.Uni8Writes'. -/
def uni8WritesUptoCard : Claim7 := { stood := { row := uni8WritesUptoRow, standIns := [], harness := (true, "e3dbf8c772c76a45a3d9579fa3839354814fca76097c51cdecb37c47c5daa00d"), looks := false }, kinds := [], alts := [], laidByText := true, laidKinds := [.data, .pinned], laidTests := true, laidLooks := .later }
def Uni8WritesUptoCardSaid : Prop := Claim7.holds Tryd.pinned (.plain (OpenSpec.upto uni8WritesSpec)) uni8WritesUptoCard

/-- THE SECOND FORM's CARD OF 'pilcrowlaw03.Uni8Back'. -/
def uni8BackUptoCard : Claim7 := { stood := { row := uni8BackUptoRow, standIns := [], harness := (true, "e3dbf8c772c76a45a3d9579fa3839354814fca76097c51cdecb37c47c5daa00d"), looks := false }, kinds := [], alts := [], laidByText := true, laidKinds := [.data, .pinned], laidTests := true, laidLooks := .later }
def Uni8BackUptoCardSaid : Prop := Claim7.holds Tryd.pinned (.plain (OpenSpec.upto uni8BackSpec)) uni8BackUptoCard

/-- THE SECOND FORM's CARD OF 'pilcrowlaw03.Uni8One'. -/
def uni8OneUptoCard : Claim7 := { stood := { row := uni8OneUptoRow, standIns := [], harness := (true, "e3dbf8c772c76a45a3d9579fa3839354814fca76097c51cdecb37c47c5daa00d"), looks := false }, kinds := [], alts := [], laidByText := true, laidKinds := [.data, .pinned], laidTests := true, laidLooks := .later }
def Uni8OneUptoCardSaid : Prop := Claim7.holds Tryd.pinned (.plain (OpenSpec.upto uni8OneSpec)) uni8OneUptoCard

/-- THE SECOND FORM's CARD OF 'pilcrowlaw03.Uni8Extends'. -/
def uni8ExtendsUptoCard : Claim7 := { stood := { row := uni8ExtendsUptoRow, standIns := [], harness := (true, "e3dbf8c772c76a45a3d9579fa3839354814fca76097c51cdecb37c47c5daa00d"), looks := false }, kinds := [], alts := [], laidByText := true, laidKinds := [.data, .pinned], laidTests := true, laidLooks := .later }
def Uni8ExtendsUptoCardSaid : Prop := Claim7.holds Tryd.pinned (.plain (OpenSpec.upto uni8ExtendsSpec)) uni8ExtendsUptoCard

/-- THE SECOND FORM's CARD OF 'pilcrowlaw03.Uni8Order'. -/
def uni8OrderUptoCard : Claim7 := { stood := { row := uni8OrderUptoRow, standIns := [], harness := (true, "e3dbf8c772c76a45a3d9579fa3839354814fca76097c51cdecb37c47c5daa00d"), looks := false }, kinds := [], alts := [], laidByText := true, laidKinds := [.data, .pinned], laidTests := true, laidLooks := .later }
def Uni8OrderUptoCardSaid : Prop := Claim7.holds Tryd.pinned (.plain (OpenSpec.upto uni8OrderSpec)) uni8OrderUptoCard
end Rows
end Go.Proofs.YtknebngapfakjaaDoor
