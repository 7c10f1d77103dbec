/-
  DERIVED. GIVEN WITH THE SEED: THE CARDS: each row of YtohobpjiikpdmaaDoorRows.lean that lists a variable, with what it lists TIED to the program's text (the seventh form; the later family's looks); each row that meets fmt, with fmt's text TOLD by the authors' own Lean function (tested against real Go, not proved from fmt's source: count such statements apart). THE CARD IS WHAT COUNTS. Prove the row's statement (the work); the ties are given (YtohobpjiikpdmaaDoorTie.lean); close each card by the builder's one call (the guide's Derived/Test/ToyasCard.lean, 'card_holds'). Laid BY PROGRAM, IN A SANDBOX (cutbox-door.mjs). By AI agents, Wed Nov 11 2026. No macro, syntax, notation, axiom, sorry.
-/
import Derived.Test.YtohobpjiikpdmaaDoorRows
import GoSem.ClaimSeven
namespace Go.Proofs.YtohobpjiikpdmaaDoor
namespace Rows

/-- THE TIED CARD OF 'pilcrowlaw14.ExpandReads'. -/
def expandReadsCard : Claim7 := { stood := { row := expandReadsRow, standIns := [], harness := (true, "5a4a17bb404ba150ece93deaf3ad6b50e317075481677acf0b953cb6d71fc826"), looks := false }, kinds := [], alts := [], laidByText := true, laidKinds := [.data, .data, .data], laidTests := true, laidLooks := .later }
def ExpandReadsCardSaid : Prop := Claim7.holds Tryd.pinned (.plain (OpenSpec.ofChange expandReadsSpec)) expandReadsCard

/-- THE TIED CARD OF 'pilcrowlaw14.ExpandExtends'. -/
def expandExtendsCard : Claim7 := { stood := { row := expandExtendsRow, standIns := [], harness := (true, "5a4a17bb404ba150ece93deaf3ad6b50e317075481677acf0b953cb6d71fc826"), looks := false }, kinds := [], alts := [], laidByText := true, laidKinds := [.data, .data, .data], laidTests := true, laidLooks := .later }
def ExpandExtendsCardSaid : Prop := Claim7.holds Tryd.pinned (.plain (OpenSpec.ofChange expandExtendsSpec)) expandExtendsCard

/-- THE TIED CARD OF 'pilcrowlaw14.ExpandAscii'. -/
def expandAsciiCard : Claim7 := { stood := { row := expandAsciiRow, standIns := [], harness := (true, "5a4a17bb404ba150ece93deaf3ad6b50e317075481677acf0b953cb6d71fc826"), looks := false }, kinds := [], alts := [], laidByText := true, laidKinds := [.data, .data, .data], laidTests := true, laidLooks := .later }
def ExpandAsciiCardSaid : Prop := Claim7.holds Tryd.pinned (.plain (OpenSpec.ofChange expandAsciiSpec)) expandAsciiCard

/-- THE TIED CARD OF 'pilcrowlaw14.ExpandUnits'. -/
def expandUnitsCard : Claim7 := { stood := { row := expandUnitsRow, standIns := [], harness := (true, "5a4a17bb404ba150ece93deaf3ad6b50e317075481677acf0b953cb6d71fc826"), looks := false }, kinds := [], alts := [], laidByText := true, laidKinds := [.data, .data, .data], laidTests := true, laidLooks := .later }
def ExpandUnitsCardSaid : Prop := Claim7.holds Tryd.pinned (.plain (OpenSpec.ofChange expandUnitsSpec)) expandUnitsCard

/-- THE TIED CARD OF 'pilcrowlaw14.ExpandWindows'. -/
def expandWindowsCard : Claim7 := { stood := { row := expandWindowsRow, standIns := [], harness := (true, "5a4a17bb404ba150ece93deaf3ad6b50e317075481677acf0b953cb6d71fc826"), looks := false }, kinds := [], alts := [], laidByText := true, laidKinds := [.data, .data, .data], laidTests := true, laidLooks := .later }
def ExpandWindowsCardSaid : Prop := Claim7.holds Tryd.pinned (.plain (OpenSpec.ofChange expandWindowsSpec)) expandWindowsCard

/-- THE TIED CARD OF 'pilcrowlaw14.ExpandFront'. -/
def expandFrontCard : Claim7 := { stood := { row := expandFrontRow, standIns := [], harness := (true, "5a4a17bb404ba150ece93deaf3ad6b50e317075481677acf0b953cb6d71fc826"), looks := false }, kinds := [], alts := [], laidByText := true, laidKinds := [.data, .data, .data], laidTests := true, laidLooks := .later }
def ExpandFrontCardSaid : Prop := Claim7.holds Tryd.pinned (.plain (OpenSpec.ofChange expandFrontSpec)) expandFrontCard

/-- THE SECOND FORM's CARD OF 'pilcrowlaw14.ExpandReads'. -/
def expandReadsUptoCard : Claim7 := { stood := { row := expandReadsUptoRow, standIns := [], harness := (true, "5a4a17bb404ba150ece93deaf3ad6b50e317075481677acf0b953cb6d71fc826"), looks := false }, kinds := [], alts := [], laidByText := true, laidKinds := [.data, .data, .data], laidTests := true, laidLooks := .later }
def ExpandReadsUptoCardSaid : Prop := Claim7.holds Tryd.pinned (.plain (OpenSpec.upto expandReadsSpec)) expandReadsUptoCard

/-- THE SECOND FORM's CARD OF 'pilcrowlaw14.ExpandExtends'. -/
def expandExtendsUptoCard : Claim7 := { stood := { row := expandExtendsUptoRow, standIns := [], harness := (true, "5a4a17bb404ba150ece93deaf3ad6b50e317075481677acf0b953cb6d71fc826"), looks := false }, kinds := [], alts := [], laidByText := true, laidKinds := [.data, .data, .data], laidTests := true, laidLooks := .later }
def ExpandExtendsUptoCardSaid : Prop := Claim7.holds Tryd.pinned (.plain (OpenSpec.upto expandExtendsSpec)) expandExtendsUptoCard

/-- THE SECOND FORM's CARD OF 'pilcrowlaw14.ExpandAscii'. -/
def expandAsciiUptoCard : Claim7 := { stood := { row := expandAsciiUptoRow, standIns := [], harness := (true, "5a4a17bb404ba150ece93deaf3ad6b50e317075481677acf0b953cb6d71fc826"), looks := false }, kinds := [], alts := [], laidByText := true, laidKinds := [.data, .data, .data], laidTests := true, laidLooks := .later }
def ExpandAsciiUptoCardSaid : Prop := Claim7.holds Tryd.pinned (.plain (OpenSpec.upto expandAsciiSpec)) expandAsciiUptoCard

/-- THE SECOND FORM's CARD OF 'pilcrowlaw14.ExpandUnits'. -/
def expandUnitsUptoCard : Claim7 := { stood := { row := expandUnitsUptoRow, standIns := [], harness := (true, "5a4a17bb404ba150ece93deaf3ad6b50e317075481677acf0b953cb6d71fc826"), looks := false }, kinds := [], alts := [], laidByText := true, laidKinds := [.data, .data, .data], laidTests := true, laidLooks := .later }
def ExpandUnitsUptoCardSaid : Prop := Claim7.holds Tryd.pinned (.plain (OpenSpec.upto expandUnitsSpec)) expandUnitsUptoCard

/-- THE SECOND FORM's CARD OF 'pilcrowlaw14.ExpandWindows'. -/
def expandWindowsUptoCard : Claim7 := { stood := { row := expandWindowsUptoRow, standIns := [], harness := (true, "5a4a17bb404ba150ece93deaf3ad6b50e317075481677acf0b953cb6d71fc826"), looks := false }, kinds := [], alts := [], laidByText := true, laidKinds := [.data, .data, .data], laidTests := true, laidLooks := .later }
def ExpandWindowsUptoCardSaid : Prop := Claim7.holds Tryd.pinned (.plain (OpenSpec.upto expandWindowsSpec)) expandWindowsUptoCard

/-- THE SECOND FORM's CARD OF 'pilcrowlaw14.ExpandFront'. -/
def expandFrontUptoCard : Claim7 := { stood := { row := expandFrontUptoRow, standIns := [], harness := (true, "5a4a17bb404ba150ece93deaf3ad6b50e317075481677acf0b953cb6d71fc826"), looks := false }, kinds := [], alts := [], laidByText := true, laidKinds := [.data, .data, .data], laidTests := true, laidLooks := .later }
def ExpandFrontUptoCardSaid : Prop := Claim7.holds Tryd.pinned (.plain (OpenSpec.upto expandFrontSpec)) expandFrontUptoCard
end Rows
end Go.Proofs.YtohobpjiikpdmaaDoor
