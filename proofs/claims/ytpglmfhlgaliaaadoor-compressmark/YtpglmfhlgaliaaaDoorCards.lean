/-
  DERIVED. GIVEN WITH THE SEED: THE CARDS: each row of YtpglmfhlgaliaaaDoorRows.lean that lists a variable, with what it lists TIED to the program's text (the seventh form; the later family's looks); each row that meets fmt, with fmt's text TOLD by the authors' own Lean function (tested against real Go, not proved from fmt's source: count such statements apart). THE CARD IS WHAT COUNTS. Prove the row's statement (the work); the ties are given (YtpglmfhlgaliaaaDoorTie.lean); close each card by the builder's one call (the guide's Derived/Test/ToyasCard.lean, 'card_holds'). Laid BY PROGRAM, IN A SANDBOX (cutbox-door.mjs). By AI agents, Wed Nov 11 2026. No macro, syntax, notation, axiom, sorry.
-/
import Derived.Test.YtpglmfhlgaliaaaDoorRows
import GoSem.ClaimSeven
namespace Go.Proofs.YtpglmfhlgaliaaaDoor
namespace Rows

/-- THE TIED CARD OF 'pilcrowlaw15.CompressBack'. -/
def compressBackCard : Claim7 := { stood := { row := compressBackRow, standIns := [], harness := (true, "a1c05ef88bde54652032994a73090c0701f16f958cf86c529984a850b14eac96"), looks := false }, kinds := [], alts := [], laidByText := true, laidKinds := [.data, .data], laidTests := true, laidLooks := .later }
def CompressBackCardSaid : Prop := Claim7.holds Tryd.pinned (.plain (OpenSpec.ofChange compressBackSpec)) compressBackCard

/-- THE TIED CARD OF 'pilcrowlaw15.CompressSize'. -/
def compressSizeCard : Claim7 := { stood := { row := compressSizeRow, standIns := [], harness := (true, "a1c05ef88bde54652032994a73090c0701f16f958cf86c529984a850b14eac96"), looks := false }, kinds := [], alts := [], laidByText := true, laidKinds := [.data, .data], laidTests := true, laidLooks := .later }
def CompressSizeCardSaid : Prop := Claim7.holds Tryd.pinned (.plain (OpenSpec.ofChange compressSizeSpec)) compressSizeCard

/-- THE TIED CARD OF 'pilcrowlaw15.CompressLatin'. -/
def compressLatinCard : Claim7 := { stood := { row := compressLatinRow, standIns := [], harness := (true, "a1c05ef88bde54652032994a73090c0701f16f958cf86c529984a850b14eac96"), looks := false }, kinds := [], alts := [], laidByText := true, laidKinds := [.data, .data], laidTests := true, laidLooks := .later }
def CompressLatinCardSaid : Prop := Claim7.holds Tryd.pinned (.plain (OpenSpec.ofChange compressLatinSpec)) compressLatinCard

/-- THE TIED CARD OF 'pilcrowlaw15.CompressMark'. -/
def compressMarkCard : Claim7 := { stood := { row := compressMarkRow, standIns := [], harness := (true, "a1c05ef88bde54652032994a73090c0701f16f958cf86c529984a850b14eac96"), looks := false }, kinds := [], alts := [], laidByText := true, laidKinds := [.data, .data], laidTests := true, laidLooks := .later }
def CompressMarkCardSaid : Prop := Claim7.holds Tryd.pinned (.plain (OpenSpec.ofChange compressMarkSpec)) compressMarkCard

/-- THE TIED CARD OF 'pilcrowlaw15.CompressPlain'. -/
def compressPlainCard : Claim7 := { stood := { row := compressPlainRow, standIns := [], harness := (true, "a1c05ef88bde54652032994a73090c0701f16f958cf86c529984a850b14eac96"), looks := false }, kinds := [], alts := [], laidByText := true, laidKinds := [.data, .data], laidTests := true, laidLooks := .later }
def CompressPlainCardSaid : Prop := Claim7.holds Tryd.pinned (.plain (OpenSpec.ofChange compressPlainSpec)) compressPlainCard

/-- THE SECOND FORM's CARD OF 'pilcrowlaw15.CompressBack'. -/
def compressBackUptoCard : Claim7 := { stood := { row := compressBackUptoRow, standIns := [], harness := (true, "a1c05ef88bde54652032994a73090c0701f16f958cf86c529984a850b14eac96"), looks := false }, kinds := [], alts := [], laidByText := true, laidKinds := [.data, .data], laidTests := true, laidLooks := .later }
def CompressBackUptoCardSaid : Prop := Claim7.holds Tryd.pinned (.plain (OpenSpec.upto compressBackSpec)) compressBackUptoCard

/-- THE SECOND FORM's CARD OF 'pilcrowlaw15.CompressSize'. -/
def compressSizeUptoCard : Claim7 := { stood := { row := compressSizeUptoRow, standIns := [], harness := (true, "a1c05ef88bde54652032994a73090c0701f16f958cf86c529984a850b14eac96"), looks := false }, kinds := [], alts := [], laidByText := true, laidKinds := [.data, .data], laidTests := true, laidLooks := .later }
def CompressSizeUptoCardSaid : Prop := Claim7.holds Tryd.pinned (.plain (OpenSpec.upto compressSizeSpec)) compressSizeUptoCard

/-- THE SECOND FORM's CARD OF 'pilcrowlaw15.CompressLatin'. -/
def compressLatinUptoCard : Claim7 := { stood := { row := compressLatinUptoRow, standIns := [], harness := (true, "a1c05ef88bde54652032994a73090c0701f16f958cf86c529984a850b14eac96"), looks := false }, kinds := [], alts := [], laidByText := true, laidKinds := [.data, .data], laidTests := true, laidLooks := .later }
def CompressLatinUptoCardSaid : Prop := Claim7.holds Tryd.pinned (.plain (OpenSpec.upto compressLatinSpec)) compressLatinUptoCard

/-- THE SECOND FORM's CARD OF 'pilcrowlaw15.CompressMark'. -/
def compressMarkUptoCard : Claim7 := { stood := { row := compressMarkUptoRow, standIns := [], harness := (true, "a1c05ef88bde54652032994a73090c0701f16f958cf86c529984a850b14eac96"), looks := false }, kinds := [], alts := [], laidByText := true, laidKinds := [.data, .data], laidTests := true, laidLooks := .later }
def CompressMarkUptoCardSaid : Prop := Claim7.holds Tryd.pinned (.plain (OpenSpec.upto compressMarkSpec)) compressMarkUptoCard

/-- THE SECOND FORM's CARD OF 'pilcrowlaw15.CompressPlain'. -/
def compressPlainUptoCard : Claim7 := { stood := { row := compressPlainUptoRow, standIns := [], harness := (true, "a1c05ef88bde54652032994a73090c0701f16f958cf86c529984a850b14eac96"), looks := false }, kinds := [], alts := [], laidByText := true, laidKinds := [.data, .data], laidTests := true, laidLooks := .later }
def CompressPlainUptoCardSaid : Prop := Claim7.holds Tryd.pinned (.plain (OpenSpec.upto compressPlainSpec)) compressPlainUptoCard
end Rows
end Go.Proofs.YtpglmfhlgaliaaaDoor
