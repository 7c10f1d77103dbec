/-
  DERIVED. GIVEN WITH THE SEED: THE CARDS: each row of YtdhhkanmfjejoaaDoorRows.lean that lists a variable, with what it lists TIED to the program's text (the seventh form; the later family's looks); each row that meets fmt, with fmt's text TOLD by the authors' own Lean function (tested against real Go, not proved from fmt's source: count such statements apart). THE CARD IS WHAT COUNTS. Prove the row's statement (the work); the ties are given (YtdhhkanmfjejoaaDoorTie.lean); close each card by the builder's one call (the guide's Derived/Test/ToyasCard.lean, 'card_holds'). Laid BY PROGRAM, IN A SANDBOX (cutbox-door.mjs). By AI agents, Wed Nov 11 2026. No macro, syntax, notation, axiom, sorry.
-/
import Derived.Test.YtdhhkanmfjejoaaDoorRows
import GoSem.ClaimSeven
namespace Go.Proofs.YtdhhkanmfjejoaaDoor
namespace Rows

/-- THE TIED CARD OF 'pilcrowlaw11.DiffPacks'. -/
def diffPacksCard : Claim7 := { stood := { row := diffPacksRow, standIns := [], harness := (true, "93d8d5eb80352397afef6c0cb37feee32e89a26d62293e1ea1ef7bf342577d98"), looks := false }, kinds := [], alts := [], laidByText := true, laidKinds := [.data, .data], laidTests := true, laidLooks := .later }
def DiffPacksCardSaid : Prop := Claim7.holds Tryd.pinned (.plain (OpenSpec.ofChange diffPacksSpec)) diffPacksCard

/-- THE TIED CARD OF 'pilcrowlaw11.DiffRanges'. -/
def diffRangesCard : Claim7 := { stood := { row := diffRangesRow, standIns := [], harness := (true, "93d8d5eb80352397afef6c0cb37feee32e89a26d62293e1ea1ef7bf342577d98"), looks := false }, kinds := [], alts := [], laidByText := true, laidKinds := [.data, .data], laidTests := true, laidLooks := .later }
def DiffRangesCardSaid : Prop := Claim7.holds Tryd.pinned (.plain (OpenSpec.ofChange diffRangesSpec)) diffRangesCard

/-- THE TIED CARD OF 'pilcrowlaw11.DiffTrails'. -/
def diffTrailsCard : Claim7 := { stood := { row := diffTrailsRow, standIns := [], harness := (true, "93d8d5eb80352397afef6c0cb37feee32e89a26d62293e1ea1ef7bf342577d98"), looks := false }, kinds := [], alts := [], laidByText := true, laidKinds := [.data, .data], laidTests := true, laidLooks := .later }
def DiffTrailsCardSaid : Prop := Claim7.holds Tryd.pinned (.plain (OpenSpec.ofChange diffTrailsSpec)) diffTrailsCard

/-- THE TIED CARD OF 'pilcrowlaw11.DiffPrev'. -/
def diffPrevCard : Claim7 := { stood := { row := diffPrevRow, standIns := [], harness := (true, "93d8d5eb80352397afef6c0cb37feee32e89a26d62293e1ea1ef7bf342577d98"), looks := false }, kinds := [], alts := [], laidByText := true, laidKinds := [.data, .data], laidTests := true, laidLooks := .later }
def DiffPrevCardSaid : Prop := Claim7.holds Tryd.pinned (.plain (OpenSpec.ofChange diffPrevSpec)) diffPrevCard

/-- THE TIED CARD OF 'pilcrowlaw11.DiffBack'. -/
def diffBackCard : Claim7 := { stood := { row := diffBackRow, standIns := [], harness := (true, "93d8d5eb80352397afef6c0cb37feee32e89a26d62293e1ea1ef7bf342577d98"), looks := false }, kinds := [], alts := [], laidByText := true, laidKinds := [.data, .data], laidTests := true, laidLooks := .later }
def DiffBackCardSaid : Prop := Claim7.holds Tryd.pinned (.plain (OpenSpec.ofChange diffBackSpec)) diffBackCard

/-- THE TIED CARD OF 'pilcrowlaw11.DiffOrder'. -/
def diffOrderCard : Claim7 := { stood := { row := diffOrderRow, standIns := [], harness := (true, "93d8d5eb80352397afef6c0cb37feee32e89a26d62293e1ea1ef7bf342577d98"), looks := false }, kinds := [], alts := [], laidByText := true, laidKinds := [.data, .data], laidTests := true, laidLooks := .later }
def DiffOrderCardSaid : Prop := Claim7.holds Tryd.pinned (.plain (OpenSpec.ofChange diffOrderSpec)) diffOrderCard

/-- THE SECOND FORM's CARD OF 'pilcrowlaw11.DiffPacks'. -/
def diffPacksUptoCard : Claim7 := { stood := { row := diffPacksUptoRow, standIns := [], harness := (true, "93d8d5eb80352397afef6c0cb37feee32e89a26d62293e1ea1ef7bf342577d98"), looks := false }, kinds := [], alts := [], laidByText := true, laidKinds := [.data, .data], laidTests := true, laidLooks := .later }
def DiffPacksUptoCardSaid : Prop := Claim7.holds Tryd.pinned (.plain (OpenSpec.upto diffPacksSpec)) diffPacksUptoCard

/-- THE SECOND FORM's CARD OF 'pilcrowlaw11.DiffRanges'. -/
def diffRangesUptoCard : Claim7 := { stood := { row := diffRangesUptoRow, standIns := [], harness := (true, "93d8d5eb80352397afef6c0cb37feee32e89a26d62293e1ea1ef7bf342577d98"), looks := false }, kinds := [], alts := [], laidByText := true, laidKinds := [.data, .data], laidTests := true, laidLooks := .later }
def DiffRangesUptoCardSaid : Prop := Claim7.holds Tryd.pinned (.plain (OpenSpec.upto diffRangesSpec)) diffRangesUptoCard

/-- THE SECOND FORM's CARD OF 'pilcrowlaw11.DiffTrails'. -/
def diffTrailsUptoCard : Claim7 := { stood := { row := diffTrailsUptoRow, standIns := [], harness := (true, "93d8d5eb80352397afef6c0cb37feee32e89a26d62293e1ea1ef7bf342577d98"), looks := false }, kinds := [], alts := [], laidByText := true, laidKinds := [.data, .data], laidTests := true, laidLooks := .later }
def DiffTrailsUptoCardSaid : Prop := Claim7.holds Tryd.pinned (.plain (OpenSpec.upto diffTrailsSpec)) diffTrailsUptoCard

/-- THE SECOND FORM's CARD OF 'pilcrowlaw11.DiffPrev'. -/
def diffPrevUptoCard : Claim7 := { stood := { row := diffPrevUptoRow, standIns := [], harness := (true, "93d8d5eb80352397afef6c0cb37feee32e89a26d62293e1ea1ef7bf342577d98"), looks := false }, kinds := [], alts := [], laidByText := true, laidKinds := [.data, .data], laidTests := true, laidLooks := .later }
def DiffPrevUptoCardSaid : Prop := Claim7.holds Tryd.pinned (.plain (OpenSpec.upto diffPrevSpec)) diffPrevUptoCard

/-- THE SECOND FORM's CARD OF 'pilcrowlaw11.DiffBack'. -/
def diffBackUptoCard : Claim7 := { stood := { row := diffBackUptoRow, standIns := [], harness := (true, "93d8d5eb80352397afef6c0cb37feee32e89a26d62293e1ea1ef7bf342577d98"), looks := false }, kinds := [], alts := [], laidByText := true, laidKinds := [.data, .data], laidTests := true, laidLooks := .later }
def DiffBackUptoCardSaid : Prop := Claim7.holds Tryd.pinned (.plain (OpenSpec.upto diffBackSpec)) diffBackUptoCard

/-- THE SECOND FORM's CARD OF 'pilcrowlaw11.DiffOrder'. -/
def diffOrderUptoCard : Claim7 := { stood := { row := diffOrderUptoRow, standIns := [], harness := (true, "93d8d5eb80352397afef6c0cb37feee32e89a26d62293e1ea1ef7bf342577d98"), looks := false }, kinds := [], alts := [], laidByText := true, laidKinds := [.data, .data], laidTests := true, laidLooks := .later }
def DiffOrderUptoCardSaid : Prop := Claim7.holds Tryd.pinned (.plain (OpenSpec.upto diffOrderSpec)) diffOrderUptoCard
end Rows
end Go.Proofs.YtdhhkanmfjejoaaDoor
