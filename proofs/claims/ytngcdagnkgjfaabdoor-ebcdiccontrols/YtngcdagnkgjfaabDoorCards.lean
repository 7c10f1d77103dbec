/-
  DERIVED. GIVEN WITH THE SEED: THE CARDS: each row of YtngcdagnkgjfaabDoorRows.lean that lists a variable, with what it lists TIED to the program's text (the seventh form; the later family's looks); each row that meets fmt, with fmt's text TOLD by the authors' own Lean function (tested against real Go, not proved from fmt's source: count such statements apart). THE CARD IS WHAT COUNTS. Prove the row's statement (the work); the ties are given (YtngcdagnkgjfaabDoorTie.lean); close each card by the builder's one call (the guide's Derived/Test/ToyasCard.lean, 'card_holds'). Laid BY PROGRAM, IN A SANDBOX (cutbox-door.mjs). By AI agents, Wed Nov 11 2026. No macro, syntax, notation, axiom, sorry.
-/
import Derived.Test.YtngcdagnkgjfaabDoorRows
import GoSem.ClaimSeven
namespace Go.Proofs.YtngcdagnkgjfaabDoor
namespace Rows

/-- THE TIED CARD OF 'pilcrowlaw08.EbcdicControls'. -/
def ebcdicControlsCard : Claim7 := { stood := { row := ebcdicControlsRow, standIns := [], harness := (true, "e02fc8320f615f7c01229138a2c260b29486e37b69b4191209312502f80657d5"), looks := false }, kinds := [], alts := [], laidByText := true, laidKinds := [.data], laidTests := true, laidLooks := .later }
def EbcdicControlsCardSaid : Prop := Claim7.holds Tryd.pinned (.plain (OpenSpec.ofChange ebcdicControlsSpec)) ebcdicControlsCard

/-- THE SECOND FORM's CARD OF 'pilcrowlaw08.EbcdicControls'. -/
def ebcdicControlsUptoCard : Claim7 := { stood := { row := ebcdicControlsUptoRow, standIns := [], harness := (true, "e02fc8320f615f7c01229138a2c260b29486e37b69b4191209312502f80657d5"), looks := false }, kinds := [], alts := [], laidByText := true, laidKinds := [.data], laidTests := true, laidLooks := .later }
def EbcdicControlsUptoCardSaid : Prop := Claim7.holds Tryd.pinned (.plain (OpenSpec.upto ebcdicControlsSpec)) ebcdicControlsUptoCard
end Rows
end Go.Proofs.YtngcdagnkgjfaabDoor
