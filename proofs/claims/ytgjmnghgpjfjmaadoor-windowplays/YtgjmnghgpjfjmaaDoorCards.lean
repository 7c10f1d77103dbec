/-
  DERIVED. GIVEN WITH THE SEED: THE CARDS: each row of YtgjmnghgpjfjmaaDoorRows.lean that lists a variable, with what it lists TIED to the program's text (the seventh form; the later family's looks); each row that meets fmt, with fmt's text TOLD by the authors' own Lean function (tested against real Go, not proved from fmt's source: count such statements apart). THE CARD IS WHAT COUNTS. Prove the row's statement (the work); the ties are given (YtgjmnghgpjfjmaaDoorTie.lean); close each card by the builder's one call (the guide's Derived/Test/ToyasCard.lean, 'card_holds'). Laid BY PROGRAM, IN A SANDBOX (cutbox-door.mjs). By AI agents, Wed Nov 11 2026. No macro, syntax, notation, axiom, sorry.
-/
import Derived.Test.YtgjmnghgpjfjmaaDoorRows
import GoSem.ClaimSeven
namespace Go.Proofs.YtgjmnghgpjfjmaaDoor
namespace Rows

/-- THE TIED CARD OF 'pilcrowlaw13.WindowTables'. -/
def windowTablesCard : Claim7 := { stood := { row := windowTablesRow, standIns := [], harness := (true, "8e81b4bba2bf261779090cc879f29f110732626aa79f19f321fca850e5263d90"), looks := false }, kinds := [], alts := [], laidByText := true, laidKinds := [.data, .data], laidTests := true, laidLooks := .later }
def WindowTablesCardSaid : Prop := Claim7.holds Tryd.pinned (.plain (OpenSpec.ofChange windowTablesSpec)) windowTablesCard

/-- THE TIED CARD OF 'pilcrowlaw13.WindowIndexes'. -/
def windowIndexesCard : Claim7 := { stood := { row := windowIndexesRow, standIns := [], harness := (true, "8e81b4bba2bf261779090cc879f29f110732626aa79f19f321fca850e5263d90"), looks := false }, kinds := [], alts := [], laidByText := true, laidKinds := [.data, .data], laidTests := true, laidLooks := .later }
def WindowIndexesCardSaid : Prop := Claim7.holds Tryd.pinned (.plain (OpenSpec.ofChange windowIndexesSpec)) windowIndexesCard

/-- THE TIED CARD OF 'pilcrowlaw13.WindowPairs'. -/
def windowPairsCard : Claim7 := { stood := { row := windowPairsRow, standIns := [], harness := (true, "8e81b4bba2bf261779090cc879f29f110732626aa79f19f321fca850e5263d90"), looks := false }, kinds := [], alts := [], laidByText := true, laidKinds := [.data, .data], laidTests := true, laidLooks := .later }
def WindowPairsCardSaid : Prop := Claim7.holds Tryd.pinned (.plain (OpenSpec.ofChange windowPairsSpec)) windowPairsCard

/-- THE TIED CARD OF 'pilcrowlaw13.WindowPlays'. -/
def windowPlaysCard : Claim7 := { stood := { row := windowPlaysRow, standIns := [], harness := (true, "8e81b4bba2bf261779090cc879f29f110732626aa79f19f321fca850e5263d90"), looks := false }, kinds := [], alts := [], laidByText := true, laidKinds := [.data, .data], laidTests := true, laidLooks := .later }
def WindowPlaysCardSaid : Prop := Claim7.holds Tryd.pinned (.plain (OpenSpec.ofChange windowPlaysSpec)) windowPlaysCard

/-- THE TIED CARD OF 'pilcrowlaw13.WindowOrder'. -/
def windowOrderCard : Claim7 := { stood := { row := windowOrderRow, standIns := [], harness := (true, "8e81b4bba2bf261779090cc879f29f110732626aa79f19f321fca850e5263d90"), looks := false }, kinds := [], alts := [], laidByText := true, laidKinds := [.data, .data], laidTests := true, laidLooks := .later }
def WindowOrderCardSaid : Prop := Claim7.holds Tryd.pinned (.plain (OpenSpec.ofChange windowOrderSpec)) windowOrderCard

/-- THE SECOND FORM's CARD OF 'pilcrowlaw13.WindowTables'. -/
def windowTablesUptoCard : Claim7 := { stood := { row := windowTablesUptoRow, standIns := [], harness := (true, "8e81b4bba2bf261779090cc879f29f110732626aa79f19f321fca850e5263d90"), looks := false }, kinds := [], alts := [], laidByText := true, laidKinds := [.data, .data], laidTests := true, laidLooks := .later }
def WindowTablesUptoCardSaid : Prop := Claim7.holds Tryd.pinned (.plain (OpenSpec.upto windowTablesSpec)) windowTablesUptoCard

/-- THE SECOND FORM's CARD OF 'pilcrowlaw13.WindowIndexes'. -/
def windowIndexesUptoCard : Claim7 := { stood := { row := windowIndexesUptoRow, standIns := [], harness := (true, "8e81b4bba2bf261779090cc879f29f110732626aa79f19f321fca850e5263d90"), looks := false }, kinds := [], alts := [], laidByText := true, laidKinds := [.data, .data], laidTests := true, laidLooks := .later }
def WindowIndexesUptoCardSaid : Prop := Claim7.holds Tryd.pinned (.plain (OpenSpec.upto windowIndexesSpec)) windowIndexesUptoCard

/-- THE SECOND FORM's CARD OF 'pilcrowlaw13.WindowPairs'. -/
def windowPairsUptoCard : Claim7 := { stood := { row := windowPairsUptoRow, standIns := [], harness := (true, "8e81b4bba2bf261779090cc879f29f110732626aa79f19f321fca850e5263d90"), looks := false }, kinds := [], alts := [], laidByText := true, laidKinds := [.data, .data], laidTests := true, laidLooks := .later }
def WindowPairsUptoCardSaid : Prop := Claim7.holds Tryd.pinned (.plain (OpenSpec.upto windowPairsSpec)) windowPairsUptoCard

/-- THE SECOND FORM's CARD OF 'pilcrowlaw13.WindowPlays'. -/
def windowPlaysUptoCard : Claim7 := { stood := { row := windowPlaysUptoRow, standIns := [], harness := (true, "8e81b4bba2bf261779090cc879f29f110732626aa79f19f321fca850e5263d90"), looks := false }, kinds := [], alts := [], laidByText := true, laidKinds := [.data, .data], laidTests := true, laidLooks := .later }
def WindowPlaysUptoCardSaid : Prop := Claim7.holds Tryd.pinned (.plain (OpenSpec.upto windowPlaysSpec)) windowPlaysUptoCard

/-- THE SECOND FORM's CARD OF 'pilcrowlaw13.WindowOrder'. -/
def windowOrderUptoCard : Claim7 := { stood := { row := windowOrderUptoRow, standIns := [], harness := (true, "8e81b4bba2bf261779090cc879f29f110732626aa79f19f321fca850e5263d90"), looks := false }, kinds := [], alts := [], laidByText := true, laidKinds := [.data, .data], laidTests := true, laidLooks := .later }
def WindowOrderUptoCardSaid : Prop := Claim7.holds Tryd.pinned (.plain (OpenSpec.upto windowOrderSpec)) windowOrderUptoCard
end Rows
end Go.Proofs.YtgjmnghgpjfjmaaDoor
