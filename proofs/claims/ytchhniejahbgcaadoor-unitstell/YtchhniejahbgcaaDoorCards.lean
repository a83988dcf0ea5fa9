/-
  DERIVED. GIVEN WITH THE SEED: THE CARDS: each row of YtchhniejahbgcaaDoorRows.lean that lists a variable, with what it lists TIED to the program's text (the seventh form; the later family's looks); each row that meets fmt, with fmt's text TOLD by the authors' own Lean function (tested against real Go, not proved from fmt's source: count such statements apart). THE CARD IS WHAT COUNTS. Prove the row's statement (the work); the ties are given (YtchhniejahbgcaaDoorTie.lean); close each card by the builder's one call (the guide's Derived/Test/ToyasCard.lean, 'card_holds'). Laid BY PROGRAM, IN A SANDBOX (cutbox-door.mjs). By AI agents, Wed Nov 11 2026. No macro, syntax, notation, axiom, sorry.
-/
import Derived.Test.YtchhniejahbgcaaDoorRows
import GoSem.ClaimSeven
namespace Go.Proofs.YtchhniejahbgcaaDoor
namespace Rows

/-- THE TIED CARD OF 'fuseelaw06.UnitsTell'. -/
def unitsTellCard : Claim7 := { stood := { row := unitsTellRow, standIns := [], harness := (true, "c5d9d4acdc5f0904656345ef671e9466630bedf848a2a5f48af666a847d7dbc9"), looks := false }, kinds := [], alts := [], laidByText := true, laidKinds := [.data], laidTests := true, laidLooks := .later }
def UnitsTellCardSaid : Prop := Claim7.holds Tryd.pinned (.plain (OpenSpec.ofChange unitsTellSpec)) unitsTellCard

/-- THE TIED CARD OF 'fuseelaw06.UnitsFall'. -/
def unitsFallCard : Claim7 := { stood := { row := unitsFallRow, standIns := [], harness := (true, "c5d9d4acdc5f0904656345ef671e9466630bedf848a2a5f48af666a847d7dbc9"), looks := false }, kinds := [], alts := [], laidByText := true, laidKinds := [.data], laidTests := true, laidLooks := .later }
def UnitsFallCardSaid : Prop := Claim7.holds Tryd.pinned (.plain (OpenSpec.ofChange unitsFallSpec)) unitsFallCard

/-- THE TIED CARD OF 'fuseelaw06.UnitsParts'. -/
def unitsPartsCard : Claim7 := { stood := { row := unitsPartsRow, standIns := [], harness := (true, "c5d9d4acdc5f0904656345ef671e9466630bedf848a2a5f48af666a847d7dbc9"), looks := false }, kinds := [], alts := [], laidByText := true, laidKinds := [.data], laidTests := true, laidLooks := .later }
def UnitsPartsCardSaid : Prop := Claim7.holds Tryd.pinned (.plain (OpenSpec.ofChange unitsPartsSpec)) unitsPartsCard

/-- THE TIED CARD OF 'fuseelaw06.UnitsParted'. -/
def unitsPartedCard : Claim7 := { stood := { row := unitsPartedRow, standIns := [], harness := (true, "c5d9d4acdc5f0904656345ef671e9466630bedf848a2a5f48af666a847d7dbc9"), looks := false }, kinds := [], alts := [], laidByText := true, laidKinds := [.data], laidTests := true, laidLooks := .later }
def UnitsPartedCardSaid : Prop := Claim7.holds Tryd.pinned (.plain (OpenSpec.ofChange unitsPartedSpec)) unitsPartedCard

/-- THE TIED CARD OF 'fuseelaw06.UnitsOrder'. -/
def unitsOrderCard : Claim7 := { stood := { row := unitsOrderRow, standIns := [], harness := (true, "c5d9d4acdc5f0904656345ef671e9466630bedf848a2a5f48af666a847d7dbc9"), looks := false }, kinds := [], alts := [], laidByText := true, laidKinds := [.data], laidTests := true, laidLooks := .later }
def UnitsOrderCardSaid : Prop := Claim7.holds Tryd.pinned (.plain (OpenSpec.ofChange unitsOrderSpec)) unitsOrderCard

/-- THE SECOND FORM's CARD OF 'fuseelaw06.UnitsTell'. -/
def unitsTellUptoCard : Claim7 := { stood := { row := unitsTellUptoRow, standIns := [], harness := (true, "c5d9d4acdc5f0904656345ef671e9466630bedf848a2a5f48af666a847d7dbc9"), looks := false }, kinds := [], alts := [], laidByText := true, laidKinds := [.data], laidTests := true, laidLooks := .later }
def UnitsTellUptoCardSaid : Prop := Claim7.holds Tryd.pinned (.plain (OpenSpec.upto unitsTellSpec)) unitsTellUptoCard

/-- THE SECOND FORM's CARD OF 'fuseelaw06.UnitsFall'. -/
def unitsFallUptoCard : Claim7 := { stood := { row := unitsFallUptoRow, standIns := [], harness := (true, "c5d9d4acdc5f0904656345ef671e9466630bedf848a2a5f48af666a847d7dbc9"), looks := false }, kinds := [], alts := [], laidByText := true, laidKinds := [.data], laidTests := true, laidLooks := .later }
def UnitsFallUptoCardSaid : Prop := Claim7.holds Tryd.pinned (.plain (OpenSpec.upto unitsFallSpec)) unitsFallUptoCard

/-- THE SECOND FORM's CARD OF 'fuseelaw06.UnitsParts'. -/
def unitsPartsUptoCard : Claim7 := { stood := { row := unitsPartsUptoRow, standIns := [], harness := (true, "c5d9d4acdc5f0904656345ef671e9466630bedf848a2a5f48af666a847d7dbc9"), looks := false }, kinds := [], alts := [], laidByText := true, laidKinds := [.data], laidTests := true, laidLooks := .later }
def UnitsPartsUptoCardSaid : Prop := Claim7.holds Tryd.pinned (.plain (OpenSpec.upto unitsPartsSpec)) unitsPartsUptoCard

/-- THE SECOND FORM's CARD OF 'fuseelaw06.UnitsParted'. -/
def unitsPartedUptoCard : Claim7 := { stood := { row := unitsPartedUptoRow, standIns := [], harness := (true, "c5d9d4acdc5f0904656345ef671e9466630bedf848a2a5f48af666a847d7dbc9"), looks := false }, kinds := [], alts := [], laidByText := true, laidKinds := [.data], laidTests := true, laidLooks := .later }
def UnitsPartedUptoCardSaid : Prop := Claim7.holds Tryd.pinned (.plain (OpenSpec.upto unitsPartedSpec)) unitsPartedUptoCard

/-- THE SECOND FORM's CARD OF 'fuseelaw06.UnitsOrder'. -/
def unitsOrderUptoCard : Claim7 := { stood := { row := unitsOrderUptoRow, standIns := [], harness := (true, "c5d9d4acdc5f0904656345ef671e9466630bedf848a2a5f48af666a847d7dbc9"), looks := false }, kinds := [], alts := [], laidByText := true, laidKinds := [.data], laidTests := true, laidLooks := .later }
def UnitsOrderUptoCardSaid : Prop := Claim7.holds Tryd.pinned (.plain (OpenSpec.upto unitsOrderSpec)) unitsOrderUptoCard
end Rows
end Go.Proofs.YtchhniejahbgcaaDoor
