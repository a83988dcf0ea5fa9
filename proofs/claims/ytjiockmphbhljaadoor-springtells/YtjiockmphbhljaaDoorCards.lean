/-
  DERIVED. GIVEN WITH THE SEED: THE CARDS: each row of YtjiockmphbhljaaDoorRows.lean that lists a variable, with what it lists TIED to the program's text (the seventh form; the later family's looks); each row that meets fmt, with fmt's text TOLD by the authors' own Lean function (tested against real Go, not proved from fmt's source: count such statements apart). THE CARD IS WHAT COUNTS. Prove the row's statement (the work); the ties are given (YtjiockmphbhljaaDoorTie.lean); close each card by the builder's one call (the guide's Derived/Test/ToyasCard.lean, 'card_holds'). Laid BY PROGRAM, IN A SANDBOX (cutbox-door.mjs). By AI agents, Wed Nov 11 2026. No macro, syntax, notation, axiom, sorry.
-/
import Derived.Test.YtjiockmphbhljaaDoorRows
import GoSem.ClaimSeven
namespace Go.Proofs.YtjiockmphbhljaaDoor
namespace Rows

/-- THE TIED CARD OF 'fuseelaw07.SpringTells'. -/
def springTellsCard : Claim7 := { stood := { row := springTellsRow, standIns := [], harness := (true, "d258d2060ca5c40cfca21b05986033505781c124c4dacfcf2bf6b5f1d151b150"), looks := false }, kinds := [], alts := [], laidByText := true, laidKinds := [.data], laidTests := true, laidLooks := .later }
def SpringTellsCardSaid : Prop := Claim7.holds Tryd.pinned (.plain (OpenSpec.ofChange springTellsSpec)) springTellsCard

/-- THE TIED CARD OF 'fuseelaw07.SpringFits'. -/
def springFitsCard : Claim7 := { stood := { row := springFitsRow, standIns := [], harness := (true, "d258d2060ca5c40cfca21b05986033505781c124c4dacfcf2bf6b5f1d151b150"), looks := false }, kinds := [], alts := [], laidByText := true, laidKinds := [.data], laidTests := true, laidLooks := .later }
def SpringFitsCardSaid : Prop := Claim7.holds Tryd.pinned (.plain (OpenSpec.ofChange springFitsSpec)) springFitsCard

/-- THE TIED CARD OF 'fuseelaw07.SpringLeast'. -/
def springLeastCard : Claim7 := { stood := { row := springLeastRow, standIns := [], harness := (true, "d258d2060ca5c40cfca21b05986033505781c124c4dacfcf2bf6b5f1d151b150"), looks := false }, kinds := [], alts := [], laidByText := true, laidKinds := [.data], laidTests := true, laidLooks := .later }
def SpringLeastCardSaid : Prop := Claim7.holds Tryd.pinned (.plain (OpenSpec.ofChange springLeastSpec)) springLeastCard

/-- THE TIED CARD OF 'fuseelaw07.SpringMore'. -/
def springMoreCard : Claim7 := { stood := { row := springMoreRow, standIns := [], harness := (true, "d258d2060ca5c40cfca21b05986033505781c124c4dacfcf2bf6b5f1d151b150"), looks := false }, kinds := [], alts := [], laidByText := true, laidKinds := [.data], laidTests := true, laidLooks := .later }
def SpringMoreCardSaid : Prop := Claim7.holds Tryd.pinned (.plain (OpenSpec.ofChange springMoreSpec)) springMoreCard

/-- THE TIED CARD OF 'fuseelaw07.SpringTurned'. -/
def springTurnedCard : Claim7 := { stood := { row := springTurnedRow, standIns := [], harness := (true, "d258d2060ca5c40cfca21b05986033505781c124c4dacfcf2bf6b5f1d151b150"), looks := false }, kinds := [], alts := [], laidByText := true, laidKinds := [.data], laidTests := true, laidLooks := .later }
def SpringTurnedCardSaid : Prop := Claim7.holds Tryd.pinned (.plain (OpenSpec.ofChange springTurnedSpec)) springTurnedCard

/-- THE SECOND FORM's CARD OF 'fuseelaw07.SpringTells'. -/
def springTellsUptoCard : Claim7 := { stood := { row := springTellsUptoRow, standIns := [], harness := (true, "d258d2060ca5c40cfca21b05986033505781c124c4dacfcf2bf6b5f1d151b150"), looks := false }, kinds := [], alts := [], laidByText := true, laidKinds := [.data], laidTests := true, laidLooks := .later }
def SpringTellsUptoCardSaid : Prop := Claim7.holds Tryd.pinned (.plain (OpenSpec.upto springTellsSpec)) springTellsUptoCard

/-- THE SECOND FORM's CARD OF 'fuseelaw07.SpringFits'. -/
def springFitsUptoCard : Claim7 := { stood := { row := springFitsUptoRow, standIns := [], harness := (true, "d258d2060ca5c40cfca21b05986033505781c124c4dacfcf2bf6b5f1d151b150"), looks := false }, kinds := [], alts := [], laidByText := true, laidKinds := [.data], laidTests := true, laidLooks := .later }
def SpringFitsUptoCardSaid : Prop := Claim7.holds Tryd.pinned (.plain (OpenSpec.upto springFitsSpec)) springFitsUptoCard

/-- THE SECOND FORM's CARD OF 'fuseelaw07.SpringLeast'. -/
def springLeastUptoCard : Claim7 := { stood := { row := springLeastUptoRow, standIns := [], harness := (true, "d258d2060ca5c40cfca21b05986033505781c124c4dacfcf2bf6b5f1d151b150"), looks := false }, kinds := [], alts := [], laidByText := true, laidKinds := [.data], laidTests := true, laidLooks := .later }
def SpringLeastUptoCardSaid : Prop := Claim7.holds Tryd.pinned (.plain (OpenSpec.upto springLeastSpec)) springLeastUptoCard

/-- THE SECOND FORM's CARD OF 'fuseelaw07.SpringMore'. -/
def springMoreUptoCard : Claim7 := { stood := { row := springMoreUptoRow, standIns := [], harness := (true, "d258d2060ca5c40cfca21b05986033505781c124c4dacfcf2bf6b5f1d151b150"), looks := false }, kinds := [], alts := [], laidByText := true, laidKinds := [.data], laidTests := true, laidLooks := .later }
def SpringMoreUptoCardSaid : Prop := Claim7.holds Tryd.pinned (.plain (OpenSpec.upto springMoreSpec)) springMoreUptoCard

/-- THE SECOND FORM's CARD OF 'fuseelaw07.SpringTurned'. -/
def springTurnedUptoCard : Claim7 := { stood := { row := springTurnedUptoRow, standIns := [], harness := (true, "d258d2060ca5c40cfca21b05986033505781c124c4dacfcf2bf6b5f1d151b150"), looks := false }, kinds := [], alts := [], laidByText := true, laidKinds := [.data], laidTests := true, laidLooks := .later }
def SpringTurnedUptoCardSaid : Prop := Claim7.holds Tryd.pinned (.plain (OpenSpec.upto springTurnedSpec)) springTurnedUptoCard
end Rows
end Go.Proofs.YtjiockmphbhljaaDoor
