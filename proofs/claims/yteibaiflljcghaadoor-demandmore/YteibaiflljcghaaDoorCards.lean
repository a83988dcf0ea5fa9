/-
  DERIVED. GIVEN WITH THE SEED: THE CARDS: each row of YteibaiflljcghaaDoorRows.lean that lists a variable, with what it lists TIED to the program's text (the seventh form; the later family's looks); each row that meets fmt, with fmt's text TOLD by the authors' own Lean function (tested against real Go, not proved from fmt's source: count such statements apart). THE CARD IS WHAT COUNTS. Prove the row's statement (the work); the ties are given (YteibaiflljcghaaDoorTie.lean); close each card by the builder's one call (the guide's Derived/Test/ToyasCard.lean, 'card_holds'). Laid BY PROGRAM, IN A SANDBOX (cutbox-door.mjs). By AI agents, Wed Nov 11 2026. No macro, syntax, notation, axiom, sorry.
-/
import Derived.Test.YteibaiflljcghaaDoorRows
import GoSem.ClaimSeven
namespace Go.Proofs.YteibaiflljcghaaDoor
namespace Rows

/-- THE TIED CARD OF 'fuseelaw09.DemandTells'. -/
def demandTellsCard : Claim7 := { stood := { row := demandTellsRow, standIns := [], harness := (true, "7f7e9d49ab91bf382ace9ba7073d30e4d167bfe19dc0a4691d71b4a47e4a8fd9"), looks := false }, kinds := [], alts := [], laidByText := true, laidKinds := [.data], laidTests := true, laidLooks := .later }
def DemandTellsCardSaid : Prop := Claim7.holds Tryd.pinned (.plain (OpenSpec.ofChange demandTellsSpec)) demandTellsCard

/-- THE TIED CARD OF 'fuseelaw09.DemandAll'. -/
def demandAllCard : Claim7 := { stood := { row := demandAllRow, standIns := [], harness := (true, "7f7e9d49ab91bf382ace9ba7073d30e4d167bfe19dc0a4691d71b4a47e4a8fd9"), looks := false }, kinds := [], alts := [], laidByText := true, laidKinds := [.data], laidTests := true, laidLooks := .later }
def DemandAllCardSaid : Prop := Claim7.holds Tryd.pinned (.plain (OpenSpec.ofChange demandAllSpec)) demandAllCard

/-- THE TIED CARD OF 'fuseelaw09.DemandWindow'. -/
def demandWindowCard : Claim7 := { stood := { row := demandWindowRow, standIns := [], harness := (true, "7f7e9d49ab91bf382ace9ba7073d30e4d167bfe19dc0a4691d71b4a47e4a8fd9"), looks := false }, kinds := [], alts := [], laidByText := true, laidKinds := [.data], laidTests := true, laidLooks := .later }
def DemandWindowCardSaid : Prop := Claim7.holds Tryd.pinned (.plain (OpenSpec.ofChange demandWindowSpec)) demandWindowCard

/-- THE TIED CARD OF 'fuseelaw09.DemandMore'. -/
def demandMoreCard : Claim7 := { stood := { row := demandMoreRow, standIns := [], harness := (true, "7f7e9d49ab91bf382ace9ba7073d30e4d167bfe19dc0a4691d71b4a47e4a8fd9"), looks := false }, kinds := [], alts := [], laidByText := true, laidKinds := [.data], laidTests := true, laidLooks := .later }
def DemandMoreCardSaid : Prop := Claim7.holds Tryd.pinned (.plain (OpenSpec.ofChange demandMoreSpec)) demandMoreCard

/-- THE TIED CARD OF 'fuseelaw09.DemandSteps'. -/
def demandStepsCard : Claim7 := { stood := { row := demandStepsRow, standIns := [], harness := (true, "7f7e9d49ab91bf382ace9ba7073d30e4d167bfe19dc0a4691d71b4a47e4a8fd9"), looks := false }, kinds := [], alts := [], laidByText := true, laidKinds := [.data], laidTests := true, laidLooks := .later }
def DemandStepsCardSaid : Prop := Claim7.holds Tryd.pinned (.plain (OpenSpec.ofChange demandStepsSpec)) demandStepsCard

/-- THE TIED CARD OF 'fuseelaw09.DemandLess'. -/
def demandLessCard : Claim7 := { stood := { row := demandLessRow, standIns := [], harness := (true, "7f7e9d49ab91bf382ace9ba7073d30e4d167bfe19dc0a4691d71b4a47e4a8fd9"), looks := false }, kinds := [], alts := [], laidByText := true, laidKinds := [.data], laidTests := true, laidLooks := .later }
def DemandLessCardSaid : Prop := Claim7.holds Tryd.pinned (.plain (OpenSpec.ofChange demandLessSpec)) demandLessCard

/-- THE TIED CARD OF 'fuseelaw09.DemandBoth'. -/
def demandBothCard : Claim7 := { stood := { row := demandBothRow, standIns := [], harness := (true, "7f7e9d49ab91bf382ace9ba7073d30e4d167bfe19dc0a4691d71b4a47e4a8fd9"), looks := false }, kinds := [], alts := [], laidByText := true, laidKinds := [.data], laidTests := true, laidLooks := .later }
def DemandBothCardSaid : Prop := Claim7.holds Tryd.pinned (.plain (OpenSpec.ofChange demandBothSpec)) demandBothCard

/-- THE SECOND FORM's CARD OF 'fuseelaw09.DemandTells'. -/
def demandTellsUptoCard : Claim7 := { stood := { row := demandTellsUptoRow, standIns := [], harness := (true, "7f7e9d49ab91bf382ace9ba7073d30e4d167bfe19dc0a4691d71b4a47e4a8fd9"), looks := false }, kinds := [], alts := [], laidByText := true, laidKinds := [.data], laidTests := true, laidLooks := .later }
def DemandTellsUptoCardSaid : Prop := Claim7.holds Tryd.pinned (.plain (OpenSpec.upto demandTellsSpec)) demandTellsUptoCard

/-- THE SECOND FORM's CARD OF 'fuseelaw09.DemandAll'. -/
def demandAllUptoCard : Claim7 := { stood := { row := demandAllUptoRow, standIns := [], harness := (true, "7f7e9d49ab91bf382ace9ba7073d30e4d167bfe19dc0a4691d71b4a47e4a8fd9"), looks := false }, kinds := [], alts := [], laidByText := true, laidKinds := [.data], laidTests := true, laidLooks := .later }
def DemandAllUptoCardSaid : Prop := Claim7.holds Tryd.pinned (.plain (OpenSpec.upto demandAllSpec)) demandAllUptoCard

/-- THE SECOND FORM's CARD OF 'fuseelaw09.DemandWindow'. -/
def demandWindowUptoCard : Claim7 := { stood := { row := demandWindowUptoRow, standIns := [], harness := (true, "7f7e9d49ab91bf382ace9ba7073d30e4d167bfe19dc0a4691d71b4a47e4a8fd9"), looks := false }, kinds := [], alts := [], laidByText := true, laidKinds := [.data], laidTests := true, laidLooks := .later }
def DemandWindowUptoCardSaid : Prop := Claim7.holds Tryd.pinned (.plain (OpenSpec.upto demandWindowSpec)) demandWindowUptoCard

/-- THE SECOND FORM's CARD OF 'fuseelaw09.DemandMore'. -/
def demandMoreUptoCard : Claim7 := { stood := { row := demandMoreUptoRow, standIns := [], harness := (true, "7f7e9d49ab91bf382ace9ba7073d30e4d167bfe19dc0a4691d71b4a47e4a8fd9"), looks := false }, kinds := [], alts := [], laidByText := true, laidKinds := [.data], laidTests := true, laidLooks := .later }
def DemandMoreUptoCardSaid : Prop := Claim7.holds Tryd.pinned (.plain (OpenSpec.upto demandMoreSpec)) demandMoreUptoCard

/-- THE SECOND FORM's CARD OF 'fuseelaw09.DemandSteps'. -/
def demandStepsUptoCard : Claim7 := { stood := { row := demandStepsUptoRow, standIns := [], harness := (true, "7f7e9d49ab91bf382ace9ba7073d30e4d167bfe19dc0a4691d71b4a47e4a8fd9"), looks := false }, kinds := [], alts := [], laidByText := true, laidKinds := [.data], laidTests := true, laidLooks := .later }
def DemandStepsUptoCardSaid : Prop := Claim7.holds Tryd.pinned (.plain (OpenSpec.upto demandStepsSpec)) demandStepsUptoCard

/-- THE SECOND FORM's CARD OF 'fuseelaw09.DemandLess'. -/
def demandLessUptoCard : Claim7 := { stood := { row := demandLessUptoRow, standIns := [], harness := (true, "7f7e9d49ab91bf382ace9ba7073d30e4d167bfe19dc0a4691d71b4a47e4a8fd9"), looks := false }, kinds := [], alts := [], laidByText := true, laidKinds := [.data], laidTests := true, laidLooks := .later }
def DemandLessUptoCardSaid : Prop := Claim7.holds Tryd.pinned (.plain (OpenSpec.upto demandLessSpec)) demandLessUptoCard

/-- THE SECOND FORM's CARD OF 'fuseelaw09.DemandBoth'. -/
def demandBothUptoCard : Claim7 := { stood := { row := demandBothUptoRow, standIns := [], harness := (true, "7f7e9d49ab91bf382ace9ba7073d30e4d167bfe19dc0a4691d71b4a47e4a8fd9"), looks := false }, kinds := [], alts := [], laidByText := true, laidKinds := [.data], laidTests := true, laidLooks := .later }
def DemandBothUptoCardSaid : Prop := Claim7.holds Tryd.pinned (.plain (OpenSpec.upto demandBothSpec)) demandBothUptoCard
end Rows
end Go.Proofs.YteibaiflljcghaaDoor
