/-
  DERIVED. GIVEN WITH THE SEED: THE CARDS: each row of YtmiakknagjncpaaDoorRows.lean that lists a variable, with what it lists TIED to the program's text (the seventh form; the later family's looks); each row that meets fmt, with fmt's text TOLD by the authors' own Lean function (tested against real Go, not proved from fmt's source: count such statements apart). THE CARD IS WHAT COUNTS. Prove the row's statement (the work); the ties are given (YtmiakknagjncpaaDoorTie.lean); close each card by the builder's one call (the guide's Derived/Test/ToyasCard.lean, 'card_holds'). Laid BY PROGRAM, IN A SANDBOX (cutbox-door.mjs). By AI agents, Wed Nov 11 2026. No macro, syntax, notation, axiom, sorry.
-/
import Derived.Test.YtmiakknagjncpaaDoorRows
import GoSem.ClaimSeven
namespace Go.Proofs.YtmiakknagjncpaaDoor
namespace Rows

/-- THE TIED CARD OF 'fuseelaw10.PlanFits'. -/
def planFitsCard : Claim7 := { stood := { row := planFitsRow, standIns := [], harness := (true, "e2967c8accc737f052de60c7dcc3fdcfbb066538de3df8ee43e739871db04ca0"), looks := false }, kinds := [], alts := [], laidByText := true, laidKinds := [.data], laidTests := true, laidLooks := .later }
def PlanFitsCardSaid : Prop := Claim7.holds Tryd.pinned (.plain (OpenSpec.ofChange planFitsSpec)) planFitsCard

/-- THE TIED CARD OF 'fuseelaw10.PlanWhy'. -/
def planWhyCard : Claim7 := { stood := { row := planWhyRow, standIns := [], harness := (true, "e2967c8accc737f052de60c7dcc3fdcfbb066538de3df8ee43e739871db04ca0"), looks := false }, kinds := [], alts := [], laidByText := true, laidKinds := [.data], laidTests := true, laidLooks := .later }
def PlanWhyCardSaid : Prop := Claim7.holds Tryd.pinned (.plain (OpenSpec.ofChange planWhySpec)) planWhyCard

/-- THE TIED CARD OF 'fuseelaw10.PlanLess'. -/
def planLessCard : Claim7 := { stood := { row := planLessRow, standIns := [], harness := (true, "e2967c8accc737f052de60c7dcc3fdcfbb066538de3df8ee43e739871db04ca0"), looks := false }, kinds := [], alts := [], laidByText := true, laidKinds := [.data], laidTests := true, laidLooks := .later }
def PlanLessCardSaid : Prop := Claim7.holds Tryd.pinned (.plain (OpenSpec.ofChange planLessSpec)) planLessCard

/-- THE TIED CARD OF 'fuseelaw10.PlanTurned'. -/
def planTurnedCard : Claim7 := { stood := { row := planTurnedRow, standIns := [], harness := (true, "e2967c8accc737f052de60c7dcc3fdcfbb066538de3df8ee43e739871db04ca0"), looks := false }, kinds := [], alts := [], laidByText := true, laidKinds := [.data], laidTests := true, laidLooks := .later }
def PlanTurnedCardSaid : Prop := Claim7.holds Tryd.pinned (.plain (OpenSpec.ofChange planTurnedSpec)) planTurnedCard

/-- THE TIED CARD OF 'fuseelaw10.PlanAlone'. -/
def planAloneCard : Claim7 := { stood := { row := planAloneRow, standIns := [], harness := (true, "e2967c8accc737f052de60c7dcc3fdcfbb066538de3df8ee43e739871db04ca0"), looks := false }, kinds := [], alts := [], laidByText := true, laidKinds := [.data], laidTests := true, laidLooks := .later }
def PlanAloneCardSaid : Prop := Claim7.holds Tryd.pinned (.plain (OpenSpec.ofChange planAloneSpec)) planAloneCard

/-- THE TIED CARD OF 'fuseelaw10.PlanBound'. -/
def planBoundCard : Claim7 := { stood := { row := planBoundRow, standIns := [], harness := (true, "e2967c8accc737f052de60c7dcc3fdcfbb066538de3df8ee43e739871db04ca0"), looks := false }, kinds := [], alts := [], laidByText := true, laidKinds := [.data], laidTests := true, laidLooks := .later }
def PlanBoundCardSaid : Prop := Claim7.holds Tryd.pinned (.plain (OpenSpec.ofChange planBoundSpec)) planBoundCard

/-- THE SECOND FORM's CARD OF 'fuseelaw10.PlanFits'. -/
def planFitsUptoCard : Claim7 := { stood := { row := planFitsUptoRow, standIns := [], harness := (true, "e2967c8accc737f052de60c7dcc3fdcfbb066538de3df8ee43e739871db04ca0"), looks := false }, kinds := [], alts := [], laidByText := true, laidKinds := [.data], laidTests := true, laidLooks := .later }
def PlanFitsUptoCardSaid : Prop := Claim7.holds Tryd.pinned (.plain (OpenSpec.upto planFitsSpec)) planFitsUptoCard

/-- THE SECOND FORM's CARD OF 'fuseelaw10.PlanWhy'. -/
def planWhyUptoCard : Claim7 := { stood := { row := planWhyUptoRow, standIns := [], harness := (true, "e2967c8accc737f052de60c7dcc3fdcfbb066538de3df8ee43e739871db04ca0"), looks := false }, kinds := [], alts := [], laidByText := true, laidKinds := [.data], laidTests := true, laidLooks := .later }
def PlanWhyUptoCardSaid : Prop := Claim7.holds Tryd.pinned (.plain (OpenSpec.upto planWhySpec)) planWhyUptoCard

/-- THE SECOND FORM's CARD OF 'fuseelaw10.PlanLess'. -/
def planLessUptoCard : Claim7 := { stood := { row := planLessUptoRow, standIns := [], harness := (true, "e2967c8accc737f052de60c7dcc3fdcfbb066538de3df8ee43e739871db04ca0"), looks := false }, kinds := [], alts := [], laidByText := true, laidKinds := [.data], laidTests := true, laidLooks := .later }
def PlanLessUptoCardSaid : Prop := Claim7.holds Tryd.pinned (.plain (OpenSpec.upto planLessSpec)) planLessUptoCard

/-- THE SECOND FORM's CARD OF 'fuseelaw10.PlanTurned'. -/
def planTurnedUptoCard : Claim7 := { stood := { row := planTurnedUptoRow, standIns := [], harness := (true, "e2967c8accc737f052de60c7dcc3fdcfbb066538de3df8ee43e739871db04ca0"), looks := false }, kinds := [], alts := [], laidByText := true, laidKinds := [.data], laidTests := true, laidLooks := .later }
def PlanTurnedUptoCardSaid : Prop := Claim7.holds Tryd.pinned (.plain (OpenSpec.upto planTurnedSpec)) planTurnedUptoCard

/-- THE SECOND FORM's CARD OF 'fuseelaw10.PlanAlone'. -/
def planAloneUptoCard : Claim7 := { stood := { row := planAloneUptoRow, standIns := [], harness := (true, "e2967c8accc737f052de60c7dcc3fdcfbb066538de3df8ee43e739871db04ca0"), looks := false }, kinds := [], alts := [], laidByText := true, laidKinds := [.data], laidTests := true, laidLooks := .later }
def PlanAloneUptoCardSaid : Prop := Claim7.holds Tryd.pinned (.plain (OpenSpec.upto planAloneSpec)) planAloneUptoCard

/-- THE SECOND FORM's CARD OF 'fuseelaw10.PlanBound'. -/
def planBoundUptoCard : Claim7 := { stood := { row := planBoundUptoRow, standIns := [], harness := (true, "e2967c8accc737f052de60c7dcc3fdcfbb066538de3df8ee43e739871db04ca0"), looks := false }, kinds := [], alts := [], laidByText := true, laidKinds := [.data], laidTests := true, laidLooks := .later }
def PlanBoundUptoCardSaid : Prop := Claim7.holds Tryd.pinned (.plain (OpenSpec.upto planBoundSpec)) planBoundUptoCard
end Rows
end Go.Proofs.YtmiakknagjncpaaDoor
