/-
  NARROWER THAN 'FOR EVERY INPUT', by the rows' own cells (each row's printed sentence says how): UnitsTell: laid · UnitsFall: laid · UnitsParts: laid · UnitsParted: laid · UnitsOrder: laid.
  DERIVED. THE GIVEN ROWS OF THIS SEAT. 5 by the template 'for every input the law returns true; each argument reads behind the call as it read before'; 0 by the template 'total and deterministic' (their statements: YtchhniejahbgcaaDoorTotals.lean).
  GIVEN WITH THE SEED: the statements are not yours to turn. If you find one false, say at which input.
  Laid BY PROGRAM, IN A SANDBOX (cutbox-rows.mjs): the forced cells as the released guide's own fill.sh prints them over the translation ab1f17206b2b4448… (all of the seat's roots in one cut). By AI agents, Wed Nov 11 2026. No macro, syntax, notation, axiom, sorry.
-/
import Derived.Test.YtchhniejahbgcaaDoorChecked
import GoSem.Claim
import GoSem.ClaimJoined
import GoSem.ClaimMapViews
import Derived.JoinedTies
import Derived.KernelRfl
namespace Go.Proofs.YtchhniejahbgcaaDoor
/- THE CELL 'sum', in the pinned program and in every row, IS THE sha256 OF THE DUMP (.gsa) THAT YtchhniejahbgcaaDoorProg.lean LOADS. Nothing in Lean hashes anything: it is a label: what it is worth is what the hold of that sum in a sandbox is worth. -/
noncomputable def Tryd.pinned : Pinned := { name := "ytchhniejahbgcaadoor", sum := "ab1f17206b2b444860f3707802fbde2d9d6c1f8f150ebff91a072daf5ae3da40", checked := Tryd.checked }
namespace Rows
def none {H : Type} : Left H := { results := [], args := [] }

/- WHAT THE LISTED PACKAGE-LEVEL VARIABLES READ AS WHEN THE CALL BEGINS. Each datum BY PROGRAM (the guide's laid-datum.mjs) off the statement by which the dump's own 'gosem.cut.vars' lays the variable. In a bare row this is a premise. The card (YtchhniejahbgcaaDoorCards.lean) ties it to the program's text. -/
def laid_fusee_units_limits {H : Type} : DataW H := .agg [.lit (.int .i64 1099511627776), .lit (.int .i64 1000), .lit (.int .i64 983040)]

/-- 'fuseelaw06.UnitsTell': WHATEVER THE INPUT: true; the input reads as it did. -/
def unitsTellSpec : ChangeSpec := { name := "unitsTell", fn := fun _ => fun
  | [d1, d2, d3] => { results := [.lit (.bool true)], args := [d1, d2, d3] }
  | _ => none }
def unitsTellRow : OpenClaim := { program := "ytchhniejahbgcaadoor", sum := "ab1f17206b2b444860f3707802fbde2d9d6c1f8f150ebff91a072daf5ae3da40", func := "fusee/fuseelaw06.UnitsTell", spec := "unitsTell", unfollowed := true, recurses := true, named := ["fusee/units.limits"], apart := false, laid := [("fusee/units.limits", laid_fusee_units_limits)] }
def UnitsTellSaid : Prop := unitsTellRow.holds Tryd.pinned (OpenSpec.ofChange unitsTellSpec)

/-- ITS FALSE NEIGHBOUR: 'it returns false'. Refute it at one input. -/
def unitsTellWrong : ChangeSpec := { name := "unitsTell", fn := fun _ => fun
  | [d1, d2, d3] => { results := [.lit (.bool false)], args := [d1, d2, d3] }
  | _ => none }
def UnitsTellWrongFalsely : Prop := unitsTellRow.holds Tryd.pinned (OpenSpec.ofChange unitsTellWrong)

/-- 'fuseelaw06.UnitsFall': WHATEVER THE INPUT: true; the input reads as it did. -/
def unitsFallSpec : ChangeSpec := { name := "unitsFall", fn := fun _ => fun
  | [d1, d2, d3] => { results := [.lit (.bool true)], args := [d1, d2, d3] }
  | _ => none }
def unitsFallRow : OpenClaim := { program := "ytchhniejahbgcaadoor", sum := "ab1f17206b2b444860f3707802fbde2d9d6c1f8f150ebff91a072daf5ae3da40", func := "fusee/fuseelaw06.UnitsFall", spec := "unitsFall", unfollowed := true, recurses := true, named := ["fusee/units.limits"], apart := false, laid := [("fusee/units.limits", laid_fusee_units_limits)] }
def UnitsFallSaid : Prop := unitsFallRow.holds Tryd.pinned (OpenSpec.ofChange unitsFallSpec)

/-- ITS FALSE NEIGHBOUR: 'it returns false'. Refute it at one input. -/
def unitsFallWrong : ChangeSpec := { name := "unitsFall", fn := fun _ => fun
  | [d1, d2, d3] => { results := [.lit (.bool false)], args := [d1, d2, d3] }
  | _ => none }
def UnitsFallWrongFalsely : Prop := unitsFallRow.holds Tryd.pinned (OpenSpec.ofChange unitsFallWrong)

/-- 'fuseelaw06.UnitsParts': WHATEVER THE INPUT: true; the input reads as it did. -/
def unitsPartsSpec : ChangeSpec := { name := "unitsParts", fn := fun _ => fun
  | [d1, d2] => { results := [.lit (.bool true)], args := [d1, d2] }
  | _ => none }
def unitsPartsRow : OpenClaim := { program := "ytchhniejahbgcaadoor", sum := "ab1f17206b2b444860f3707802fbde2d9d6c1f8f150ebff91a072daf5ae3da40", func := "fusee/fuseelaw06.UnitsParts", spec := "unitsParts", unfollowed := true, recurses := true, named := ["fusee/units.limits"], apart := false, laid := [("fusee/units.limits", laid_fusee_units_limits)] }
def UnitsPartsSaid : Prop := unitsPartsRow.holds Tryd.pinned (OpenSpec.ofChange unitsPartsSpec)

/-- ITS FALSE NEIGHBOUR: 'it returns false'. Refute it at one input. -/
def unitsPartsWrong : ChangeSpec := { name := "unitsParts", fn := fun _ => fun
  | [d1, d2] => { results := [.lit (.bool false)], args := [d1, d2] }
  | _ => none }
def UnitsPartsWrongFalsely : Prop := unitsPartsRow.holds Tryd.pinned (OpenSpec.ofChange unitsPartsWrong)

/-- 'fuseelaw06.UnitsParted': WHATEVER THE INPUT: true; the input reads as it did. -/
def unitsPartedSpec : ChangeSpec := { name := "unitsParted", fn := fun _ => fun
  | [d1, d2] => { results := [.lit (.bool true)], args := [d1, d2] }
  | _ => none }
def unitsPartedRow : OpenClaim := { program := "ytchhniejahbgcaadoor", sum := "ab1f17206b2b444860f3707802fbde2d9d6c1f8f150ebff91a072daf5ae3da40", func := "fusee/fuseelaw06.UnitsParted", spec := "unitsParted", unfollowed := true, recurses := true, named := ["fusee/units.limits"], apart := false, laid := [("fusee/units.limits", laid_fusee_units_limits)] }
def UnitsPartedSaid : Prop := unitsPartedRow.holds Tryd.pinned (OpenSpec.ofChange unitsPartedSpec)

/-- ITS FALSE NEIGHBOUR: 'it returns false'. Refute it at one input. -/
def unitsPartedWrong : ChangeSpec := { name := "unitsParted", fn := fun _ => fun
  | [d1, d2] => { results := [.lit (.bool false)], args := [d1, d2] }
  | _ => none }
def UnitsPartedWrongFalsely : Prop := unitsPartedRow.holds Tryd.pinned (OpenSpec.ofChange unitsPartedWrong)

/-- 'fuseelaw06.UnitsOrder': WHATEVER THE INPUT: true; the input reads as it did. -/
def unitsOrderSpec : ChangeSpec := { name := "unitsOrder", fn := fun _ => fun
  | [d1, d2] => { results := [.lit (.bool true)], args := [d1, d2] }
  | _ => none }
def unitsOrderRow : OpenClaim := { program := "ytchhniejahbgcaadoor", sum := "ab1f17206b2b444860f3707802fbde2d9d6c1f8f150ebff91a072daf5ae3da40", func := "fusee/fuseelaw06.UnitsOrder", spec := "unitsOrder", unfollowed := true, recurses := true, named := ["fusee/units.limits"], apart := false, laid := [("fusee/units.limits", laid_fusee_units_limits)] }
def UnitsOrderSaid : Prop := unitsOrderRow.holds Tryd.pinned (OpenSpec.ofChange unitsOrderSpec)

/-- ITS FALSE NEIGHBOUR: 'it returns false'. Refute it at one input. -/
def unitsOrderWrong : ChangeSpec := { name := "unitsOrder", fn := fun _ => fun
  | [d1, d2] => { results := [.lit (.bool false)], args := [d1, d2] }
  | _ => none }
def UnitsOrderWrongFalsely : Prop := unitsOrderRow.holds Tryd.pinned (OpenSpec.ofChange unitsOrderWrong)

/- THE SECOND FORM. 'bulk': how many values and letters a reading holds, each counted each time it is reached (what is shared counts as often as it is met; a slice's spare places count too). A statement '..UptoSaid' is the law's where the arguments, and the package variables that the reading takes, are together of bulk at most 1048576: NARROWER than '..Said'. Prove '..Said' where nothing that the law and all that it calls make is longer than what came in: it says more and counts as full. Else prove '..UptoSaid'. A law counts once. -/
mutual
def uptoBulk {H : Type} : DataW H → Nat
  | .lit (.string bytes) => bytes.length + 1
  | .lit _ => 1
  | .nil => 1
  | .ptr d => uptoBulk d + 1
  | .slice elems spare => uptoBulkAll elems + uptoBulkAll spare + 1
  | .agg parts => uptoBulkAll parts + 1
  | .iface _ d => uptoBulk d + 1
  | .map entries => uptoBulkEntries entries + 1
  | .held _ => 1
def uptoBulkAll {H : Type} : List (DataW H) → Nat
  | [] => 0
  | d :: r => uptoBulk d + uptoBulkAll r
def uptoBulkEntries {H : Type} : List (Lit × DataW H) → Nat
  | [] => 0
  | x :: r => uptoBulkEntry x + uptoBulkEntries r
def uptoBulkEntry {H : Type} : Lit × DataW H → Nat
  | (.string bytes, d) => bytes.length + uptoBulk d + 1
  | (_, d) => uptoBulk d + 1
 end
def uptoSmall : (H : Type) → List (DataW H) → Bool := fun _ ds => decide (uptoBulkAll ds ≤ 1048576)
def OpenSpec.upto (s : _root_.Go.ChangeSpec) : _root_.Go.OpenSpec := { _root_.Go.OpenSpec.ofChange s with cond := some uptoSmall }

/-- 'fuseelaw06.UnitsTell', WHERE WHAT IT READS IS OF BULK AT MOST 1048576: true; the input reads as it did. -/
def unitsTellUptoRow : OpenClaim := { program := "ytchhniejahbgcaadoor", sum := "ab1f17206b2b444860f3707802fbde2d9d6c1f8f150ebff91a072daf5ae3da40", func := "fusee/fuseelaw06.UnitsTell", spec := "unitsTell", unfollowed := true, recurses := true, named := ["fusee/units.limits"], apart := false, laid := [("fusee/units.limits", laid_fusee_units_limits)], narrowed := true }
def UnitsTellUptoSaid : Prop := unitsTellUptoRow.holds Tryd.pinned (OpenSpec.upto unitsTellSpec)

/-- 'fuseelaw06.UnitsFall', WHERE WHAT IT READS IS OF BULK AT MOST 1048576: true; the input reads as it did. -/
def unitsFallUptoRow : OpenClaim := { program := "ytchhniejahbgcaadoor", sum := "ab1f17206b2b444860f3707802fbde2d9d6c1f8f150ebff91a072daf5ae3da40", func := "fusee/fuseelaw06.UnitsFall", spec := "unitsFall", unfollowed := true, recurses := true, named := ["fusee/units.limits"], apart := false, laid := [("fusee/units.limits", laid_fusee_units_limits)], narrowed := true }
def UnitsFallUptoSaid : Prop := unitsFallUptoRow.holds Tryd.pinned (OpenSpec.upto unitsFallSpec)

/-- 'fuseelaw06.UnitsParts', WHERE WHAT IT READS IS OF BULK AT MOST 1048576: true; the input reads as it did. -/
def unitsPartsUptoRow : OpenClaim := { program := "ytchhniejahbgcaadoor", sum := "ab1f17206b2b444860f3707802fbde2d9d6c1f8f150ebff91a072daf5ae3da40", func := "fusee/fuseelaw06.UnitsParts", spec := "unitsParts", unfollowed := true, recurses := true, named := ["fusee/units.limits"], apart := false, laid := [("fusee/units.limits", laid_fusee_units_limits)], narrowed := true }
def UnitsPartsUptoSaid : Prop := unitsPartsUptoRow.holds Tryd.pinned (OpenSpec.upto unitsPartsSpec)

/-- 'fuseelaw06.UnitsParted', WHERE WHAT IT READS IS OF BULK AT MOST 1048576: true; the input reads as it did. -/
def unitsPartedUptoRow : OpenClaim := { program := "ytchhniejahbgcaadoor", sum := "ab1f17206b2b444860f3707802fbde2d9d6c1f8f150ebff91a072daf5ae3da40", func := "fusee/fuseelaw06.UnitsParted", spec := "unitsParted", unfollowed := true, recurses := true, named := ["fusee/units.limits"], apart := false, laid := [("fusee/units.limits", laid_fusee_units_limits)], narrowed := true }
def UnitsPartedUptoSaid : Prop := unitsPartedUptoRow.holds Tryd.pinned (OpenSpec.upto unitsPartedSpec)

/-- 'fuseelaw06.UnitsOrder', WHERE WHAT IT READS IS OF BULK AT MOST 1048576: true; the input reads as it did. -/
def unitsOrderUptoRow : OpenClaim := { program := "ytchhniejahbgcaadoor", sum := "ab1f17206b2b444860f3707802fbde2d9d6c1f8f150ebff91a072daf5ae3da40", func := "fusee/fuseelaw06.UnitsOrder", spec := "unitsOrder", unfollowed := true, recurses := true, named := ["fusee/units.limits"], apart := false, laid := [("fusee/units.limits", laid_fusee_units_limits)], narrowed := true }
def UnitsOrderUptoSaid : Prop := unitsOrderUptoRow.holds Tryd.pinned (OpenSpec.upto unitsOrderSpec)

end Rows
end Go.Proofs.YtchhniejahbgcaaDoor
