/-
  NARROWER THAN 'FOR EVERY INPUT', by the rows' own cells (each row's printed sentence says how): SpringTells: laid · SpringFits: laid · SpringLeast: laid · SpringMore: laid · SpringTurned: laid.
  DERIVED. THE GIVEN ROWS OF THIS SEAT. 5 by the template 'for every input the law returns true; each argument reads behind the call as it read before'; 0 by the template 'total and deterministic' (their statements: YtjiockmphbhljaaDoorTotals.lean).
  GIVEN WITH THE SEED: the statements are not yours to turn. If you find one false, say at which input.
  Laid BY PROGRAM, IN A SANDBOX (cutbox-rows.mjs): the forced cells as the released guide's own fill.sh prints them over the translation 1981775cf6781a6f… (all of the seat's roots in one cut). By AI agents, Wed Nov 11 2026. No macro, syntax, notation, axiom, sorry.
-/
import Derived.Test.YtjiockmphbhljaaDoorChecked
import GoSem.Claim
import GoSem.ClaimJoined
import GoSem.ClaimMapViews
import Derived.JoinedTies
import Derived.KernelRfl
namespace Go.Proofs.YtjiockmphbhljaaDoor
/- THE CELL 'sum', in the pinned program and in every row, IS THE sha256 OF THE DUMP (.gsa) THAT YtjiockmphbhljaaDoorProg.lean LOADS. Nothing in Lean hashes anything: it is a label: what it is worth is what the hold of that sum in a sandbox is worth. -/
noncomputable def Tryd.pinned : Pinned := { name := "ytjiockmphbhljaadoor", sum := "1981775cf6781a6fee928154da592706a56e0883168deca8fe00cadd648669bb", checked := Tryd.checked }
namespace Rows
def none {H : Type} : Left H := { results := [], args := [] }

/- WHAT THE LISTED PACKAGE-LEVEL VARIABLES READ AS WHEN THE CALL BEGINS. Each datum BY PROGRAM (the guide's laid-datum.mjs) off the statement by which the dump's own 'gosem.cut.vars' lays the variable. In a bare row this is a premise. The card (YtjiockmphbhljaaDoorCards.lean) ties it to the program's text. -/
def laid_fusee_units_limits {H : Type} : DataW H := .agg [.lit (.int .i64 1099511627776), .lit (.int .i64 1000), .lit (.int .i64 983040)]

/-- 'fuseelaw07.SpringTells': WHATEVER THE INPUT: true; the input reads as it did. -/
def springTellsSpec : ChangeSpec := { name := "springTells", fn := fun _ => fun
  | [d1, d2] => { results := [.lit (.bool true)], args := [d1, d2] }
  | _ => none }
def springTellsRow : OpenClaim := { program := "ytjiockmphbhljaadoor", sum := "1981775cf6781a6fee928154da592706a56e0883168deca8fe00cadd648669bb", func := "fusee/fuseelaw07.SpringTells", spec := "springTells", unfollowed := true, recurses := true, named := ["fusee/units.limits"], apart := false, laid := [("fusee/units.limits", laid_fusee_units_limits)] }
def SpringTellsSaid : Prop := springTellsRow.holds Tryd.pinned (OpenSpec.ofChange springTellsSpec)

/-- ITS FALSE NEIGHBOUR: 'it returns false'. Refute it at one input. -/
def springTellsWrong : ChangeSpec := { name := "springTells", fn := fun _ => fun
  | [d1, d2] => { results := [.lit (.bool false)], args := [d1, d2] }
  | _ => none }
def SpringTellsWrongFalsely : Prop := springTellsRow.holds Tryd.pinned (OpenSpec.ofChange springTellsWrong)

/-- 'fuseelaw07.SpringFits': WHATEVER THE INPUT: true; the input reads as it did. -/
def springFitsSpec : ChangeSpec := { name := "springFits", fn := fun _ => fun
  | [d1, d2] => { results := [.lit (.bool true)], args := [d1, d2] }
  | _ => none }
def springFitsRow : OpenClaim := { program := "ytjiockmphbhljaadoor", sum := "1981775cf6781a6fee928154da592706a56e0883168deca8fe00cadd648669bb", func := "fusee/fuseelaw07.SpringFits", spec := "springFits", unfollowed := true, recurses := true, named := ["fusee/units.limits"], apart := false, laid := [("fusee/units.limits", laid_fusee_units_limits)] }
def SpringFitsSaid : Prop := springFitsRow.holds Tryd.pinned (OpenSpec.ofChange springFitsSpec)

/-- ITS FALSE NEIGHBOUR: 'it returns false'. Refute it at one input. -/
def springFitsWrong : ChangeSpec := { name := "springFits", fn := fun _ => fun
  | [d1, d2] => { results := [.lit (.bool false)], args := [d1, d2] }
  | _ => none }
def SpringFitsWrongFalsely : Prop := springFitsRow.holds Tryd.pinned (OpenSpec.ofChange springFitsWrong)

/-- 'fuseelaw07.SpringLeast': WHATEVER THE INPUT: true; the input reads as it did. -/
def springLeastSpec : ChangeSpec := { name := "springLeast", fn := fun _ => fun
  | [d1, d2, d3] => { results := [.lit (.bool true)], args := [d1, d2, d3] }
  | _ => none }
def springLeastRow : OpenClaim := { program := "ytjiockmphbhljaadoor", sum := "1981775cf6781a6fee928154da592706a56e0883168deca8fe00cadd648669bb", func := "fusee/fuseelaw07.SpringLeast", spec := "springLeast", unfollowed := true, recurses := true, named := ["fusee/units.limits"], apart := false, laid := [("fusee/units.limits", laid_fusee_units_limits)] }
def SpringLeastSaid : Prop := springLeastRow.holds Tryd.pinned (OpenSpec.ofChange springLeastSpec)

/-- ITS FALSE NEIGHBOUR: 'it returns false'. Refute it at one input. -/
def springLeastWrong : ChangeSpec := { name := "springLeast", fn := fun _ => fun
  | [d1, d2, d3] => { results := [.lit (.bool false)], args := [d1, d2, d3] }
  | _ => none }
def SpringLeastWrongFalsely : Prop := springLeastRow.holds Tryd.pinned (OpenSpec.ofChange springLeastWrong)

/-- 'fuseelaw07.SpringMore': WHATEVER THE INPUT: true; the input reads as it did. -/
def springMoreSpec : ChangeSpec := { name := "springMore", fn := fun _ => fun
  | [d1, d2, d3] => { results := [.lit (.bool true)], args := [d1, d2, d3] }
  | _ => none }
def springMoreRow : OpenClaim := { program := "ytjiockmphbhljaadoor", sum := "1981775cf6781a6fee928154da592706a56e0883168deca8fe00cadd648669bb", func := "fusee/fuseelaw07.SpringMore", spec := "springMore", unfollowed := true, recurses := true, named := ["fusee/units.limits"], apart := false, laid := [("fusee/units.limits", laid_fusee_units_limits)] }
def SpringMoreSaid : Prop := springMoreRow.holds Tryd.pinned (OpenSpec.ofChange springMoreSpec)

/-- ITS FALSE NEIGHBOUR: 'it returns false'. Refute it at one input. -/
def springMoreWrong : ChangeSpec := { name := "springMore", fn := fun _ => fun
  | [d1, d2, d3] => { results := [.lit (.bool false)], args := [d1, d2, d3] }
  | _ => none }
def SpringMoreWrongFalsely : Prop := springMoreRow.holds Tryd.pinned (OpenSpec.ofChange springMoreWrong)

/-- 'fuseelaw07.SpringTurned': WHATEVER THE INPUT: true; the input reads as it did. -/
def springTurnedSpec : ChangeSpec := { name := "springTurned", fn := fun _ => fun
  | [d1, d2] => { results := [.lit (.bool true)], args := [d1, d2] }
  | _ => none }
def springTurnedRow : OpenClaim := { program := "ytjiockmphbhljaadoor", sum := "1981775cf6781a6fee928154da592706a56e0883168deca8fe00cadd648669bb", func := "fusee/fuseelaw07.SpringTurned", spec := "springTurned", unfollowed := true, recurses := true, named := ["fusee/units.limits"], apart := false, laid := [("fusee/units.limits", laid_fusee_units_limits)] }
def SpringTurnedSaid : Prop := springTurnedRow.holds Tryd.pinned (OpenSpec.ofChange springTurnedSpec)

/-- ITS FALSE NEIGHBOUR: 'it returns false'. Refute it at one input. -/
def springTurnedWrong : ChangeSpec := { name := "springTurned", fn := fun _ => fun
  | [d1, d2] => { results := [.lit (.bool false)], args := [d1, d2] }
  | _ => none }
def SpringTurnedWrongFalsely : Prop := springTurnedRow.holds Tryd.pinned (OpenSpec.ofChange springTurnedWrong)

/- THE SECOND FORM. 'bulk': how many values and letters a reading holds, each counted each time it is reached (what is shared counts as often as it is met; a slice's spare places count too). A statement '..UptoSaid' is the law's where the arguments, and the package variables that the reading takes, are together of bulk at most 1048576: NARROWER than '..Said'. Prove '..Said' where nothing that the law and all that it calls make is longer than what came in: it says more and counts as full. Else prove '..UptoSaid'. A law counts once. -/
mutual
def uptoBulk {H : Type} : DataW H → Nat
  | .lit (.string bytes) => bytes.length + 1
  | .lit _ => 1
  | .nil => 1
  | .ptr d => uptoBulk d + 1
  | .slice elems spare => uptoBulkAll elems + uptoBulkAll spare + 1
  | .agg parts => uptoBulkAll parts + 1
  | .iface _ d => uptoBulk d + 1
  | .map entries => uptoBulkEntries entries + 1
  | .held _ => 1
def uptoBulkAll {H : Type} : List (DataW H) → Nat
  | [] => 0
  | d :: r => uptoBulk d + uptoBulkAll r
def uptoBulkEntries {H : Type} : List (Lit × DataW H) → Nat
  | [] => 0
  | x :: r => uptoBulkEntry x + uptoBulkEntries r
def uptoBulkEntry {H : Type} : Lit × DataW H → Nat
  | (.string bytes, d) => bytes.length + uptoBulk d + 1
  | (_, d) => uptoBulk d + 1
 end
def uptoSmall : (H : Type) → List (DataW H) → Bool := fun _ ds => decide (uptoBulkAll ds ≤ 1048576)
def OpenSpec.upto (s : _root_.Go.ChangeSpec) : _root_.Go.OpenSpec := { _root_.Go.OpenSpec.ofChange s with cond := some uptoSmall }

/-- 'fuseelaw07.SpringTells', WHERE WHAT IT READS IS OF BULK AT MOST 1048576: true; the input reads as it did. -/
def springTellsUptoRow : OpenClaim := { program := "ytjiockmphbhljaadoor", sum := "1981775cf6781a6fee928154da592706a56e0883168deca8fe00cadd648669bb", func := "fusee/fuseelaw07.SpringTells", spec := "springTells", unfollowed := true, recurses := true, named := ["fusee/units.limits"], apart := false, laid := [("fusee/units.limits", laid_fusee_units_limits)], narrowed := true }
def SpringTellsUptoSaid : Prop := springTellsUptoRow.holds Tryd.pinned (OpenSpec.upto springTellsSpec)

/-- 'fuseelaw07.SpringFits', WHERE WHAT IT READS IS OF BULK AT MOST 1048576: true; the input reads as it did. -/
def springFitsUptoRow : OpenClaim := { program := "ytjiockmphbhljaadoor", sum := "1981775cf6781a6fee928154da592706a56e0883168deca8fe00cadd648669bb", func := "fusee/fuseelaw07.SpringFits", spec := "springFits", unfollowed := true, recurses := true, named := ["fusee/units.limits"], apart := false, laid := [("fusee/units.limits", laid_fusee_units_limits)], narrowed := true }
def SpringFitsUptoSaid : Prop := springFitsUptoRow.holds Tryd.pinned (OpenSpec.upto springFitsSpec)

/-- 'fuseelaw07.SpringLeast', WHERE WHAT IT READS IS OF BULK AT MOST 1048576: true; the input reads as it did. -/
def springLeastUptoRow : OpenClaim := { program := "ytjiockmphbhljaadoor", sum := "1981775cf6781a6fee928154da592706a56e0883168deca8fe00cadd648669bb", func := "fusee/fuseelaw07.SpringLeast", spec := "springLeast", unfollowed := true, recurses := true, named := ["fusee/units.limits"], apart := false, laid := [("fusee/units.limits", laid_fusee_units_limits)], narrowed := true }
def SpringLeastUptoSaid : Prop := springLeastUptoRow.holds Tryd.pinned (OpenSpec.upto springLeastSpec)

/-- 'fuseelaw07.SpringMore', WHERE WHAT IT READS IS OF BULK AT MOST 1048576: true; the input reads as it did. -/
def springMoreUptoRow : OpenClaim := { program := "ytjiockmphbhljaadoor", sum := "1981775cf6781a6fee928154da592706a56e0883168deca8fe00cadd648669bb", func := "fusee/fuseelaw07.SpringMore", spec := "springMore", unfollowed := true, recurses := true, named := ["fusee/units.limits"], apart := false, laid := [("fusee/units.limits", laid_fusee_units_limits)], narrowed := true }
def SpringMoreUptoSaid : Prop := springMoreUptoRow.holds Tryd.pinned (OpenSpec.upto springMoreSpec)

/-- 'fuseelaw07.SpringTurned', WHERE WHAT IT READS IS OF BULK AT MOST 1048576: true; the input reads as it did. -/
def springTurnedUptoRow : OpenClaim := { program := "ytjiockmphbhljaadoor", sum := "1981775cf6781a6fee928154da592706a56e0883168deca8fe00cadd648669bb", func := "fusee/fuseelaw07.SpringTurned", spec := "springTurned", unfollowed := true, recurses := true, named := ["fusee/units.limits"], apart := false, laid := [("fusee/units.limits", laid_fusee_units_limits)], narrowed := true }
def SpringTurnedUptoSaid : Prop := springTurnedUptoRow.holds Tryd.pinned (OpenSpec.upto springTurnedSpec)

end Rows
end Go.Proofs.YtjiockmphbhljaaDoor
