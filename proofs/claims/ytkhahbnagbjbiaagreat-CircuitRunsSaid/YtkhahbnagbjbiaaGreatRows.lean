/-
  No cell of these rows narrows 'for every input' (looked for: loops, veiled, ifaces, maps, wideKeys, modest, calm, conditions, laid).
  DERIVED. THE GIVEN ROWS OF THIS SEAT. 4 by the template 'for every input the law returns true; each argument reads behind the call as it read before'; 0 by the template 'total and deterministic' (their statements: YtkhahbnagbjbiaaGreatTotals.lean).
  GIVEN WITH THE SEED: the statements are not yours to turn. If you find one false, say at which input.
  Laid BY PROGRAM, IN A SANDBOX (cutbox-rows.mjs): the forced cells as the released guide's own fill.sh prints them over the translation 03dd63dcad88ec74… (all of the seat's roots in one cut). By AI agents, Wed Nov 11 2026. No macro, syntax, notation, axiom, sorry.
-/
import Derived.Test.YtkhahbnagbjbiaaGreatChecked
import GoSem.Claim
import GoSem.ClaimJoined
import GoSem.ClaimMapViews
import Derived.JoinedTies
import Derived.KernelRfl
namespace Go.Proofs.YtkhahbnagbjbiaaGreat
/- THE CELL 'sum', in the pinned program and in every row, IS THE sha256 OF THE DUMP (.gsa) THAT YtkhahbnagbjbiaaGreatProg.lean LOADS. Nothing in Lean hashes anything: it is a label: what it is worth is what the hold of that sum in a sandbox is worth. -/
noncomputable def Tryz.pinned : Pinned := { name := "ytkhahbnagbjbiaagreat", sum := "03dd63dcad88ec74295ab0a05de8567a77a4bbcc1c8c335f5998e458d97204b6", checked := Tryz.checked }
namespace Rows
def none {H : Type} : Left H := { results := [], args := [] }

/-- 'shotdesklaw03.CircuitSteps': WHATEVER THE INPUT: true; the input reads as it did. -/
def circuitStepsSpec : ChangeSpec := { name := "circuitSteps", fn := fun _ => fun
  | [d1, d2, d3] => { results := [.lit (.bool true)], args := [d1, d2, d3] }
  | _ => none }
def circuitStepsRow : OpenClaim := { program := "ytkhahbnagbjbiaagreat", sum := "03dd63dcad88ec74295ab0a05de8567a77a4bbcc1c8c335f5998e458d97204b6", func := "shotdesk/shotdesklaw03.CircuitSteps", spec := "circuitSteps", unfollowed := true, recurses := true, apart := false }
def CircuitStepsSaid : Prop := circuitStepsRow.holds Tryz.pinned (OpenSpec.ofChange circuitStepsSpec)

/-- ITS FALSE NEIGHBOUR: 'it returns false'. Refute it at one input. -/
def circuitStepsWrong : ChangeSpec := { name := "circuitSteps", fn := fun _ => fun
  | [d1, d2, d3] => { results := [.lit (.bool false)], args := [d1, d2, d3] }
  | _ => none }
def CircuitStepsWrongFalsely : Prop := circuitStepsRow.holds Tryz.pinned (OpenSpec.ofChange circuitStepsWrong)

/-- 'shotdesklaw03.CircuitRuns': WHATEVER THE INPUT: true; the input reads as it did. -/
def circuitRunsSpec : ChangeSpec := { name := "circuitRuns", fn := fun _ => fun
  | [d1, d2, d3] => { results := [.lit (.bool true)], args := [d1, d2, d3] }
  | _ => none }
def circuitRunsRow : OpenClaim := { program := "ytkhahbnagbjbiaagreat", sum := "03dd63dcad88ec74295ab0a05de8567a77a4bbcc1c8c335f5998e458d97204b6", func := "shotdesk/shotdesklaw03.CircuitRuns", spec := "circuitRuns", unfollowed := true, recurses := true, apart := false }
def CircuitRunsSaid : Prop := circuitRunsRow.holds Tryz.pinned (OpenSpec.ofChange circuitRunsSpec)

/-- ITS FALSE NEIGHBOUR: 'it returns false'. Refute it at one input. -/
def circuitRunsWrong : ChangeSpec := { name := "circuitRuns", fn := fun _ => fun
  | [d1, d2, d3] => { results := [.lit (.bool false)], args := [d1, d2, d3] }
  | _ => none }
def CircuitRunsWrongFalsely : Prop := circuitRunsRow.holds Tryz.pinned (OpenSpec.ofChange circuitRunsWrong)

/-- 'shotdesklaw03.CircuitCoasts': WHATEVER THE INPUT: true; the input reads as it did. -/
def circuitCoastsSpec : ChangeSpec := { name := "circuitCoasts", fn := fun _ => fun
  | [d] => { results := [.lit (.bool true)], args := [d] }
  | _ => none }
def circuitCoastsRow : OpenClaim := { program := "ytkhahbnagbjbiaagreat", sum := "03dd63dcad88ec74295ab0a05de8567a77a4bbcc1c8c335f5998e458d97204b6", func := "shotdesk/shotdesklaw03.CircuitCoasts", spec := "circuitCoasts", unfollowed := true, recurses := true, apart := false }
def CircuitCoastsSaid : Prop := circuitCoastsRow.holds Tryz.pinned (OpenSpec.ofChange circuitCoastsSpec)

/-- ITS FALSE NEIGHBOUR: 'it returns false'. Refute it at one input. -/
def circuitCoastsWrong : ChangeSpec := { name := "circuitCoasts", fn := fun _ => fun
  | [d] => { results := [.lit (.bool false)], args := [d] }
  | _ => none }
def CircuitCoastsWrongFalsely : Prop := circuitCoastsRow.holds Tryz.pinned (OpenSpec.ofChange circuitCoastsWrong)

/-- 'shotdesklaw03.CircuitSwings': WHATEVER THE INPUT: true; the input reads as it did. -/
def circuitSwingsSpec : ChangeSpec := { name := "circuitSwings", fn := fun _ => fun
  | [d1, d2] => { results := [.lit (.bool true)], args := [d1, d2] }
  | _ => none }
def circuitSwingsRow : OpenClaim := { program := "ytkhahbnagbjbiaagreat", sum := "03dd63dcad88ec74295ab0a05de8567a77a4bbcc1c8c335f5998e458d97204b6", func := "shotdesk/shotdesklaw03.CircuitSwings", spec := "circuitSwings", unfollowed := true, recurses := true, apart := false }
def CircuitSwingsSaid : Prop := circuitSwingsRow.holds Tryz.pinned (OpenSpec.ofChange circuitSwingsSpec)

/-- ITS FALSE NEIGHBOUR: 'it returns false'. Refute it at one input. -/
def circuitSwingsWrong : ChangeSpec := { name := "circuitSwings", fn := fun _ => fun
  | [d1, d2] => { results := [.lit (.bool false)], args := [d1, d2] }
  | _ => none }
def CircuitSwingsWrongFalsely : Prop := circuitSwingsRow.holds Tryz.pinned (OpenSpec.ofChange circuitSwingsWrong)

/- THE SECOND FORM. 'bulk': how many values and letters a reading holds, each counted each time it is reached (what is shared counts as often as it is met; a slice's spare places count too). A statement '..UptoSaid' is the law's where the arguments, and the package variables that the reading takes, are together of bulk at most 1048576: NARROWER than '..Said'. Prove '..Said' where nothing that the law and all that it calls make is longer than what came in: it says more and counts as full. Else prove '..UptoSaid'. A law counts once. -/
mutual
def uptoBulk {H : Type} : DataW H → Nat
  | .lit (.string bytes) => bytes.length + 1
  | .lit _ => 1
  | .nil => 1
  | .ptr d => uptoBulk d + 1
  | .slice elems spare => uptoBulkAll elems + uptoBulkAll spare + 1
  | .agg parts => uptoBulkAll parts + 1
  | .iface _ d => uptoBulk d + 1
  | .map entries => uptoBulkEntries entries + 1
  | .held _ => 1
def uptoBulkAll {H : Type} : List (DataW H) → Nat
  | [] => 0
  | d :: r => uptoBulk d + uptoBulkAll r
def uptoBulkEntries {H : Type} : List (Lit × DataW H) → Nat
  | [] => 0
  | x :: r => uptoBulkEntry x + uptoBulkEntries r
def uptoBulkEntry {H : Type} : Lit × DataW H → Nat
  | (.string bytes, d) => bytes.length + uptoBulk d + 1
  | (_, d) => uptoBulk d + 1
 end
def uptoSmall : (H : Type) → List (DataW H) → Bool := fun _ ds => decide (uptoBulkAll ds ≤ 1048576)
def OpenSpec.upto (s : _root_.Go.ChangeSpec) : _root_.Go.OpenSpec := { _root_.Go.OpenSpec.ofChange s with cond := some uptoSmall }

/-- 'shotdesklaw03.CircuitSteps', WHERE WHAT IT READS IS OF BULK AT MOST 1048576: true; the input reads as it did. -/
def circuitStepsUptoRow : OpenClaim := { program := "ytkhahbnagbjbiaagreat", sum := "03dd63dcad88ec74295ab0a05de8567a77a4bbcc1c8c335f5998e458d97204b6", func := "shotdesk/shotdesklaw03.CircuitSteps", spec := "circuitSteps", unfollowed := true, recurses := true, apart := false, narrowed := true }
def CircuitStepsUptoSaid : Prop := circuitStepsUptoRow.holds Tryz.pinned (OpenSpec.upto circuitStepsSpec)

/-- 'shotdesklaw03.CircuitRuns', WHERE WHAT IT READS IS OF BULK AT MOST 1048576: true; the input reads as it did. -/
def circuitRunsUptoRow : OpenClaim := { program := "ytkhahbnagbjbiaagreat", sum := "03dd63dcad88ec74295ab0a05de8567a77a4bbcc1c8c335f5998e458d97204b6", func := "shotdesk/shotdesklaw03.CircuitRuns", spec := "circuitRuns", unfollowed := true, recurses := true, apart := false, narrowed := true }
def CircuitRunsUptoSaid : Prop := circuitRunsUptoRow.holds Tryz.pinned (OpenSpec.upto circuitRunsSpec)

/-- 'shotdesklaw03.CircuitCoasts', WHERE WHAT IT READS IS OF BULK AT MOST 1048576: true; the input reads as it did. -/
def circuitCoastsUptoRow : OpenClaim := { program := "ytkhahbnagbjbiaagreat", sum := "03dd63dcad88ec74295ab0a05de8567a77a4bbcc1c8c335f5998e458d97204b6", func := "shotdesk/shotdesklaw03.CircuitCoasts", spec := "circuitCoasts", unfollowed := true, recurses := true, apart := false, narrowed := true }
def CircuitCoastsUptoSaid : Prop := circuitCoastsUptoRow.holds Tryz.pinned (OpenSpec.upto circuitCoastsSpec)

/-- 'shotdesklaw03.CircuitSwings', WHERE WHAT IT READS IS OF BULK AT MOST 1048576: true; the input reads as it did. -/
def circuitSwingsUptoRow : OpenClaim := { program := "ytkhahbnagbjbiaagreat", sum := "03dd63dcad88ec74295ab0a05de8567a77a4bbcc1c8c335f5998e458d97204b6", func := "shotdesk/shotdesklaw03.CircuitSwings", spec := "circuitSwings", unfollowed := true, recurses := true, apart := false, narrowed := true }
def CircuitSwingsUptoSaid : Prop := circuitSwingsUptoRow.holds Tryz.pinned (OpenSpec.upto circuitSwingsSpec)

end Rows
end Go.Proofs.YtkhahbnagbjbiaaGreat
