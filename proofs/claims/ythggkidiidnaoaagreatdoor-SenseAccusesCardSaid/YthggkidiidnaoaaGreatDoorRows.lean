/-
  NARROWER THAN 'FOR EVERY INPUT', by the rows' own cells (each row's printed sentence says how): SenseAccuses: laid · SenseLeast: laid · SenseHonest: laid.
  DERIVED. THE GIVEN ROWS OF THIS SEAT. 3 by the template 'for every input the law returns true; each argument reads behind the call as it read before'; 0 by the template 'total and deterministic' (their statements: YthggkidiidnaoaaGreatDoorTotals.lean).
  GIVEN WITH THE SEED: the statements are not yours to turn. If you find one false, say at which input.
  Laid BY PROGRAM, IN A SANDBOX (cutbox-rows.mjs): the forced cells as the released guide's own fill.sh prints them over the translation cc6ee2be4d2c0276… (all of the seat's roots in one cut). By AI agents, Wed Nov 11 2026. No macro, syntax, notation, axiom, sorry.
-/
import Derived.Test.YthggkidiidnaoaaGreatDoorChecked
import GoSem.Claim
import GoSem.ClaimJoined
import GoSem.ClaimMapViews
import Derived.JoinedTies
import Derived.KernelRfl
namespace Go.Proofs.YthggkidiidnaoaaGreatDoor
/- THE CELL 'sum', in the pinned program and in every row, IS THE sha256 OF THE DUMP (.gsa) THAT YthggkidiidnaoaaGreatDoorProg.lean LOADS. Nothing in Lean hashes anything: it is a label: what it is worth is what the hold of that sum in a sandbox is worth. -/
noncomputable def Tryz.pinned : Pinned := { name := "ythggkidiidnaoaagreatdoor", sum := "cc6ee2be4d2c02765dcd22e5d3c706cd41d4595ad3cd5265b6570c6e936d5921", checked := Tryz.checked }
namespace Rows
def none {H : Type} : Left H := { results := [], args := [] }

/- WHAT THE LISTED PACKAGE-LEVEL VARIABLES READ AS WHEN THE CALL BEGINS. Each datum BY PROGRAM (the guide's laid-datum.mjs) off the statement by which the dump's own 'gosem.cut.vars' lays the variable. In a bare row this is a premise. The card (YthggkidiidnaoaaGreatDoorCards.lean) ties it to the program's text. -/
def laid_shotdesk_sense_faultKinds {H : Type} : DataW H := .agg [.agg [.lit (.string []), .lit (.int .i64 0)], .agg [.lit (.string [111, 102, 102, 115, 101, 116]), .lit (.int .i64 1000000000000000)], .agg [.lit (.string [103, 97, 105, 110]), .lit (.int .i64 100000)], .agg [.lit (.string [99, 117, 116]), .lit (.int .i64 0)]]

/-- 'shotdesklaw04.SenseAccuses': WHATEVER THE INPUT: true; the input reads as it did. -/
def senseAccusesSpec : ChangeSpec := { name := "senseAccuses", fn := fun _ => fun
  | [d] => { results := [.lit (.bool true)], args := [d] }
  | _ => none }
def senseAccusesRow : OpenClaim := { program := "ythggkidiidnaoaagreatdoor", sum := "cc6ee2be4d2c02765dcd22e5d3c706cd41d4595ad3cd5265b6570c6e936d5921", func := "shotdesk/shotdesklaw04.SenseAccuses", spec := "senseAccuses", unfollowed := true, recurses := true, named := ["shotdesk/sense.faultKinds"], apart := false, laid := [("shotdesk/sense.faultKinds", laid_shotdesk_sense_faultKinds)] }
def SenseAccusesSaid : Prop := senseAccusesRow.holds Tryz.pinned (OpenSpec.ofChange senseAccusesSpec)

/-- ITS FALSE NEIGHBOUR: 'it returns false'. Refute it at one input. -/
def senseAccusesWrong : ChangeSpec := { name := "senseAccuses", fn := fun _ => fun
  | [d] => { results := [.lit (.bool false)], args := [d] }
  | _ => none }
def SenseAccusesWrongFalsely : Prop := senseAccusesRow.holds Tryz.pinned (OpenSpec.ofChange senseAccusesWrong)

/-- 'shotdesklaw04.SenseLeast': WHATEVER THE INPUT: true; the input reads as it did. -/
def senseLeastSpec : ChangeSpec := { name := "senseLeast", fn := fun _ => fun
  | [d1, d2] => { results := [.lit (.bool true)], args := [d1, d2] }
  | _ => none }
def senseLeastRow : OpenClaim := { program := "ythggkidiidnaoaagreatdoor", sum := "cc6ee2be4d2c02765dcd22e5d3c706cd41d4595ad3cd5265b6570c6e936d5921", func := "shotdesk/shotdesklaw04.SenseLeast", spec := "senseLeast", unfollowed := true, recurses := true, named := ["shotdesk/sense.faultKinds"], apart := false, laid := [("shotdesk/sense.faultKinds", laid_shotdesk_sense_faultKinds)] }
def SenseLeastSaid : Prop := senseLeastRow.holds Tryz.pinned (OpenSpec.ofChange senseLeastSpec)

/-- ITS FALSE NEIGHBOUR: 'it returns false'. Refute it at one input. -/
def senseLeastWrong : ChangeSpec := { name := "senseLeast", fn := fun _ => fun
  | [d1, d2] => { results := [.lit (.bool false)], args := [d1, d2] }
  | _ => none }
def SenseLeastWrongFalsely : Prop := senseLeastRow.holds Tryz.pinned (OpenSpec.ofChange senseLeastWrong)

/-- 'shotdesklaw04.SenseHonest': WHATEVER THE INPUT: true; the input reads as it did. -/
def senseHonestSpec : ChangeSpec := { name := "senseHonest", fn := fun _ => fun
  | [d1, d2, d3] => { results := [.lit (.bool true)], args := [d1, d2, d3] }
  | _ => none }
def senseHonestRow : OpenClaim := { program := "ythggkidiidnaoaagreatdoor", sum := "cc6ee2be4d2c02765dcd22e5d3c706cd41d4595ad3cd5265b6570c6e936d5921", func := "shotdesk/shotdesklaw04.SenseHonest", spec := "senseHonest", unfollowed := true, recurses := true, named := ["shotdesk/sense.faultKinds"], apart := false, laid := [("shotdesk/sense.faultKinds", laid_shotdesk_sense_faultKinds)] }
def SenseHonestSaid : Prop := senseHonestRow.holds Tryz.pinned (OpenSpec.ofChange senseHonestSpec)

/-- ITS FALSE NEIGHBOUR: 'it returns false'. Refute it at one input. -/
def senseHonestWrong : ChangeSpec := { name := "senseHonest", fn := fun _ => fun
  | [d1, d2, d3] => { results := [.lit (.bool false)], args := [d1, d2, d3] }
  | _ => none }
def SenseHonestWrongFalsely : Prop := senseHonestRow.holds Tryz.pinned (OpenSpec.ofChange senseHonestWrong)

/- THE SECOND FORM. 'bulk': how many values and letters a reading holds, each counted each time it is reached (what is shared counts as often as it is met; a slice's spare places count too). A statement '..UptoSaid' is the law's where the arguments, and the package variables that the reading takes, are together of bulk at most 1048576: NARROWER than '..Said'. Prove '..Said' where nothing that the law and all that it calls make is longer than what came in: it says more and counts as full. Else prove '..UptoSaid'. A law counts once. -/
mutual
def uptoBulk {H : Type} : DataW H → Nat
  | .lit (.string bytes) => bytes.length + 1
  | .lit _ => 1
  | .nil => 1
  | .ptr d => uptoBulk d + 1
  | .slice elems spare => uptoBulkAll elems + uptoBulkAll spare + 1
  | .agg parts => uptoBulkAll parts + 1
  | .iface _ d => uptoBulk d + 1
  | .map entries => uptoBulkEntries entries + 1
  | .held _ => 1
def uptoBulkAll {H : Type} : List (DataW H) → Nat
  | [] => 0
  | d :: r => uptoBulk d + uptoBulkAll r
def uptoBulkEntries {H : Type} : List (Lit × DataW H) → Nat
  | [] => 0
  | x :: r => uptoBulkEntry x + uptoBulkEntries r
def uptoBulkEntry {H : Type} : Lit × DataW H → Nat
  | (.string bytes, d) => bytes.length + uptoBulk d + 1
  | (_, d) => uptoBulk d + 1
 end
def uptoSmall : (H : Type) → List (DataW H) → Bool := fun _ ds => decide (uptoBulkAll ds ≤ 1048576)
def OpenSpec.upto (s : _root_.Go.ChangeSpec) : _root_.Go.OpenSpec := { _root_.Go.OpenSpec.ofChange s with cond := some uptoSmall }

/-- 'shotdesklaw04.SenseAccuses', WHERE WHAT IT READS IS OF BULK AT MOST 1048576: true; the input reads as it did. -/
def senseAccusesUptoRow : OpenClaim := { program := "ythggkidiidnaoaagreatdoor", sum := "cc6ee2be4d2c02765dcd22e5d3c706cd41d4595ad3cd5265b6570c6e936d5921", func := "shotdesk/shotdesklaw04.SenseAccuses", spec := "senseAccuses", unfollowed := true, recurses := true, named := ["shotdesk/sense.faultKinds"], apart := false, laid := [("shotdesk/sense.faultKinds", laid_shotdesk_sense_faultKinds)], narrowed := true }
def SenseAccusesUptoSaid : Prop := senseAccusesUptoRow.holds Tryz.pinned (OpenSpec.upto senseAccusesSpec)

/-- 'shotdesklaw04.SenseLeast', WHERE WHAT IT READS IS OF BULK AT MOST 1048576: true; the input reads as it did. -/
def senseLeastUptoRow : OpenClaim := { program := "ythggkidiidnaoaagreatdoor", sum := "cc6ee2be4d2c02765dcd22e5d3c706cd41d4595ad3cd5265b6570c6e936d5921", func := "shotdesk/shotdesklaw04.SenseLeast", spec := "senseLeast", unfollowed := true, recurses := true, named := ["shotdesk/sense.faultKinds"], apart := false, laid := [("shotdesk/sense.faultKinds", laid_shotdesk_sense_faultKinds)], narrowed := true }
def SenseLeastUptoSaid : Prop := senseLeastUptoRow.holds Tryz.pinned (OpenSpec.upto senseLeastSpec)

/-- 'shotdesklaw04.SenseHonest', WHERE WHAT IT READS IS OF BULK AT MOST 1048576: true; the input reads as it did. -/
def senseHonestUptoRow : OpenClaim := { program := "ythggkidiidnaoaagreatdoor", sum := "cc6ee2be4d2c02765dcd22e5d3c706cd41d4595ad3cd5265b6570c6e936d5921", func := "shotdesk/shotdesklaw04.SenseHonest", spec := "senseHonest", unfollowed := true, recurses := true, named := ["shotdesk/sense.faultKinds"], apart := false, laid := [("shotdesk/sense.faultKinds", laid_shotdesk_sense_faultKinds)], narrowed := true }
def SenseHonestUptoSaid : Prop := senseHonestUptoRow.holds Tryz.pinned (OpenSpec.upto senseHonestSpec)

end Rows
end Go.Proofs.YthggkidiidnaoaaGreatDoor
