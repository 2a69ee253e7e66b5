/-
  No cell of these rows narrows 'for every input' (looked for: loops, veiled, ifaces, maps, wideKeys, modest, calm, conditions, laid).
  DERIVED. THE GIVEN ROWS OF THIS SEAT. 6 by the template 'for every input the law returns true; each argument reads behind the call as it read before'; 0 by the template 'total and deterministic' (their statements: YtcjndnadibbcbaaTotals.lean).
  GIVEN WITH THE SEED: the statements are not yours to turn. If you find one false, say at which input.
  Laid BY PROGRAM, IN A SANDBOX (cutbox-rows.mjs): the forced cells as the released guide's own fill.sh prints them over the translation 04fba4d7d0be3761… (all of the seat's roots in one cut). By AI agents, Wed Nov 11 2026. No macro, syntax, notation, axiom, sorry.
-/
import Derived.Test.YtcjndnadibbcbaaChecked
import GoSem.Claim
import GoSem.ClaimJoined
import GoSem.ClaimMapViews
import Derived.JoinedTies
import Derived.KernelRfl
namespace Go.Proofs.Ytcjndnadibbcbaa
/- THE CELL 'sum', in the pinned program and in every row, IS THE sha256 OF THE DUMP (.gsa) THAT YtcjndnadibbcbaaProg.lean LOADS. Nothing in Lean hashes anything: it is a label: what it is worth is what the hold of that sum in a sandbox is worth. -/
noncomputable def Try.pinned : Pinned := { name := "ytcjndnadibbcbaa", sum := "04fba4d7d0be3761aa3da51a7868fe32e3f856a69b365a4aab7fa69d9c518d74", checked := Try.checked }
namespace Rows
def none {H : Type} : Left H := { results := [], args := [] }

/-- 'shotdesklaw03.CircuitBegins': WHATEVER THE INPUT: true; the input reads as it did. -/
def circuitBeginsSpec : ChangeSpec := { name := "circuitBegins", fn := fun _ => fun
  | [d1, d2] => { results := [.lit (.bool true)], args := [d1, d2] }
  | _ => none }
def circuitBeginsRow : OpenClaim := { program := "ytcjndnadibbcbaa", sum := "04fba4d7d0be3761aa3da51a7868fe32e3f856a69b365a4aab7fa69d9c518d74", func := "shotdesk/shotdesklaw03.CircuitBegins", spec := "circuitBegins", unfollowed := true, recurses := true, apart := false }
def CircuitBeginsSaid : Prop := circuitBeginsRow.holds Try.pinned (OpenSpec.ofChange circuitBeginsSpec)

/-- ITS FALSE NEIGHBOUR: 'it returns false'. Refute it at one input. -/
def circuitBeginsWrong : ChangeSpec := { name := "circuitBegins", fn := fun _ => fun
  | [d1, d2] => { results := [.lit (.bool false)], args := [d1, d2] }
  | _ => none }
def CircuitBeginsWrongFalsely : Prop := circuitBeginsRow.holds Try.pinned (OpenSpec.ofChange circuitBeginsWrong)

/-- 'shotdesklaw03.CircuitLimits': WHATEVER THE INPUT: true; the input reads as it did. -/
def circuitLimitsSpec : ChangeSpec := { name := "circuitLimits", fn := fun _ => fun
  | [d1, d2, d3] => { results := [.lit (.bool true)], args := [d1, d2, d3] }
  | _ => none }
def circuitLimitsRow : OpenClaim := { program := "ytcjndnadibbcbaa", sum := "04fba4d7d0be3761aa3da51a7868fe32e3f856a69b365a4aab7fa69d9c518d74", func := "shotdesk/shotdesklaw03.CircuitLimits", spec := "circuitLimits", unfollowed := true, recurses := true, apart := false }
def CircuitLimitsSaid : Prop := circuitLimitsRow.holds Try.pinned (OpenSpec.ofChange circuitLimitsSpec)

/-- ITS FALSE NEIGHBOUR: 'it returns false'. Refute it at one input. -/
def circuitLimitsWrong : ChangeSpec := { name := "circuitLimits", fn := fun _ => fun
  | [d1, d2, d3] => { results := [.lit (.bool false)], args := [d1, d2, d3] }
  | _ => none }
def CircuitLimitsWrongFalsely : Prop := circuitLimitsRow.holds Try.pinned (OpenSpec.ofChange circuitLimitsWrong)

/-- 'shotdesklaw03.CircuitVessel': WHATEVER THE INPUT: true; the input reads as it did. -/
def circuitVesselSpec : ChangeSpec := { name := "circuitVessel", fn := fun _ => fun
  | [d] => { results := [.lit (.bool true)], args := [d] }
  | _ => none }
def circuitVesselRow : OpenClaim := { program := "ytcjndnadibbcbaa", sum := "04fba4d7d0be3761aa3da51a7868fe32e3f856a69b365a4aab7fa69d9c518d74", func := "shotdesk/shotdesklaw03.CircuitVessel", spec := "circuitVessel", unfollowed := true, recurses := true, apart := false }
def CircuitVesselSaid : Prop := circuitVesselRow.holds Try.pinned (OpenSpec.ofChange circuitVesselSpec)

/-- ITS FALSE NEIGHBOUR: 'it returns false'. Refute it at one input. -/
def circuitVesselWrong : ChangeSpec := { name := "circuitVessel", fn := fun _ => fun
  | [d] => { results := [.lit (.bool false)], args := [d] }
  | _ => none }
def CircuitVesselWrongFalsely : Prop := circuitVesselRow.holds Try.pinned (OpenSpec.ofChange circuitVesselWrong)

/-- 'shotdesklaw03.CircuitRests': WHATEVER THE INPUT: true; the input reads as it did. -/
def circuitRestsSpec : ChangeSpec := { name := "circuitRests", fn := fun _ => fun
  | [d1, d2, d3] => { results := [.lit (.bool true)], args := [d1, d2, d3] }
  | _ => none }
def circuitRestsRow : OpenClaim := { program := "ytcjndnadibbcbaa", sum := "04fba4d7d0be3761aa3da51a7868fe32e3f856a69b365a4aab7fa69d9c518d74", func := "shotdesk/shotdesklaw03.CircuitRests", spec := "circuitRests", unfollowed := true, recurses := true, apart := false }
def CircuitRestsSaid : Prop := circuitRestsRow.holds Try.pinned (OpenSpec.ofChange circuitRestsSpec)

/-- ITS FALSE NEIGHBOUR: 'it returns false'. Refute it at one input. -/
def circuitRestsWrong : ChangeSpec := { name := "circuitRests", fn := fun _ => fun
  | [d1, d2, d3] => { results := [.lit (.bool false)], args := [d1, d2, d3] }
  | _ => none }
def CircuitRestsWrongFalsely : Prop := circuitRestsRow.holds Try.pinned (OpenSpec.ofChange circuitRestsWrong)

/-- 'shotdesklaw03.CircuitSettles': WHATEVER THE INPUT: true; the input reads as it did. -/
def circuitSettlesSpec : ChangeSpec := { name := "circuitSettles", fn := fun _ => fun
  | [d1, d2] => { results := [.lit (.bool true)], args := [d1, d2] }
  | _ => none }
def circuitSettlesRow : OpenClaim := { program := "ytcjndnadibbcbaa", sum := "04fba4d7d0be3761aa3da51a7868fe32e3f856a69b365a4aab7fa69d9c518d74", func := "shotdesk/shotdesklaw03.CircuitSettles", spec := "circuitSettles", unfollowed := true, recurses := true, apart := false }
def CircuitSettlesSaid : Prop := circuitSettlesRow.holds Try.pinned (OpenSpec.ofChange circuitSettlesSpec)

/-- ITS FALSE NEIGHBOUR: 'it returns false'. Refute it at one input. -/
def circuitSettlesWrong : ChangeSpec := { name := "circuitSettles", fn := fun _ => fun
  | [d1, d2] => { results := [.lit (.bool false)], args := [d1, d2] }
  | _ => none }
def CircuitSettlesWrongFalsely : Prop := circuitSettlesRow.holds Try.pinned (OpenSpec.ofChange circuitSettlesWrong)

/-- 'shotdesklaw03.CircuitMirrors': WHATEVER THE INPUT: true; the input reads as it did. -/
def circuitMirrorsSpec : ChangeSpec := { name := "circuitMirrors", fn := fun _ => fun
  | [d1, d2, d3] => { results := [.lit (.bool true)], args := [d1, d2, d3] }
  | _ => none }
def circuitMirrorsRow : OpenClaim := { program := "ytcjndnadibbcbaa", sum := "04fba4d7d0be3761aa3da51a7868fe32e3f856a69b365a4aab7fa69d9c518d74", func := "shotdesk/shotdesklaw03.CircuitMirrors", spec := "circuitMirrors", unfollowed := true, recurses := true, apart := false }
def CircuitMirrorsSaid : Prop := circuitMirrorsRow.holds Try.pinned (OpenSpec.ofChange circuitMirrorsSpec)

/-- ITS FALSE NEIGHBOUR: 'it returns false'. Refute it at one input. -/
def circuitMirrorsWrong : ChangeSpec := { name := "circuitMirrors", fn := fun _ => fun
  | [d1, d2, d3] => { results := [.lit (.bool false)], args := [d1, d2, d3] }
  | _ => none }
def CircuitMirrorsWrongFalsely : Prop := circuitMirrorsRow.holds Try.pinned (OpenSpec.ofChange circuitMirrorsWrong)

/- THE SECOND FORM. 'bulk': how many values and letters a reading holds, each counted each time it is reached (what is shared counts as often as it is met; a slice's spare places count too). A statement '..UptoSaid' is the law's where the arguments, and the package variables that the reading takes, are together of bulk at most 1048576: NARROWER than '..Said'. Prove '..Said' where nothing that the law and all that it calls make is longer than what came in: it says more and counts as full. Else prove '..UptoSaid'. A law counts once. -/
mutual
def uptoBulk {H : Type} : DataW H → Nat
  | .lit (.string bytes) => bytes.length + 1
  | .lit _ => 1
  | .nil => 1
  | .ptr d => uptoBulk d + 1
  | .slice elems spare => uptoBulkAll elems + uptoBulkAll spare + 1
  | .agg parts => uptoBulkAll parts + 1
  | .iface _ d => uptoBulk d + 1
  | .map entries => uptoBulkEntries entries + 1
  | .held _ => 1
def uptoBulkAll {H : Type} : List (DataW H) → Nat
  | [] => 0
  | d :: r => uptoBulk d + uptoBulkAll r
def uptoBulkEntries {H : Type} : List (Lit × DataW H) → Nat
  | [] => 0
  | x :: r => uptoBulkEntry x + uptoBulkEntries r
def uptoBulkEntry {H : Type} : Lit × DataW H → Nat
  | (.string bytes, d) => bytes.length + uptoBulk d + 1
  | (_, d) => uptoBulk d + 1
 end
def uptoSmall : (H : Type) → List (DataW H) → Bool := fun _ ds => decide (uptoBulkAll ds ≤ 1048576)
def OpenSpec.upto (s : _root_.Go.ChangeSpec) : _root_.Go.OpenSpec := { _root_.Go.OpenSpec.ofChange s with cond := some uptoSmall }

/-- 'shotdesklaw03.CircuitBegins', WHERE WHAT IT READS IS OF BULK AT MOST 1048576: true; the input reads as it did. -/
def circuitBeginsUptoRow : OpenClaim := { program := "ytcjndnadibbcbaa", sum := "04fba4d7d0be3761aa3da51a7868fe32e3f856a69b365a4aab7fa69d9c518d74", func := "shotdesk/shotdesklaw03.CircuitBegins", spec := "circuitBegins", unfollowed := true, recurses := true, apart := false, narrowed := true }
def CircuitBeginsUptoSaid : Prop := circuitBeginsUptoRow.holds Try.pinned (OpenSpec.upto circuitBeginsSpec)

/-- 'shotdesklaw03.CircuitLimits', WHERE WHAT IT READS IS OF BULK AT MOST 1048576: true; the input reads as it did. -/
def circuitLimitsUptoRow : OpenClaim := { program := "ytcjndnadibbcbaa", sum := "04fba4d7d0be3761aa3da51a7868fe32e3f856a69b365a4aab7fa69d9c518d74", func := "shotdesk/shotdesklaw03.CircuitLimits", spec := "circuitLimits", unfollowed := true, recurses := true, apart := false, narrowed := true }
def CircuitLimitsUptoSaid : Prop := circuitLimitsUptoRow.holds Try.pinned (OpenSpec.upto circuitLimitsSpec)

/-- 'shotdesklaw03.CircuitVessel', WHERE WHAT IT READS IS OF BULK AT MOST 1048576: true; the input reads as it did. -/
def circuitVesselUptoRow : OpenClaim := { program := "ytcjndnadibbcbaa", sum := "04fba4d7d0be3761aa3da51a7868fe32e3f856a69b365a4aab7fa69d9c518d74", func := "shotdesk/shotdesklaw03.CircuitVessel", spec := "circuitVessel", unfollowed := true, recurses := true, apart := false, narrowed := true }
def CircuitVesselUptoSaid : Prop := circuitVesselUptoRow.holds Try.pinned (OpenSpec.upto circuitVesselSpec)

/-- 'shotdesklaw03.CircuitRests', WHERE WHAT IT READS IS OF BULK AT MOST 1048576: true; the input reads as it did. -/
def circuitRestsUptoRow : OpenClaim := { program := "ytcjndnadibbcbaa", sum := "04fba4d7d0be3761aa3da51a7868fe32e3f856a69b365a4aab7fa69d9c518d74", func := "shotdesk/shotdesklaw03.CircuitRests", spec := "circuitRests", unfollowed := true, recurses := true, apart := false, narrowed := true }
def CircuitRestsUptoSaid : Prop := circuitRestsUptoRow.holds Try.pinned (OpenSpec.upto circuitRestsSpec)

/-- 'shotdesklaw03.CircuitSettles', WHERE WHAT IT READS IS OF BULK AT MOST 1048576: true; the input reads as it did. -/
def circuitSettlesUptoRow : OpenClaim := { program := "ytcjndnadibbcbaa", sum := "04fba4d7d0be3761aa3da51a7868fe32e3f856a69b365a4aab7fa69d9c518d74", func := "shotdesk/shotdesklaw03.CircuitSettles", spec := "circuitSettles", unfollowed := true, recurses := true, apart := false, narrowed := true }
def CircuitSettlesUptoSaid : Prop := circuitSettlesUptoRow.holds Try.pinned (OpenSpec.upto circuitSettlesSpec)

/-- 'shotdesklaw03.CircuitMirrors', WHERE WHAT IT READS IS OF BULK AT MOST 1048576: true; the input reads as it did. -/
def circuitMirrorsUptoRow : OpenClaim := { program := "ytcjndnadibbcbaa", sum := "04fba4d7d0be3761aa3da51a7868fe32e3f856a69b365a4aab7fa69d9c518d74", func := "shotdesk/shotdesklaw03.CircuitMirrors", spec := "circuitMirrors", unfollowed := true, recurses := true, apart := false, narrowed := true }
def CircuitMirrorsUptoSaid : Prop := circuitMirrorsUptoRow.holds Try.pinned (OpenSpec.upto circuitMirrorsSpec)

end Rows
end Go.Proofs.Ytcjndnadibbcbaa
