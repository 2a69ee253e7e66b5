/-
  No cell of these rows narrows 'for every input' (looked for: loops, veiled, ifaces, maps, wideKeys, modest, calm, conditions, laid).
  DERIVED. THE GIVEN ROWS OF THIS SEAT. 2 by the template 'for every input the law returns true; each argument reads behind the call as it read before'; 0 by the template 'total and deterministic' (their statements: YtcdhanfjcnfjjaaTotals.lean).
  GIVEN WITH THE SEED: the statements are not yours to turn. If you find one false, say at which input.
  Laid BY PROGRAM, IN A SANDBOX (cutbox-rows.mjs): the forced cells as the released guide's own fill.sh prints them over the translation b4f6d621076ea167… (all of the seat's roots in one cut). By AI agents, Wed Nov 11 2026. No macro, syntax, notation, axiom, sorry.
-/
import Derived.Test.YtcdhanfjcnfjjaaChecked
import GoSem.Claim
import GoSem.ClaimJoined
import GoSem.ClaimMapViews
import Derived.JoinedTies
import Derived.KernelRfl
namespace Go.Proofs.Ytcdhanfjcnfjjaa
/- THE CELL 'sum', in the pinned program and in every row, IS THE sha256 OF THE DUMP (.gsa) THAT YtcdhanfjcnfjjaaProg.lean LOADS. Nothing in Lean hashes anything: it is a label: what it is worth is what the hold of that sum in a sandbox is worth. -/
noncomputable def Try.pinned : Pinned := { name := "ytcdhanfjcnfjjaa", sum := "b4f6d621076ea16763d1a77fe51b2457e82ef27d64621841e2a710155dd25f35", checked := Try.checked }
namespace Rows
def none {H : Type} : Left H := { results := [], args := [] }

/-- 'shotdesklaw07.ControlProved': WHATEVER THE INPUT: true; the input reads as it did. -/
def controlProvedSpec : ChangeSpec := { name := "controlProved", fn := fun _ => fun
  | [d1, d2, d3, d4, d5, d6] => { results := [.lit (.bool true)], args := [d1, d2, d3, d4, d5, d6] }
  | _ => none }
def controlProvedRow : OpenClaim := { program := "ytcdhanfjcnfjjaa", sum := "b4f6d621076ea16763d1a77fe51b2457e82ef27d64621841e2a710155dd25f35", func := "shotdesk/shotdesklaw07.ControlProved", spec := "controlProved", unfollowed := true, recurses := true, apart := false }
def ControlProvedSaid : Prop := controlProvedRow.holds Try.pinned (OpenSpec.ofChange controlProvedSpec)

/-- ITS FALSE NEIGHBOUR: 'it returns false'. Refute it at one input. -/
def controlProvedWrong : ChangeSpec := { name := "controlProved", fn := fun _ => fun
  | [d1, d2, d3, d4, d5, d6] => { results := [.lit (.bool false)], args := [d1, d2, d3, d4, d5, d6] }
  | _ => none }
def ControlProvedWrongFalsely : Prop := controlProvedRow.holds Try.pinned (OpenSpec.ofChange controlProvedWrong)

/-- 'shotdesklaw07.ControlWishes': WHATEVER THE INPUT: true; the input reads as it did. -/
def controlWishesSpec : ChangeSpec := { name := "controlWishes", fn := fun _ => fun
  | [d1, d2, d3, d4, d5, d6] => { results := [.lit (.bool true)], args := [d1, d2, d3, d4, d5, d6] }
  | _ => none }
def controlWishesRow : OpenClaim := { program := "ytcdhanfjcnfjjaa", sum := "b4f6d621076ea16763d1a77fe51b2457e82ef27d64621841e2a710155dd25f35", func := "shotdesk/shotdesklaw07.ControlWishes", spec := "controlWishes", unfollowed := true, recurses := true, apart := false }
def ControlWishesSaid : Prop := controlWishesRow.holds Try.pinned (OpenSpec.ofChange controlWishesSpec)

/-- ITS FALSE NEIGHBOUR: 'it returns false'. Refute it at one input. -/
def controlWishesWrong : ChangeSpec := { name := "controlWishes", fn := fun _ => fun
  | [d1, d2, d3, d4, d5, d6] => { results := [.lit (.bool false)], args := [d1, d2, d3, d4, d5, d6] }
  | _ => none }
def ControlWishesWrongFalsely : Prop := controlWishesRow.holds Try.pinned (OpenSpec.ofChange controlWishesWrong)

/- THE SECOND FORM. 'bulk': how many values and letters a reading holds, each counted each time it is reached (what is shared counts as often as it is met; a slice's spare places count too). A statement '..UptoSaid' is the law's where the arguments, and the package variables that the reading takes, are together of bulk at most 1048576: NARROWER than '..Said'. Prove '..Said' where nothing that the law and all that it calls make is longer than what came in: it says more and counts as full. Else prove '..UptoSaid'. A law counts once. -/
mutual
def uptoBulk {H : Type} : DataW H → Nat
  | .lit (.string bytes) => bytes.length + 1
  | .lit _ => 1
  | .nil => 1
  | .ptr d => uptoBulk d + 1
  | .slice elems spare => uptoBulkAll elems + uptoBulkAll spare + 1
  | .agg parts => uptoBulkAll parts + 1
  | .iface _ d => uptoBulk d + 1
  | .map entries => uptoBulkEntries entries + 1
  | .held _ => 1
def uptoBulkAll {H : Type} : List (DataW H) → Nat
  | [] => 0
  | d :: r => uptoBulk d + uptoBulkAll r
def uptoBulkEntries {H : Type} : List (Lit × DataW H) → Nat
  | [] => 0
  | x :: r => uptoBulkEntry x + uptoBulkEntries r
def uptoBulkEntry {H : Type} : Lit × DataW H → Nat
  | (.string bytes, d) => bytes.length + uptoBulk d + 1
  | (_, d) => uptoBulk d + 1
 end
def uptoSmall : (H : Type) → List (DataW H) → Bool := fun _ ds => decide (uptoBulkAll ds ≤ 1048576)
def OpenSpec.upto (s : _root_.Go.ChangeSpec) : _root_.Go.OpenSpec := { _root_.Go.OpenSpec.ofChange s with cond := some uptoSmall }

/-- 'shotdesklaw07.ControlProved', WHERE WHAT IT READS IS OF BULK AT MOST 1048576: true; the input reads as it did. -/
def controlProvedUptoRow : OpenClaim := { program := "ytcdhanfjcnfjjaa", sum := "b4f6d621076ea16763d1a77fe51b2457e82ef27d64621841e2a710155dd25f35", func := "shotdesk/shotdesklaw07.ControlProved", spec := "controlProved", unfollowed := true, recurses := true, apart := false, narrowed := true }
def ControlProvedUptoSaid : Prop := controlProvedUptoRow.holds Try.pinned (OpenSpec.upto controlProvedSpec)

/-- 'shotdesklaw07.ControlWishes', WHERE WHAT IT READS IS OF BULK AT MOST 1048576: true; the input reads as it did. -/
def controlWishesUptoRow : OpenClaim := { program := "ytcdhanfjcnfjjaa", sum := "b4f6d621076ea16763d1a77fe51b2457e82ef27d64621841e2a710155dd25f35", func := "shotdesk/shotdesklaw07.ControlWishes", spec := "controlWishes", unfollowed := true, recurses := true, apart := false, narrowed := true }
def ControlWishesUptoSaid : Prop := controlWishesUptoRow.holds Try.pinned (OpenSpec.upto controlWishesSpec)

end Rows
end Go.Proofs.Ytcdhanfjcnfjjaa
