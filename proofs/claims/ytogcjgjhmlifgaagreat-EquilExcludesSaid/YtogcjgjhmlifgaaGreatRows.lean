/-
  No cell of these rows narrows 'for every input' (looked for: loops, veiled, ifaces, maps, wideKeys, modest, calm, conditions, laid).
  DERIVED. THE GIVEN ROWS OF THIS SEAT. 6 by the template 'for every input the law returns true; each argument reads behind the call as it read before'; 0 by the template 'total and deterministic' (their statements: YtogcjgjhmlifgaaGreatTotals.lean).
  GIVEN WITH THE SEED: the statements are not yours to turn. If you find one false, say at which input.
  Laid BY PROGRAM, IN A SANDBOX (cutbox-rows.mjs): the forced cells as the released guide's own fill.sh prints them over the translation 25e2e3d390581915… (all of the seat's roots in one cut). By AI agents, Wed Nov 11 2026. No macro, syntax, notation, axiom, sorry.
-/
import Derived.Test.YtogcjgjhmlifgaaGreatChecked
import GoSem.Claim
import GoSem.ClaimJoined
import GoSem.ClaimMapViews
import Derived.JoinedTies
import Derived.KernelRfl
namespace Go.Proofs.YtogcjgjhmlifgaaGreat
/- THE CELL 'sum', in the pinned program and in every row, IS THE sha256 OF THE DUMP (.gsa) THAT YtogcjgjhmlifgaaGreatProg.lean LOADS. Nothing in Lean hashes anything: it is a label: what it is worth is what the hold of that sum in a sandbox is worth. -/
noncomputable def Tryz.pinned : Pinned := { name := "ytogcjgjhmlifgaagreat", sum := "25e2e3d390581915342c2295dfaa98021d1ab39928ed11d6c3087695f34b6947", checked := Tryz.checked }
namespace Rows
def none {H : Type} : Left H := { results := [], args := [] }

/-- 'shotdesklaw05.EquilKnown': WHATEVER THE INPUT: true; the input reads as it did. -/
def equilKnownSpec : ChangeSpec := { name := "equilKnown", fn := fun _ => fun
  | [d1, d2, d3] => { results := [.lit (.bool true)], args := [d1, d2, d3] }
  | _ => none }
def equilKnownRow : OpenClaim := { program := "ytogcjgjhmlifgaagreat", sum := "25e2e3d390581915342c2295dfaa98021d1ab39928ed11d6c3087695f34b6947", func := "shotdesk/shotdesklaw05.EquilKnown", spec := "equilKnown", unfollowed := true, recurses := true, named := ["math/bits.divideError", "math/bits.overflowError"], apart := false }
def EquilKnownSaid : Prop := equilKnownRow.holds Tryz.pinned (OpenSpec.ofChange equilKnownSpec)

/-- ITS FALSE NEIGHBOUR: 'it returns false'. Refute it at one input. -/
def equilKnownWrong : ChangeSpec := { name := "equilKnown", fn := fun _ => fun
  | [d1, d2, d3] => { results := [.lit (.bool false)], args := [d1, d2, d3] }
  | _ => none }
def EquilKnownWrongFalsely : Prop := equilKnownRow.holds Tryz.pinned (OpenSpec.ofChange equilKnownWrong)

/-- 'shotdesklaw05.EquilTakes': WHATEVER THE INPUT: true; the input reads as it did. -/
def equilTakesSpec : ChangeSpec := { name := "equilTakes", fn := fun _ => fun
  | [d1, d2, d3] => { results := [.lit (.bool true)], args := [d1, d2, d3] }
  | _ => none }
def equilTakesRow : OpenClaim := { program := "ytogcjgjhmlifgaagreat", sum := "25e2e3d390581915342c2295dfaa98021d1ab39928ed11d6c3087695f34b6947", func := "shotdesk/shotdesklaw05.EquilTakes", spec := "equilTakes", unfollowed := true, recurses := true, named := ["math/bits.divideError", "math/bits.overflowError"], apart := false }
def EquilTakesSaid : Prop := equilTakesRow.holds Tryz.pinned (OpenSpec.ofChange equilTakesSpec)

/-- ITS FALSE NEIGHBOUR: 'it returns false'. Refute it at one input. -/
def equilTakesWrong : ChangeSpec := { name := "equilTakes", fn := fun _ => fun
  | [d1, d2, d3] => { results := [.lit (.bool false)], args := [d1, d2, d3] }
  | _ => none }
def EquilTakesWrongFalsely : Prop := equilTakesRow.holds Tryz.pinned (OpenSpec.ofChange equilTakesWrong)

/-- 'shotdesklaw05.EquilSides': WHATEVER THE INPUT: true; the input reads as it did. -/
def equilSidesSpec : ChangeSpec := { name := "equilSides", fn := fun _ => fun
  | [d1, d2] => { results := [.lit (.bool true)], args := [d1, d2] }
  | _ => none }
def equilSidesRow : OpenClaim := { program := "ytogcjgjhmlifgaagreat", sum := "25e2e3d390581915342c2295dfaa98021d1ab39928ed11d6c3087695f34b6947", func := "shotdesk/shotdesklaw05.EquilSides", spec := "equilSides", unfollowed := true, recurses := true, named := ["math/bits.divideError", "math/bits.overflowError"], apart := false }
def EquilSidesSaid : Prop := equilSidesRow.holds Tryz.pinned (OpenSpec.ofChange equilSidesSpec)

/-- ITS FALSE NEIGHBOUR: 'it returns false'. Refute it at one input. -/
def equilSidesWrong : ChangeSpec := { name := "equilSides", fn := fun _ => fun
  | [d1, d2] => { results := [.lit (.bool false)], args := [d1, d2] }
  | _ => none }
def EquilSidesWrongFalsely : Prop := equilSidesRow.holds Tryz.pinned (OpenSpec.ofChange equilSidesWrong)

/-- 'shotdesklaw05.EquilFlux': WHATEVER THE INPUT: true; the input reads as it did. -/
def equilFluxSpec : ChangeSpec := { name := "equilFlux", fn := fun _ => fun
  | [d1, d2, d3] => { results := [.lit (.bool true)], args := [d1, d2, d3] }
  | _ => none }
def equilFluxRow : OpenClaim := { program := "ytogcjgjhmlifgaagreat", sum := "25e2e3d390581915342c2295dfaa98021d1ab39928ed11d6c3087695f34b6947", func := "shotdesk/shotdesklaw05.EquilFlux", spec := "equilFlux", unfollowed := true, recurses := true, named := ["math/bits.divideError", "math/bits.overflowError"], apart := false }
def EquilFluxSaid : Prop := equilFluxRow.holds Tryz.pinned (OpenSpec.ofChange equilFluxSpec)

/-- ITS FALSE NEIGHBOUR: 'it returns false'. Refute it at one input. -/
def equilFluxWrong : ChangeSpec := { name := "equilFlux", fn := fun _ => fun
  | [d1, d2, d3] => { results := [.lit (.bool false)], args := [d1, d2, d3] }
  | _ => none }
def EquilFluxWrongFalsely : Prop := equilFluxRow.holds Tryz.pinned (OpenSpec.ofChange equilFluxWrong)

/-- 'shotdesklaw05.EquilExcludes': WHATEVER THE INPUT: true; the input reads as it did. -/
def equilExcludesSpec : ChangeSpec := { name := "equilExcludes", fn := fun _ => fun
  | [d1, d2, d3] => { results := [.lit (.bool true)], args := [d1, d2, d3] }
  | _ => none }
def equilExcludesRow : OpenClaim := { program := "ytogcjgjhmlifgaagreat", sum := "25e2e3d390581915342c2295dfaa98021d1ab39928ed11d6c3087695f34b6947", func := "shotdesk/shotdesklaw05.EquilExcludes", spec := "equilExcludes", unfollowed := true, recurses := true, named := ["math/bits.divideError", "math/bits.overflowError"], apart := false }
def EquilExcludesSaid : Prop := equilExcludesRow.holds Tryz.pinned (OpenSpec.ofChange equilExcludesSpec)

/-- ITS FALSE NEIGHBOUR: 'it returns false'. Refute it at one input. -/
def equilExcludesWrong : ChangeSpec := { name := "equilExcludes", fn := fun _ => fun
  | [d1, d2, d3] => { results := [.lit (.bool false)], args := [d1, d2, d3] }
  | _ => none }
def EquilExcludesWrongFalsely : Prop := equilExcludesRow.holds Tryz.pinned (OpenSpec.ofChange equilExcludesWrong)

/-- 'shotdesklaw05.EquilSound': WHATEVER THE INPUT: true; the input reads as it did. -/
def equilSoundSpec : ChangeSpec := { name := "equilSound", fn := fun _ => fun
  | [d1, d2, d3] => { results := [.lit (.bool true)], args := [d1, d2, d3] }
  | _ => none }
def equilSoundRow : OpenClaim := { program := "ytogcjgjhmlifgaagreat", sum := "25e2e3d390581915342c2295dfaa98021d1ab39928ed11d6c3087695f34b6947", func := "shotdesk/shotdesklaw05.EquilSound", spec := "equilSound", unfollowed := true, recurses := true, named := ["math/bits.divideError", "math/bits.overflowError"], apart := false }
def EquilSoundSaid : Prop := equilSoundRow.holds Tryz.pinned (OpenSpec.ofChange equilSoundSpec)

/-- ITS FALSE NEIGHBOUR: 'it returns false'. Refute it at one input. -/
def equilSoundWrong : ChangeSpec := { name := "equilSound", fn := fun _ => fun
  | [d1, d2, d3] => { results := [.lit (.bool false)], args := [d1, d2, d3] }
  | _ => none }
def EquilSoundWrongFalsely : Prop := equilSoundRow.holds Tryz.pinned (OpenSpec.ofChange equilSoundWrong)

/- THE SECOND FORM. 'bulk': how many values and letters a reading holds, each counted each time it is reached (what is shared counts as often as it is met; a slice's spare places count too). A statement '..UptoSaid' is the law's where the arguments, and the package variables that the reading takes, are together of bulk at most 1048576: NARROWER than '..Said'. Prove '..Said' where nothing that the law and all that it calls make is longer than what came in: it says more and counts as full. Else prove '..UptoSaid'. A law counts once. -/
mutual
def uptoBulk {H : Type} : DataW H → Nat
  | .lit (.string bytes) => bytes.length + 1
  | .lit _ => 1
  | .nil => 1
  | .ptr d => uptoBulk d + 1
  | .slice elems spare => uptoBulkAll elems + uptoBulkAll spare + 1
  | .agg parts => uptoBulkAll parts + 1
  | .iface _ d => uptoBulk d + 1
  | .map entries => uptoBulkEntries entries + 1
  | .held _ => 1
def uptoBulkAll {H : Type} : List (DataW H) → Nat
  | [] => 0
  | d :: r => uptoBulk d + uptoBulkAll r
def uptoBulkEntries {H : Type} : List (Lit × DataW H) → Nat
  | [] => 0
  | x :: r => uptoBulkEntry x + uptoBulkEntries r
def uptoBulkEntry {H : Type} : Lit × DataW H → Nat
  | (.string bytes, d) => bytes.length + uptoBulk d + 1
  | (_, d) => uptoBulk d + 1
 end
def uptoSmall : (H : Type) → List (DataW H) → Bool := fun _ ds => decide (uptoBulkAll ds ≤ 1048576)
def OpenSpec.upto (s : _root_.Go.ChangeSpec) : _root_.Go.OpenSpec := { _root_.Go.OpenSpec.ofChange s with cond := some uptoSmall }

/-- 'shotdesklaw05.EquilKnown', WHERE WHAT IT READS IS OF BULK AT MOST 1048576: true; the input reads as it did. -/
def equilKnownUptoRow : OpenClaim := { program := "ytogcjgjhmlifgaagreat", sum := "25e2e3d390581915342c2295dfaa98021d1ab39928ed11d6c3087695f34b6947", func := "shotdesk/shotdesklaw05.EquilKnown", spec := "equilKnown", unfollowed := true, recurses := true, named := ["math/bits.divideError", "math/bits.overflowError"], apart := false, narrowed := true }
def EquilKnownUptoSaid : Prop := equilKnownUptoRow.holds Tryz.pinned (OpenSpec.upto equilKnownSpec)

/-- 'shotdesklaw05.EquilTakes', WHERE WHAT IT READS IS OF BULK AT MOST 1048576: true; the input reads as it did. -/
def equilTakesUptoRow : OpenClaim := { program := "ytogcjgjhmlifgaagreat", sum := "25e2e3d390581915342c2295dfaa98021d1ab39928ed11d6c3087695f34b6947", func := "shotdesk/shotdesklaw05.EquilTakes", spec := "equilTakes", unfollowed := true, recurses := true, named := ["math/bits.divideError", "math/bits.overflowError"], apart := false, narrowed := true }
def EquilTakesUptoSaid : Prop := equilTakesUptoRow.holds Tryz.pinned (OpenSpec.upto equilTakesSpec)

/-- 'shotdesklaw05.EquilSides', WHERE WHAT IT READS IS OF BULK AT MOST 1048576: true; the input reads as it did. -/
def equilSidesUptoRow : OpenClaim := { program := "ytogcjgjhmlifgaagreat", sum := "25e2e3d390581915342c2295dfaa98021d1ab39928ed11d6c3087695f34b6947", func := "shotdesk/shotdesklaw05.EquilSides", spec := "equilSides", unfollowed := true, recurses := true, named := ["math/bits.divideError", "math/bits.overflowError"], apart := false, narrowed := true }
def EquilSidesUptoSaid : Prop := equilSidesUptoRow.holds Tryz.pinned (OpenSpec.upto equilSidesSpec)

/-- 'shotdesklaw05.EquilFlux', WHERE WHAT IT READS IS OF BULK AT MOST 1048576: true; the input reads as it did. -/
def equilFluxUptoRow : OpenClaim := { program := "ytogcjgjhmlifgaagreat", sum := "25e2e3d390581915342c2295dfaa98021d1ab39928ed11d6c3087695f34b6947", func := "shotdesk/shotdesklaw05.EquilFlux", spec := "equilFlux", unfollowed := true, recurses := true, named := ["math/bits.divideError", "math/bits.overflowError"], apart := false, narrowed := true }
def EquilFluxUptoSaid : Prop := equilFluxUptoRow.holds Tryz.pinned (OpenSpec.upto equilFluxSpec)

/-- 'shotdesklaw05.EquilExcludes', WHERE WHAT IT READS IS OF BULK AT MOST 1048576: true; the input reads as it did. -/
def equilExcludesUptoRow : OpenClaim := { program := "ytogcjgjhmlifgaagreat", sum := "25e2e3d390581915342c2295dfaa98021d1ab39928ed11d6c3087695f34b6947", func := "shotdesk/shotdesklaw05.EquilExcludes", spec := "equilExcludes", unfollowed := true, recurses := true, named := ["math/bits.divideError", "math/bits.overflowError"], apart := false, narrowed := true }
def EquilExcludesUptoSaid : Prop := equilExcludesUptoRow.holds Tryz.pinned (OpenSpec.upto equilExcludesSpec)

/-- 'shotdesklaw05.EquilSound', WHERE WHAT IT READS IS OF BULK AT MOST 1048576: true; the input reads as it did. -/
def equilSoundUptoRow : OpenClaim := { program := "ytogcjgjhmlifgaagreat", sum := "25e2e3d390581915342c2295dfaa98021d1ab39928ed11d6c3087695f34b6947", func := "shotdesk/shotdesklaw05.EquilSound", spec := "equilSound", unfollowed := true, recurses := true, named := ["math/bits.divideError", "math/bits.overflowError"], apart := false, narrowed := true }
def EquilSoundUptoSaid : Prop := equilSoundUptoRow.holds Tryz.pinned (OpenSpec.upto equilSoundSpec)

end Rows
end Go.Proofs.YtogcjgjhmlifgaaGreat
