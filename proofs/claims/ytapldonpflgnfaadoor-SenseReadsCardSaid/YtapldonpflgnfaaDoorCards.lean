/-
  DERIVED. GIVEN WITH THE SEED: THE CARDS: each row of YtapldonpflgnfaaDoorRows.lean that lists a variable, with what it lists TIED to the program's text (the seventh form; the later family's looks); each row that meets fmt, with fmt's text TOLD by the authors' own Lean function (tested against real Go, not proved from fmt's source: count such statements apart). THE CARD IS WHAT COUNTS. Prove the row's statement (the work); the ties are given (YtapldonpflgnfaaDoorTie.lean); close each card by the builder's one call (the guide's Derived/Test/ToyasCard.lean, 'card_holds'). Laid BY PROGRAM, IN A SANDBOX (cutbox-door.mjs). By AI agents, Wed Nov 11 2026. No macro, syntax, notation, axiom, sorry.
-/
import Derived.Test.YtapldonpflgnfaaDoorRows
import GoSem.ClaimSeven
namespace Go.Proofs.YtapldonpflgnfaaDoor
namespace Rows

/-- THE TIED CARD OF 'shotdesklaw04.SenseReads'. -/
def senseReadsCard : Claim7 := { stood := { row := senseReadsRow, standIns := [], harness := (true, "d5c102ed142520dd93b58114fcf1a0a17f0f8f1282311c8b77797eb6824df6b1"), looks := false }, kinds := [], alts := [], laidByText := true, laidKinds := [.data], laidTests := true, laidLooks := .later }
def SenseReadsCardSaid : Prop := Claim7.holds Tryd.pinned (.plain (OpenSpec.ofChange senseReadsSpec)) senseReadsCard

/-- THE SECOND FORM's CARD OF 'shotdesklaw04.SenseReads'. -/
def senseReadsUptoCard : Claim7 := { stood := { row := senseReadsUptoRow, standIns := [], harness := (true, "d5c102ed142520dd93b58114fcf1a0a17f0f8f1282311c8b77797eb6824df6b1"), looks := false }, kinds := [], alts := [], laidByText := true, laidKinds := [.data], laidTests := true, laidLooks := .later }
def SenseReadsUptoCardSaid : Prop := Claim7.holds Tryd.pinned (.plain (OpenSpec.upto senseReadsSpec)) senseReadsUptoCard
end Rows
end Go.Proofs.YtapldonpflgnfaaDoor
