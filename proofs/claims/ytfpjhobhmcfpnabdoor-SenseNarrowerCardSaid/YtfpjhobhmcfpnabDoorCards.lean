/-
  DERIVED. GIVEN WITH THE SEED: THE CARDS: each row of YtfpjhobhmcfpnabDoorRows.lean that lists a variable, with what it lists TIED to the program's text (the seventh form; the later family's looks); each row that meets fmt, with fmt's text TOLD by the authors' own Lean function (tested against real Go, not proved from fmt's source: count such statements apart). THE CARD IS WHAT COUNTS. Prove the row's statement (the work); the ties are given (YtfpjhobhmcfpnabDoorTie.lean); close each card by the builder's one call (the guide's Derived/Test/ToyasCard.lean, 'card_holds'). Laid BY PROGRAM, IN A SANDBOX (cutbox-door.mjs). By AI agents, Wed Nov 11 2026. No macro, syntax, notation, axiom, sorry.
-/
import Derived.Test.YtfpjhobhmcfpnabDoorRows
import GoSem.ClaimSeven
namespace Go.Proofs.YtfpjhobhmcfpnabDoor
namespace Rows

/-- THE TIED CARD OF 'shotdesklaw04.SenseNarrower'. -/
def senseNarrowerCard : Claim7 := { stood := { row := senseNarrowerRow, standIns := [], harness := (true, "6854f813294be7a2a757bf5771be026bbc8e36a564590aba912cf2b8eb9fe379"), looks := false }, kinds := [], alts := [], laidByText := true, laidKinds := [.data], laidTests := true, laidLooks := .later }
def SenseNarrowerCardSaid : Prop := Claim7.holds Tryd.pinned (.plain (OpenSpec.ofChange senseNarrowerSpec)) senseNarrowerCard

/-- THE SECOND FORM's CARD OF 'shotdesklaw04.SenseNarrower'. -/
def senseNarrowerUptoCard : Claim7 := { stood := { row := senseNarrowerUptoRow, standIns := [], harness := (true, "6854f813294be7a2a757bf5771be026bbc8e36a564590aba912cf2b8eb9fe379"), looks := false }, kinds := [], alts := [], laidByText := true, laidKinds := [.data], laidTests := true, laidLooks := .later }
def SenseNarrowerUptoCardSaid : Prop := Claim7.holds Tryd.pinned (.plain (OpenSpec.upto senseNarrowerSpec)) senseNarrowerUptoCard
end Rows
end Go.Proofs.YtfpjhobhmcfpnabDoor
