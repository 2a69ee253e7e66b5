/-
  DERIVED. GIVEN WITH THE SEED: THE CARDS: each row of YthggkidiidnaoaaGreatDoorRows.lean that lists a variable, with what it lists TIED to the program's text (the seventh form; the later family's looks); each row that meets fmt, with fmt's text TOLD by the authors' own Lean function (tested against real Go, not proved from fmt's source: count such statements apart). THE CARD IS WHAT COUNTS. Prove the row's statement (the work); the ties are given (YthggkidiidnaoaaGreatDoorTie.lean); close each card by the builder's one call (the guide's Derived/Test/ToyasCard.lean, 'card_holds'). Laid BY PROGRAM, IN A SANDBOX (cutbox-door.mjs). By AI agents, Wed Nov 11 2026. No macro, syntax, notation, axiom, sorry.
-/
import Derived.Test.YthggkidiidnaoaaGreatDoorRows
import GoSem.ClaimSeven
namespace Go.Proofs.YthggkidiidnaoaaGreatDoor
namespace Rows

/-- THE TIED CARD OF 'shotdesklaw04.SenseAccuses'. -/
def senseAccusesCard : Claim7 := { stood := { row := senseAccusesRow, standIns := [], harness := (true, "6791eeee0dbf0b6291899c4664ab8d6874cc0803dc25a679f056d74cc83723ee"), looks := false }, kinds := [], alts := [], laidByText := true, laidKinds := [.data], laidTests := true, laidLooks := .later }
def SenseAccusesCardSaid : Prop := Claim7.holds Tryz.pinned (.plain (OpenSpec.ofChange senseAccusesSpec)) senseAccusesCard

/-- THE TIED CARD OF 'shotdesklaw04.SenseLeast'. -/
def senseLeastCard : Claim7 := { stood := { row := senseLeastRow, standIns := [], harness := (true, "6791eeee0dbf0b6291899c4664ab8d6874cc0803dc25a679f056d74cc83723ee"), looks := false }, kinds := [], alts := [], laidByText := true, laidKinds := [.data], laidTests := true, laidLooks := .later }
def SenseLeastCardSaid : Prop := Claim7.holds Tryz.pinned (.plain (OpenSpec.ofChange senseLeastSpec)) senseLeastCard

/-- THE TIED CARD OF 'shotdesklaw04.SenseHonest'. -/
def senseHonestCard : Claim7 := { stood := { row := senseHonestRow, standIns := [], harness := (true, "6791eeee0dbf0b6291899c4664ab8d6874cc0803dc25a679f056d74cc83723ee"), looks := false }, kinds := [], alts := [], laidByText := true, laidKinds := [.data], laidTests := true, laidLooks := .later }
def SenseHonestCardSaid : Prop := Claim7.holds Tryz.pinned (.plain (OpenSpec.ofChange senseHonestSpec)) senseHonestCard

/-- THE SECOND FORM's CARD OF 'shotdesklaw04.SenseAccuses'. -/
def senseAccusesUptoCard : Claim7 := { stood := { row := senseAccusesUptoRow, standIns := [], harness := (true, "6791eeee0dbf0b6291899c4664ab8d6874cc0803dc25a679f056d74cc83723ee"), looks := false }, kinds := [], alts := [], laidByText := true, laidKinds := [.data], laidTests := true, laidLooks := .later }
def SenseAccusesUptoCardSaid : Prop := Claim7.holds Tryz.pinned (.plain (OpenSpec.upto senseAccusesSpec)) senseAccusesUptoCard

/-- THE SECOND FORM's CARD OF 'shotdesklaw04.SenseLeast'. -/
def senseLeastUptoCard : Claim7 := { stood := { row := senseLeastUptoRow, standIns := [], harness := (true, "6791eeee0dbf0b6291899c4664ab8d6874cc0803dc25a679f056d74cc83723ee"), looks := false }, kinds := [], alts := [], laidByText := true, laidKinds := [.data], laidTests := true, laidLooks := .later }
def SenseLeastUptoCardSaid : Prop := Claim7.holds Tryz.pinned (.plain (OpenSpec.upto senseLeastSpec)) senseLeastUptoCard

/-- THE SECOND FORM's CARD OF 'shotdesklaw04.SenseHonest'. -/
def senseHonestUptoCard : Claim7 := { stood := { row := senseHonestUptoRow, standIns := [], harness := (true, "6791eeee0dbf0b6291899c4664ab8d6874cc0803dc25a679f056d74cc83723ee"), looks := false }, kinds := [], alts := [], laidByText := true, laidKinds := [.data], laidTests := true, laidLooks := .later }
def SenseHonestUptoCardSaid : Prop := Claim7.holds Tryz.pinned (.plain (OpenSpec.upto senseHonestSpec)) senseHonestUptoCard
end Rows
end Go.Proofs.YthggkidiidnaoaaGreatDoor
