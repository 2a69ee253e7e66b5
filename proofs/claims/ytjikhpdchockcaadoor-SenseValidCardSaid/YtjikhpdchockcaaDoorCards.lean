/-
  DERIVED. GIVEN WITH THE SEED: THE CARDS: each row of YtjikhpdchockcaaDoorRows.lean that lists a variable, with what it lists TIED to the program's text (the seventh form; the later family's looks); each row that meets fmt, with fmt's text TOLD by the authors' own Lean function (tested against real Go, not proved from fmt's source: count such statements apart). THE CARD IS WHAT COUNTS. Prove the row's statement (the work); the ties are given (YtjikhpdchockcaaDoorTie.lean); close each card by the builder's one call (the guide's Derived/Test/ToyasCard.lean, 'card_holds'). Laid BY PROGRAM, IN A SANDBOX (cutbox-door.mjs). By AI agents, Wed Nov 11 2026. No macro, syntax, notation, axiom, sorry.
-/
import Derived.Test.YtjikhpdchockcaaDoorRows
import GoSem.ClaimSeven
namespace Go.Proofs.YtjikhpdchockcaaDoor
namespace Rows

/-- THE TIED CARD OF 'shotdesklaw04.SenseValid'. -/
def senseValidCard : Claim7 := { stood := { row := senseValidRow, standIns := [], harness := (true, "75d8e49508e9c62e062e16ba8a1b860b2c28eb75acf4fa56c491156286cd2e1b"), looks := false }, kinds := [], alts := [], laidByText := true, laidKinds := [.data], laidTests := true, laidLooks := .later }
def SenseValidCardSaid : Prop := Claim7.holds Tryd.pinned (.plain (OpenSpec.ofChange senseValidSpec)) senseValidCard

/-- THE TIED CARD OF 'shotdesklaw04.SenseLinear'. -/
def senseLinearCard : Claim7 := { stood := { row := senseLinearRow, standIns := [], harness := (true, "75d8e49508e9c62e062e16ba8a1b860b2c28eb75acf4fa56c491156286cd2e1b"), looks := false }, kinds := [], alts := [], laidByText := true, laidKinds := [.data], laidTests := true, laidLooks := .later }
def SenseLinearCardSaid : Prop := Claim7.holds Tryd.pinned (.plain (OpenSpec.ofChange senseLinearSpec)) senseLinearCard

/-- THE TIED CARD OF 'shotdesklaw04.SenseWhere'. -/
def senseWhereCard : Claim7 := { stood := { row := senseWhereRow, standIns := [], harness := (true, "75d8e49508e9c62e062e16ba8a1b860b2c28eb75acf4fa56c491156286cd2e1b"), looks := false }, kinds := [], alts := [], laidByText := true, laidKinds := [.data], laidTests := true, laidLooks := .later }
def SenseWhereCardSaid : Prop := Claim7.holds Tryd.pinned (.plain (OpenSpec.ofChange senseWhereSpec)) senseWhereCard

/-- THE TIED CARD OF 'shotdesklaw04.SenseGains'. -/
def senseGainsCard : Claim7 := { stood := { row := senseGainsRow, standIns := [], harness := (true, "75d8e49508e9c62e062e16ba8a1b860b2c28eb75acf4fa56c491156286cd2e1b"), looks := false }, kinds := [], alts := [], laidByText := true, laidKinds := [.data], laidTests := true, laidLooks := .later }
def SenseGainsCardSaid : Prop := Claim7.holds Tryd.pinned (.plain (OpenSpec.ofChange senseGainsSpec)) senseGainsCard

/-- THE SECOND FORM's CARD OF 'shotdesklaw04.SenseValid'. -/
def senseValidUptoCard : Claim7 := { stood := { row := senseValidUptoRow, standIns := [], harness := (true, "75d8e49508e9c62e062e16ba8a1b860b2c28eb75acf4fa56c491156286cd2e1b"), looks := false }, kinds := [], alts := [], laidByText := true, laidKinds := [.data], laidTests := true, laidLooks := .later }
def SenseValidUptoCardSaid : Prop := Claim7.holds Tryd.pinned (.plain (OpenSpec.upto senseValidSpec)) senseValidUptoCard

/-- THE SECOND FORM's CARD OF 'shotdesklaw04.SenseLinear'. -/
def senseLinearUptoCard : Claim7 := { stood := { row := senseLinearUptoRow, standIns := [], harness := (true, "75d8e49508e9c62e062e16ba8a1b860b2c28eb75acf4fa56c491156286cd2e1b"), looks := false }, kinds := [], alts := [], laidByText := true, laidKinds := [.data], laidTests := true, laidLooks := .later }
def SenseLinearUptoCardSaid : Prop := Claim7.holds Tryd.pinned (.plain (OpenSpec.upto senseLinearSpec)) senseLinearUptoCard

/-- THE SECOND FORM's CARD OF 'shotdesklaw04.SenseWhere'. -/
def senseWhereUptoCard : Claim7 := { stood := { row := senseWhereUptoRow, standIns := [], harness := (true, "75d8e49508e9c62e062e16ba8a1b860b2c28eb75acf4fa56c491156286cd2e1b"), looks := false }, kinds := [], alts := [], laidByText := true, laidKinds := [.data], laidTests := true, laidLooks := .later }
def SenseWhereUptoCardSaid : Prop := Claim7.holds Tryd.pinned (.plain (OpenSpec.upto senseWhereSpec)) senseWhereUptoCard

/-- THE SECOND FORM's CARD OF 'shotdesklaw04.SenseGains'. -/
def senseGainsUptoCard : Claim7 := { stood := { row := senseGainsUptoRow, standIns := [], harness := (true, "75d8e49508e9c62e062e16ba8a1b860b2c28eb75acf4fa56c491156286cd2e1b"), looks := false }, kinds := [], alts := [], laidByText := true, laidKinds := [.data], laidTests := true, laidLooks := .later }
def SenseGainsUptoCardSaid : Prop := Claim7.holds Tryd.pinned (.plain (OpenSpec.upto senseGainsSpec)) senseGainsUptoCard
end Rows
end Go.Proofs.YtjikhpdchockcaaDoor
