/-
  DERIVED. GIVEN WITH THE SEED: THE CARDS: each row of YtapldonpflgnfaaGreatDoorRows.lean that lists a variable, with what it lists TIED to the program's text (the seventh form; the later family's looks); each row that meets fmt, with fmt's text TOLD by the authors' own Lean function (tested against real Go, not proved from fmt's source: count such statements apart). THE CARD IS WHAT COUNTS. Prove the row's statement (the work); the ties are given (YtapldonpflgnfaaGreatDoorTie.lean); close each card by the builder's one call (the guide's Derived/Test/ToyasCard.lean, 'card_holds'). Laid BY PROGRAM, IN A SANDBOX (cutbox-door.mjs). By AI agents, Wed Nov 11 2026. No macro, syntax, notation, axiom, sorry.
-/
import Derived.Test.YtapldonpflgnfaaGreatDoorRows
import GoSem.ClaimSeven
namespace Go.Proofs.YtapldonpflgnfaaGreatDoor
namespace Rows

/-- THE TIED CARD OF 'shotdesklaw04.SenseAllows'. -/
def senseAllowsCard : Claim7 := { stood := { row := senseAllowsRow, standIns := [], harness := (true, "20b372b8af037abb80a86507f80e307a739d1d5952078f622d653c1fcaa2a143"), looks := false }, kinds := [], alts := [], laidByText := true, laidKinds := [.data], laidTests := true, laidLooks := .later }
def SenseAllowsCardSaid : Prop := Claim7.holds Tryz.pinned (.plain (OpenSpec.ofChange senseAllowsSpec)) senseAllowsCard

/-- THE TIED CARD OF 'shotdesklaw04.SenseCandidates'. -/
def senseCandidatesCard : Claim7 := { stood := { row := senseCandidatesRow, standIns := [], harness := (true, "20b372b8af037abb80a86507f80e307a739d1d5952078f622d653c1fcaa2a143"), looks := false }, kinds := [], alts := [], laidByText := true, laidKinds := [.data], laidTests := true, laidLooks := .later }
def SenseCandidatesCardSaid : Prop := Claim7.holds Tryz.pinned (.plain (OpenSpec.ofChange senseCandidatesSpec)) senseCandidatesCard

/-- THE TIED CARD OF 'shotdesklaw04.SenseAccuses'. -/
def senseAccusesCard : Claim7 := { stood := { row := senseAccusesRow, standIns := [], harness := (true, "20b372b8af037abb80a86507f80e307a739d1d5952078f622d653c1fcaa2a143"), looks := false }, kinds := [], alts := [], laidByText := true, laidKinds := [.data], laidTests := true, laidLooks := .later }
def SenseAccusesCardSaid : Prop := Claim7.holds Tryz.pinned (.plain (OpenSpec.ofChange senseAccusesSpec)) senseAccusesCard

/-- THE TIED CARD OF 'shotdesklaw04.SenseLeast'. -/
def senseLeastCard : Claim7 := { stood := { row := senseLeastRow, standIns := [], harness := (true, "20b372b8af037abb80a86507f80e307a739d1d5952078f622d653c1fcaa2a143"), looks := false }, kinds := [], alts := [], laidByText := true, laidKinds := [.data], laidTests := true, laidLooks := .later }
def SenseLeastCardSaid : Prop := Claim7.holds Tryz.pinned (.plain (OpenSpec.ofChange senseLeastSpec)) senseLeastCard

/-- THE TIED CARD OF 'shotdesklaw04.SenseHonest'. -/
def senseHonestCard : Claim7 := { stood := { row := senseHonestRow, standIns := [], harness := (true, "20b372b8af037abb80a86507f80e307a739d1d5952078f622d653c1fcaa2a143"), looks := false }, kinds := [], alts := [], laidByText := true, laidKinds := [.data], laidTests := true, laidLooks := .later }
def SenseHonestCardSaid : Prop := Claim7.holds Tryz.pinned (.plain (OpenSpec.ofChange senseHonestSpec)) senseHonestCard

/-- THE SECOND FORM's CARD OF 'shotdesklaw04.SenseAllows'. -/
def senseAllowsUptoCard : Claim7 := { stood := { row := senseAllowsUptoRow, standIns := [], harness := (true, "20b372b8af037abb80a86507f80e307a739d1d5952078f622d653c1fcaa2a143"), looks := false }, kinds := [], alts := [], laidByText := true, laidKinds := [.data], laidTests := true, laidLooks := .later }
def SenseAllowsUptoCardSaid : Prop := Claim7.holds Tryz.pinned (.plain (OpenSpec.upto senseAllowsSpec)) senseAllowsUptoCard

/-- THE SECOND FORM's CARD OF 'shotdesklaw04.SenseCandidates'. -/
def senseCandidatesUptoCard : Claim7 := { stood := { row := senseCandidatesUptoRow, standIns := [], harness := (true, "20b372b8af037abb80a86507f80e307a739d1d5952078f622d653c1fcaa2a143"), looks := false }, kinds := [], alts := [], laidByText := true, laidKinds := [.data], laidTests := true, laidLooks := .later }
def SenseCandidatesUptoCardSaid : Prop := Claim7.holds Tryz.pinned (.plain (OpenSpec.upto senseCandidatesSpec)) senseCandidatesUptoCard

/-- THE SECOND FORM's CARD OF 'shotdesklaw04.SenseAccuses'. -/
def senseAccusesUptoCard : Claim7 := { stood := { row := senseAccusesUptoRow, standIns := [], harness := (true, "20b372b8af037abb80a86507f80e307a739d1d5952078f622d653c1fcaa2a143"), looks := false }, kinds := [], alts := [], laidByText := true, laidKinds := [.data], laidTests := true, laidLooks := .later }
def SenseAccusesUptoCardSaid : Prop := Claim7.holds Tryz.pinned (.plain (OpenSpec.upto senseAccusesSpec)) senseAccusesUptoCard

/-- THE SECOND FORM's CARD OF 'shotdesklaw04.SenseLeast'. -/
def senseLeastUptoCard : Claim7 := { stood := { row := senseLeastUptoRow, standIns := [], harness := (true, "20b372b8af037abb80a86507f80e307a739d1d5952078f622d653c1fcaa2a143"), looks := false }, kinds := [], alts := [], laidByText := true, laidKinds := [.data], laidTests := true, laidLooks := .later }
def SenseLeastUptoCardSaid : Prop := Claim7.holds Tryz.pinned (.plain (OpenSpec.upto senseLeastSpec)) senseLeastUptoCard

/-- THE SECOND FORM's CARD OF 'shotdesklaw04.SenseHonest'. -/
def senseHonestUptoCard : Claim7 := { stood := { row := senseHonestUptoRow, standIns := [], harness := (true, "20b372b8af037abb80a86507f80e307a739d1d5952078f622d653c1fcaa2a143"), looks := false }, kinds := [], alts := [], laidByText := true, laidKinds := [.data], laidTests := true, laidLooks := .later }
def SenseHonestUptoCardSaid : Prop := Claim7.holds Tryz.pinned (.plain (OpenSpec.upto senseHonestSpec)) senseHonestUptoCard
end Rows
end Go.Proofs.YtapldonpflgnfaaGreatDoor
