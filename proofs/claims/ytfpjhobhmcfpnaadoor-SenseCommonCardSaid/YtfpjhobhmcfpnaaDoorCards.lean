/-
  DERIVED. GIVEN WITH THE SEED: THE CARDS: each row of YtfpjhobhmcfpnaaDoorRows.lean that lists a variable, with what it lists TIED to the program's text (the seventh form; the later family's looks); each row that meets fmt, with fmt's text TOLD by the authors' own Lean function (tested against real Go, not proved from fmt's source: count such statements apart). THE CARD IS WHAT COUNTS. Prove the row's statement (the work); the ties are given (YtfpjhobhmcfpnaaDoorTie.lean); close each card by the builder's one call (the guide's Derived/Test/ToyasCard.lean, 'card_holds'). Laid BY PROGRAM, IN A SANDBOX (cutbox-door.mjs). By AI agents, Wed Nov 11 2026. No macro, syntax, notation, axiom, sorry.
-/
import Derived.Test.YtfpjhobhmcfpnaaDoorRows
import GoSem.ClaimSeven
namespace Go.Proofs.YtfpjhobhmcfpnaaDoor
namespace Rows

/-- THE TIED CARD OF 'shotdesklaw04.SenseAnswers'. -/
def senseAnswersCard : Claim7 := { stood := { row := senseAnswersRow, standIns := [], harness := (true, "2ce046d2eb21003ee714ab19c7ec6e97d822e11bebbbcbb362d8a20d916abb44"), looks := false }, kinds := [], alts := [], laidByText := true, laidKinds := [.data], laidTests := true, laidLooks := .later }
def SenseAnswersCardSaid : Prop := Claim7.holds Tryd.pinned (.plain (OpenSpec.ofChange senseAnswersSpec)) senseAnswersCard

/-- THE TIED CARD OF 'shotdesklaw04.SenseReads'. -/
def senseReadsCard : Claim7 := { stood := { row := senseReadsRow, standIns := [], harness := (true, "2ce046d2eb21003ee714ab19c7ec6e97d822e11bebbbcbb362d8a20d916abb44"), looks := false }, kinds := [], alts := [], laidByText := true, laidKinds := [.data], laidTests := true, laidLooks := .later }
def SenseReadsCardSaid : Prop := Claim7.holds Tryd.pinned (.plain (OpenSpec.ofChange senseReadsSpec)) senseReadsCard

/-- THE TIED CARD OF 'shotdesklaw04.SenseCommon'. -/
def senseCommonCard : Claim7 := { stood := { row := senseCommonRow, standIns := [], harness := (true, "2ce046d2eb21003ee714ab19c7ec6e97d822e11bebbbcbb362d8a20d916abb44"), looks := false }, kinds := [], alts := [], laidByText := true, laidKinds := [.data], laidTests := true, laidLooks := .later }
def SenseCommonCardSaid : Prop := Claim7.holds Tryd.pinned (.plain (OpenSpec.ofChange senseCommonSpec)) senseCommonCard

/-- THE SECOND FORM's CARD OF 'shotdesklaw04.SenseAnswers'. -/
def senseAnswersUptoCard : Claim7 := { stood := { row := senseAnswersUptoRow, standIns := [], harness := (true, "2ce046d2eb21003ee714ab19c7ec6e97d822e11bebbbcbb362d8a20d916abb44"), looks := false }, kinds := [], alts := [], laidByText := true, laidKinds := [.data], laidTests := true, laidLooks := .later }
def SenseAnswersUptoCardSaid : Prop := Claim7.holds Tryd.pinned (.plain (OpenSpec.upto senseAnswersSpec)) senseAnswersUptoCard

/-- THE SECOND FORM's CARD OF 'shotdesklaw04.SenseReads'. -/
def senseReadsUptoCard : Claim7 := { stood := { row := senseReadsUptoRow, standIns := [], harness := (true, "2ce046d2eb21003ee714ab19c7ec6e97d822e11bebbbcbb362d8a20d916abb44"), looks := false }, kinds := [], alts := [], laidByText := true, laidKinds := [.data], laidTests := true, laidLooks := .later }
def SenseReadsUptoCardSaid : Prop := Claim7.holds Tryd.pinned (.plain (OpenSpec.upto senseReadsSpec)) senseReadsUptoCard

/-- THE SECOND FORM's CARD OF 'shotdesklaw04.SenseCommon'. -/
def senseCommonUptoCard : Claim7 := { stood := { row := senseCommonUptoRow, standIns := [], harness := (true, "2ce046d2eb21003ee714ab19c7ec6e97d822e11bebbbcbb362d8a20d916abb44"), looks := false }, kinds := [], alts := [], laidByText := true, laidKinds := [.data], laidTests := true, laidLooks := .later }
def SenseCommonUptoCardSaid : Prop := Claim7.holds Tryd.pinned (.plain (OpenSpec.upto senseCommonSpec)) senseCommonUptoCard
end Rows
end Go.Proofs.YtfpjhobhmcfpnaaDoor
