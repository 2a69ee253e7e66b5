/-
  DERIVED. GIVEN WITH THE SEED: THE CARDS: each row of YtpnoinkiblnplaaDoorRows.lean that lists a variable, with what it lists TIED to the program's text (the seventh form; the later family's looks); each row that meets fmt, with fmt's text TOLD by the authors' own Lean function (tested against real Go, not proved from fmt's source: count such statements apart). THE CARD IS WHAT COUNTS. Prove the row's statement (the work); the ties are given (YtpnoinkiblnplaaDoorTie.lean); close each card by the builder's one call (the guide's Derived/Test/ToyasCard.lean, 'card_holds'). Laid BY PROGRAM, IN A SANDBOX (cutbox-door.mjs). By AI agents, Wed Nov 11 2026. No macro, syntax, notation, axiom, sorry.
-/
import Derived.Test.YtpnoinkiblnplaaDoorRows
import GoSem.ClaimSeven
namespace Go.Proofs.YtpnoinkiblnplaaDoor
namespace Rows

/-- THE TIED CARD OF 'shotdesklaw04.SenseAnswers'. -/
def senseAnswersCard : Claim7 := { stood := { row := senseAnswersRow, standIns := [], harness := (true, "166da3fa6af7d8290f7d2620b172aa4a7ac4f38aa9da871625315e33560545bf"), looks := false }, kinds := [], alts := [], laidByText := true, laidKinds := [.data], laidTests := true, laidLooks := .later }
def SenseAnswersCardSaid : Prop := Claim7.holds Tryd.pinned (.plain (OpenSpec.ofChange senseAnswersSpec)) senseAnswersCard

/-- THE TIED CARD OF 'shotdesklaw04.SenseLinear'. -/
def senseLinearCard : Claim7 := { stood := { row := senseLinearRow, standIns := [], harness := (true, "166da3fa6af7d8290f7d2620b172aa4a7ac4f38aa9da871625315e33560545bf"), looks := false }, kinds := [], alts := [], laidByText := true, laidKinds := [.data], laidTests := true, laidLooks := .later }
def SenseLinearCardSaid : Prop := Claim7.holds Tryd.pinned (.plain (OpenSpec.ofChange senseLinearSpec)) senseLinearCard

/-- THE TIED CARD OF 'shotdesklaw04.SenseWhere'. -/
def senseWhereCard : Claim7 := { stood := { row := senseWhereRow, standIns := [], harness := (true, "166da3fa6af7d8290f7d2620b172aa4a7ac4f38aa9da871625315e33560545bf"), looks := false }, kinds := [], alts := [], laidByText := true, laidKinds := [.data], laidTests := true, laidLooks := .later }
def SenseWhereCardSaid : Prop := Claim7.holds Tryd.pinned (.plain (OpenSpec.ofChange senseWhereSpec)) senseWhereCard

/-- THE SECOND FORM's CARD OF 'shotdesklaw04.SenseAnswers'. -/
def senseAnswersUptoCard : Claim7 := { stood := { row := senseAnswersUptoRow, standIns := [], harness := (true, "166da3fa6af7d8290f7d2620b172aa4a7ac4f38aa9da871625315e33560545bf"), looks := false }, kinds := [], alts := [], laidByText := true, laidKinds := [.data], laidTests := true, laidLooks := .later }
def SenseAnswersUptoCardSaid : Prop := Claim7.holds Tryd.pinned (.plain (OpenSpec.upto senseAnswersSpec)) senseAnswersUptoCard

/-- THE SECOND FORM's CARD OF 'shotdesklaw04.SenseLinear'. -/
def senseLinearUptoCard : Claim7 := { stood := { row := senseLinearUptoRow, standIns := [], harness := (true, "166da3fa6af7d8290f7d2620b172aa4a7ac4f38aa9da871625315e33560545bf"), looks := false }, kinds := [], alts := [], laidByText := true, laidKinds := [.data], laidTests := true, laidLooks := .later }
def SenseLinearUptoCardSaid : Prop := Claim7.holds Tryd.pinned (.plain (OpenSpec.upto senseLinearSpec)) senseLinearUptoCard

/-- THE SECOND FORM's CARD OF 'shotdesklaw04.SenseWhere'. -/
def senseWhereUptoCard : Claim7 := { stood := { row := senseWhereUptoRow, standIns := [], harness := (true, "166da3fa6af7d8290f7d2620b172aa4a7ac4f38aa9da871625315e33560545bf"), looks := false }, kinds := [], alts := [], laidByText := true, laidKinds := [.data], laidTests := true, laidLooks := .later }
def SenseWhereUptoCardSaid : Prop := Claim7.holds Tryd.pinned (.plain (OpenSpec.upto senseWhereSpec)) senseWhereUptoCard
end Rows
end Go.Proofs.YtpnoinkiblnplaaDoor
