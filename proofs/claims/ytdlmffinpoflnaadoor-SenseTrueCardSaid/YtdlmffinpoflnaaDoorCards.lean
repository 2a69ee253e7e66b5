/-
  DERIVED. GIVEN WITH THE SEED: THE CARDS: each row of YtdlmffinpoflnaaDoorRows.lean that lists a variable, with what it lists TIED to the program's text (the seventh form; the later family's looks); each row that meets fmt, with fmt's text TOLD by the authors' own Lean function (tested against real Go, not proved from fmt's source: count such statements apart). THE CARD IS WHAT COUNTS. Prove the row's statement (the work); the ties are given (YtdlmffinpoflnaaDoorTie.lean); close each card by the builder's one call (the guide's Derived/Test/ToyasCard.lean, 'card_holds'). Laid BY PROGRAM, IN A SANDBOX (cutbox-door.mjs). By AI agents, Wed Nov 11 2026. No macro, syntax, notation, axiom, sorry.
-/
import Derived.Test.YtdlmffinpoflnaaDoorRows
import GoSem.ClaimSeven
namespace Go.Proofs.YtdlmffinpoflnaaDoor
namespace Rows

/-- THE TIED CARD OF 'shotdesklaw04.SenseValid'. -/
def senseValidCard : Claim7 := { stood := { row := senseValidRow, standIns := [], harness := (true, "fb0029373c6e358dca3bc51f5f85019f2b159d420f8729d97ce8d8828aa645d9"), looks := false }, kinds := [], alts := [], laidByText := true, laidKinds := [.data], laidTests := true, laidLooks := .later }
def SenseValidCardSaid : Prop := Claim7.holds Tryd.pinned (.plain (OpenSpec.ofChange senseValidSpec)) senseValidCard

/-- THE TIED CARD OF 'shotdesklaw04.SenseLinear'. -/
def senseLinearCard : Claim7 := { stood := { row := senseLinearRow, standIns := [], harness := (true, "fb0029373c6e358dca3bc51f5f85019f2b159d420f8729d97ce8d8828aa645d9"), looks := false }, kinds := [], alts := [], laidByText := true, laidKinds := [.data], laidTests := true, laidLooks := .later }
def SenseLinearCardSaid : Prop := Claim7.holds Tryd.pinned (.plain (OpenSpec.ofChange senseLinearSpec)) senseLinearCard

/-- THE TIED CARD OF 'shotdesklaw04.SenseGains'. -/
def senseGainsCard : Claim7 := { stood := { row := senseGainsRow, standIns := [], harness := (true, "fb0029373c6e358dca3bc51f5f85019f2b159d420f8729d97ce8d8828aa645d9"), looks := false }, kinds := [], alts := [], laidByText := true, laidKinds := [.data], laidTests := true, laidLooks := .later }
def SenseGainsCardSaid : Prop := Claim7.holds Tryd.pinned (.plain (OpenSpec.ofChange senseGainsSpec)) senseGainsCard

/-- THE TIED CARD OF 'shotdesklaw04.SenseTrue'. -/
def senseTrueCard : Claim7 := { stood := { row := senseTrueRow, standIns := [], harness := (true, "fb0029373c6e358dca3bc51f5f85019f2b159d420f8729d97ce8d8828aa645d9"), looks := false }, kinds := [], alts := [], laidByText := true, laidKinds := [.data], laidTests := true, laidLooks := .later }
def SenseTrueCardSaid : Prop := Claim7.holds Tryd.pinned (.plain (OpenSpec.ofChange senseTrueSpec)) senseTrueCard

/-- THE SECOND FORM's CARD OF 'shotdesklaw04.SenseValid'. -/
def senseValidUptoCard : Claim7 := { stood := { row := senseValidUptoRow, standIns := [], harness := (true, "fb0029373c6e358dca3bc51f5f85019f2b159d420f8729d97ce8d8828aa645d9"), looks := false }, kinds := [], alts := [], laidByText := true, laidKinds := [.data], laidTests := true, laidLooks := .later }
def SenseValidUptoCardSaid : Prop := Claim7.holds Tryd.pinned (.plain (OpenSpec.upto senseValidSpec)) senseValidUptoCard

/-- THE SECOND FORM's CARD OF 'shotdesklaw04.SenseLinear'. -/
def senseLinearUptoCard : Claim7 := { stood := { row := senseLinearUptoRow, standIns := [], harness := (true, "fb0029373c6e358dca3bc51f5f85019f2b159d420f8729d97ce8d8828aa645d9"), looks := false }, kinds := [], alts := [], laidByText := true, laidKinds := [.data], laidTests := true, laidLooks := .later }
def SenseLinearUptoCardSaid : Prop := Claim7.holds Tryd.pinned (.plain (OpenSpec.upto senseLinearSpec)) senseLinearUptoCard

/-- THE SECOND FORM's CARD OF 'shotdesklaw04.SenseGains'. -/
def senseGainsUptoCard : Claim7 := { stood := { row := senseGainsUptoRow, standIns := [], harness := (true, "fb0029373c6e358dca3bc51f5f85019f2b159d420f8729d97ce8d8828aa645d9"), looks := false }, kinds := [], alts := [], laidByText := true, laidKinds := [.data], laidTests := true, laidLooks := .later }
def SenseGainsUptoCardSaid : Prop := Claim7.holds Tryd.pinned (.plain (OpenSpec.upto senseGainsSpec)) senseGainsUptoCard

/-- THE SECOND FORM's CARD OF 'shotdesklaw04.SenseTrue'. -/
def senseTrueUptoCard : Claim7 := { stood := { row := senseTrueUptoRow, standIns := [], harness := (true, "fb0029373c6e358dca3bc51f5f85019f2b159d420f8729d97ce8d8828aa645d9"), looks := false }, kinds := [], alts := [], laidByText := true, laidKinds := [.data], laidTests := true, laidLooks := .later }
def SenseTrueUptoCardSaid : Prop := Claim7.holds Tryd.pinned (.plain (OpenSpec.upto senseTrueSpec)) senseTrueUptoCard
end Rows
end Go.Proofs.YtdlmffinpoflnaaDoor
