/-
  DERIVED. GIVEN WITH THE SEED: THE CARDS: each row of YtohicokoegodjaaDoorRows.lean that lists a variable, with what it lists TIED to the program's text (the seventh form; the later family's looks); each row that meets fmt, with fmt's text TOLD by the authors' own Lean function (tested against real Go, not proved from fmt's source: count such statements apart). THE CARD IS WHAT COUNTS. Prove the row's statement (the work); the ties are given (YtohicokoegodjaaDoorTie.lean); close each card by the builder's one call (the guide's Derived/Test/ToyasCard.lean, 'card_holds'). Laid BY PROGRAM, IN A SANDBOX (cutbox-door.mjs). By AI agents, Wed Nov 11 2026. No macro, syntax, notation, axiom, sorry.
-/
import Derived.Test.YtohicokoegodjaaDoorRows
import GoSem.ClaimSeven
namespace Go.Proofs.YtohicokoegodjaaDoor
namespace Rows

/-- THE TIED CARD OF 'shotdesklaw01.SpanTruths'. -/
def spanTruthsCard : Claim7 := { stood := { row := spanTruthsRow, standIns := [], harness := (true, "473489d97bf962c3d76ed21866e54bafd235c2eabf1ab39e84ad823c6e39f9d7"), looks := true }, kinds := [], alts := [], laidByText := true, laidKinds := [.data, .data, .data], laidTests := true, laidLooks := .later }
def SpanTruthsCardSaid : Prop := Claim7.holds Tryd.pinned (.plain (OpenSpec.ofChange spanTruthsSpec)) spanTruthsCard

/-- THE TIED CARD OF 'shotdesklaw01.SpanDual'. -/
def spanDualCard : Claim7 := { stood := { row := spanDualRow, standIns := [], harness := (true, "473489d97bf962c3d76ed21866e54bafd235c2eabf1ab39e84ad823c6e39f9d7"), looks := true }, kinds := [], alts := [], laidByText := true, laidKinds := [.data, .data, .data], laidTests := true, laidLooks := .later }
def SpanDualCardSaid : Prop := Claim7.holds Tryd.pinned (.plain (OpenSpec.ofChange spanDualSpec)) spanDualCard

/-- THE TIED CARD OF 'shotdesklaw01.SpanReads'. -/
def spanReadsCard : Claim7 := { stood := { row := spanReadsRow, standIns := [], harness := (true, "473489d97bf962c3d76ed21866e54bafd235c2eabf1ab39e84ad823c6e39f9d7"), looks := true }, kinds := [], alts := [], laidByText := true, laidKinds := [.data, .data, .data, .sentinel, .sentinel], laidTests := true, laidLooks := .later }
def SpanReadsCardSaid : Prop := Claim7.holds Tryd.pinned (.plain (OpenSpec.ofChange spanReadsSpec)) spanReadsCard

/-- THE SECOND FORM's CARD OF 'shotdesklaw01.SpanTruths'. -/
def spanTruthsUptoCard : Claim7 := { stood := { row := spanTruthsUptoRow, standIns := [], harness := (true, "473489d97bf962c3d76ed21866e54bafd235c2eabf1ab39e84ad823c6e39f9d7"), looks := true }, kinds := [], alts := [], laidByText := true, laidKinds := [.data, .data, .data], laidTests := true, laidLooks := .later }
def SpanTruthsUptoCardSaid : Prop := Claim7.holds Tryd.pinned (.plain (OpenSpec.upto spanTruthsSpec)) spanTruthsUptoCard

/-- THE SECOND FORM's CARD OF 'shotdesklaw01.SpanDual'. -/
def spanDualUptoCard : Claim7 := { stood := { row := spanDualUptoRow, standIns := [], harness := (true, "473489d97bf962c3d76ed21866e54bafd235c2eabf1ab39e84ad823c6e39f9d7"), looks := true }, kinds := [], alts := [], laidByText := true, laidKinds := [.data, .data, .data], laidTests := true, laidLooks := .later }
def SpanDualUptoCardSaid : Prop := Claim7.holds Tryd.pinned (.plain (OpenSpec.upto spanDualSpec)) spanDualUptoCard

/-- THE SECOND FORM's CARD OF 'shotdesklaw01.SpanReads'. -/
def spanReadsUptoCard : Claim7 := { stood := { row := spanReadsUptoRow, standIns := [], harness := (true, "473489d97bf962c3d76ed21866e54bafd235c2eabf1ab39e84ad823c6e39f9d7"), looks := true }, kinds := [], alts := [], laidByText := true, laidKinds := [.data, .data, .data, .sentinel, .sentinel], laidTests := true, laidLooks := .later }
def SpanReadsUptoCardSaid : Prop := Claim7.holds Tryd.pinned (.plain (OpenSpec.upto spanReadsSpec)) spanReadsUptoCard
end Rows
end Go.Proofs.YtohicokoegodjaaDoor
