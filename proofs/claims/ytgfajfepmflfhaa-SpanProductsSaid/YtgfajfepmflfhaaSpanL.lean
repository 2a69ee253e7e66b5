/- Package span: contracts of Less and Lies, over this seat's translation. -/
import Derived.Test.YtgfajfepmflfhaaSpanB
namespace Go.Proofs.Ytgfajfepmflfhaa
set_option linter.unusedVariables false
set_option linter.unusedSimpArgs false
open Go.RowKit

def lessL (a b c d : Int) : Int := if (vld a b && vld c d) = true then (if b < c then 1 else if d ≤ a then 0 else 2) else 2
def liesL (a b c d : Int) : Int := if (vld a b && vld c d) = true then (if insd a b c d = true then 1 else if b < c ∨ d < a then 0 else 2) else 2

theorem insd_iff {a b c d : Int} (h : vld a b = true) (h2 : vld c d = true) : insd a b c d = true ↔ c ≤ a ∧ b ≤ d := by
  have := vld_iff.1 h
  simp [insd, cont, h, h2]
  omega

end Go.Proofs.Ytgfajfepmflfhaa
