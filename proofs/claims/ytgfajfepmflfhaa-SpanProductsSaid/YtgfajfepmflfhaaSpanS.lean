/- Package span: contracts of Add, Sub, Neg and Square, over this seat's translation. -/
import Derived.Test.YtgfajfepmflfhaaSpanD
namespace Go.Proofs.Ytgfajfepmflfhaa
set_option linter.unusedVariables false
set_option linter.unusedSimpArgs false
open Go.RowKit Go.Shelf

def addL (a b c d : Int) : Int × Int × Int := if (vld a b && vld c d) = true then makeL (a + c) (b + d) else (0, 0, 1)
def subL (a b c d : Int) : Int × Int × Int := if (vld a b && vld c d) = true then makeL (a - d) (b - c) else (0, 0, 1)
def squareL (a b : Int) : Int × Int × Int := if vld a b = true then makeL (provedL a b * provedL a b) (greatestL a b * greatestL a b) else (0, 0, 1)

end Go.Proofs.Ytgfajfepmflfhaa
