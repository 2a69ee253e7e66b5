import Derived.Test.YtogcjgjhmlifgaaGreatOAA
import Derived.Deep.RegionHeld3
namespace Go.Proofs.YtogcjgjhmlifgaaGreat
set_option linter.unusedVariables false
set_option linter.unusedSimpArgs false
section
open Go.RowKit
def meetL (a b c d : Int) : Int × Int × Int := if (vld a b && vld c d) = true then (if max a c ≤ min b d then (max a c, min b d, 0) else (0, 0, 8)) else (0, 0, 1)
end
end Go.Proofs.YtogcjgjhmlifgaaGreat
