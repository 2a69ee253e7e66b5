import Derived.Test.YthggkidiidnaoaaGreatDoorLAG
import Derived.Test.YthggkidiidnaoaaGreatDoorLAN
namespace Go.Proofs.YthggkidiidnaoaaGreatDoor
set_option linter.unusedVariables false
set_option linter.unusedSimpArgs false
section
open Go.RowKit Go.Shelf
end
end Go.Proofs.YthggkidiidnaoaaGreatDoor
