import Derived.Test.YthggkidiidnaoaaGreatDoorLAR
import Derived.Test.YthggkidiidnaoaaGreatDoorLAU
import Derived.Test.YthggkidiidnaoaaGreatDoorLAY
import Derived.Test.YthggkidiidnaoaaGreatDoorLBA
namespace Go.Proofs.YthggkidiidnaoaaGreatDoor
set_option linter.unusedVariables false
set_option linter.unusedSimpArgs false
section
open Go.RowKit Go.Shelf
end
section
open Go.RowKit Go.Shelf
end
section
open Go.RowKit Go.Shelf
end
section
open Go.RowKit Go.Shelf
end
section
open Go.RowKit Go.Shelf
end
end Go.Proofs.YthggkidiidnaoaaGreatDoor
