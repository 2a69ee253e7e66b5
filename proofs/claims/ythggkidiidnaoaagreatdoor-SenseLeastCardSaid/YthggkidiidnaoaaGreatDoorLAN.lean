import Derived.Test.YthggkidiidnaoaaGreatDoorLAE
import Derived.Test.YthggkidiidnaoaaGreatDoorLAF
import Derived.Test.YthggkidiidnaoaaGreatDoorLAH
import Derived.Handy
namespace Go.Proofs.YthggkidiidnaoaaGreatDoor
set_option linter.unusedVariables false
set_option linter.unusedSimpArgs false
section
open Go.RowKit
end
section
open Go.RowKit
end
section
open Go.RowKit Go.Shelf
end
section
open Go.RowKit Go.Shelf
end
section
open Go.RowKit Go.Shelf
end
section
open Go.RowKit Go.Shelf
end
end Go.Proofs.YthggkidiidnaoaaGreatDoor
