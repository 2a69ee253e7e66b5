import Derived.Test.YthggkidiidnaoaaGreatDoorMBH
namespace Go.Proofs.YthggkidiidnaoaaGreatDoor
set_option linter.unusedVariables false
set_option linter.unusedSimpArgs false
section
open Go.RowKit
end
section
open Go.RowKit
end
end Go.Proofs.YthggkidiidnaoaaGreatDoor
