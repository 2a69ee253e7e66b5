import Derived.Test.YthggkidiidnaoaaGreatDoorMBF
import Derived.WalkSpells
import Derived.WalkLawsBesides
namespace Go.Proofs.YthggkidiidnaoaaGreatDoor
set_option linter.unusedVariables false
set_option linter.unusedSimpArgs false
section
open Go.RowKit
end
section
open Go.RowKit
end
section
open Go.RowKit
end
section
open Go.RowKit
end
end Go.Proofs.YthggkidiidnaoaaGreatDoor
