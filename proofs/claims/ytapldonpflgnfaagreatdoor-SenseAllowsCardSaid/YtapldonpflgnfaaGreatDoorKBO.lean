import Derived.Test.YtapldonpflgnfaaGreatDoorKAN
import Derived.Test.YtapldonpflgnfaaGreatDoorKAP
import Derived.Test.YtapldonpflgnfaaGreatDoorKBM
import Derived.Deep.RegionLaw
import Derived.Handy
import Derived.Outline
namespace Go.Proofs.YtapldonpflgnfaaGreatDoor
set_option linter.unusedVariables false
set_option linter.unusedSimpArgs false
section
open Go.RowKit Go.Shelf
end
end Go.Proofs.YtapldonpflgnfaaGreatDoor
