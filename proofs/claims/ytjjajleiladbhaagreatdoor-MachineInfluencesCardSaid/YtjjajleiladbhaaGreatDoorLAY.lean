import Derived.Test.YtjjajleiladbhaaGreatDoorLAM
import Derived.Test.YtjjajleiladbhaaGreatDoorLAW
import Derived.Test.YtjjajleiladbhaaGreatDoorLAX
import Derived.Deep.RegionHeld3
import Derived.Deep.AppendLies
section
/- The specification of layer 2: From, over this seat's translation (written by mk_from.py). -/
namespace Go.Proofs.YtjjajleiladbhaaGreatDoor
set_option linter.unusedVariables false
set_option linter.unusedSimpArgs false
open Go.RowKit Go.Shelf

end Go.Proofs.YtjjajleiladbhaaGreatDoor
end
section
/- The specification of layer 2: All, over this seat's translation (written by mk_all.py). -/
namespace Go.Proofs.YtjjajleiladbhaaGreatDoor
set_option linter.unusedVariables false
set_option linter.unusedSimpArgs false
open Go.RowKit Go.Shelf

end Go.Proofs.YtjjajleiladbhaaGreatDoor
end
