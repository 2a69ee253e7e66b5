import Derived.Test.YtjjajleiladbhaaGreatDoorLAM
import Derived.Test.YtjjajleiladbhaaGreatDoorLAV
import Derived.Test.YtjjajleiladbhaaGreatDoorLAY
section
/- The specification of layer 2: flux, over this seat's translation (written by mk_flx.py). -/
namespace Go.Proofs.YtjjajleiladbhaaGreatDoor
set_option linter.unusedVariables false
set_option linter.unusedSimpArgs false
open Go.RowKit Go.Shelf

end Go.Proofs.YtjjajleiladbhaaGreatDoor
end
section
/- The specification of layer 2: field, over this seat's translation (written by mk_fie.py). -/
namespace Go.Proofs.YtjjajleiladbhaaGreatDoor
set_option linter.unusedVariables false
set_option linter.unusedSimpArgs false
open Go.RowKit Go.Shelf

end Go.Proofs.YtjjajleiladbhaaGreatDoor
end
section
/- The specification of layer 2: ValidPlasma, over this seat's translation (written by mk_pla.py). -/
namespace Go.Proofs.YtjjajleiladbhaaGreatDoor
set_option linter.unusedVariables false
set_option linter.unusedSimpArgs false
open Go.RowKit Go.Shelf

end Go.Proofs.YtjjajleiladbhaaGreatDoor
end
