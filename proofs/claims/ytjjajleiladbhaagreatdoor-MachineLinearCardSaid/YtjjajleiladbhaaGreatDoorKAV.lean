import Derived.Test.YtjjajleiladbhaaGreatDoorKAE
import Derived.Test.YtjjajleiladbhaaGreatDoorKAU
section
/- The cells of a machine: Cells, at, Cell of the specification, and Cell of package machine, over this seat's translation (written by mk_refd.py). -/
namespace Go.Proofs.YtjjajleiladbhaaGreatDoor
set_option linter.unusedVariables false
set_option linter.unusedSimpArgs false
open Go.RowKit Go.Shelf

end Go.Proofs.YtjjajleiladbhaaGreatDoor
end
