import Derived.Test.YtjjajleiladbhaaGreatDoorLAM
section
/- Package machine: Exact, over this seat's translation (written by mk_fld.py). -/
namespace Go.Proofs.YtjjajleiladbhaaGreatDoor
set_option linter.unusedVariables false
set_option linter.unusedSimpArgs false
open Go.RowKit Go.Shelf

end Go.Proofs.YtjjajleiladbhaaGreatDoor
end
