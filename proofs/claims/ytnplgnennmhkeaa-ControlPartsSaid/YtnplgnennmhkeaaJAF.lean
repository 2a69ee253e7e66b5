import Derived.Test.YtnplgnennmhkeaaJAD
import Derived.Test.YtnplgnennmhkeaaJAE
section
/- The specification of package machine: the contract of Check, over this seat's translation (written by mk_refc.py). -/
namespace Go.Proofs.Ytnplgnennmhkeaa
set_option linter.unusedVariables false
set_option linter.unusedSimpArgs false
open Go.RowKit Go.Shelf

end Go.Proofs.Ytnplgnennmhkeaa
end
