import Derived.Test.YtnplgnennmhkeaaJAB
import Derived.Test.YtnplgnennmhkeaaJAC
import Derived.Test.YtnplgnennmhkeaaJAD
section
/- The specification of package machine: the contract of sensors, over this seat's translation (written by mk_ref.py). -/
namespace Go.Proofs.Ytnplgnennmhkeaa
set_option linter.unusedVariables false
set_option linter.unusedSimpArgs false
open Go.RowKit Go.Shelf

end Go.Proofs.Ytnplgnennmhkeaa
end
section
/- The specification of package machine: the contract of shells, over this seat's translation (written by mk_ref.py). -/
namespace Go.Proofs.Ytnplgnennmhkeaa
set_option linter.unusedVariables false
set_option linter.unusedSimpArgs false
open Go.RowKit Go.Shelf

end Go.Proofs.Ytnplgnennmhkeaa
end
section
/- The specification of package machine: the contract of limits, over this seat's translation (written by mk_ref.py). -/
namespace Go.Proofs.Ytnplgnennmhkeaa
set_option linter.unusedVariables false
set_option linter.unusedSimpArgs false
open Go.RowKit Go.Shelf

end Go.Proofs.Ytnplgnennmhkeaa
end
