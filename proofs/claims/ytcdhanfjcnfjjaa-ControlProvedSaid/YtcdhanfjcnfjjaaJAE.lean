import Derived.Test.YtcdhanfjcnfjjaaJAB
import Derived.Test.YtcdhanfjcnfjjaaJAC
import Derived.Test.YtcdhanfjcnfjjaaJAD
section
/- The specification of package machine: the contract of sensors, over this seat's translation (written by mk_ref.py). -/
namespace Go.Proofs.Ytcdhanfjcnfjjaa
set_option linter.unusedVariables false
set_option linter.unusedSimpArgs false
open Go.RowKit Go.Shelf

end Go.Proofs.Ytcdhanfjcnfjjaa
end
section
/- The specification of package machine: the contract of shells, over this seat's translation (written by mk_ref.py). -/
namespace Go.Proofs.Ytcdhanfjcnfjjaa
set_option linter.unusedVariables false
set_option linter.unusedSimpArgs false
open Go.RowKit Go.Shelf

end Go.Proofs.Ytcdhanfjcnfjjaa
end
section
/- The specification of package machine: the contract of limits, over this seat's translation (written by mk_ref.py). -/
namespace Go.Proofs.Ytcdhanfjcnfjjaa
set_option linter.unusedVariables false
set_option linter.unusedSimpArgs false
open Go.RowKit Go.Shelf

end Go.Proofs.Ytcdhanfjcnfjjaa
end
