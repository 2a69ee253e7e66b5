import Derived.Test.YtcdhanfjcnfjjaaJAD
import Derived.Test.YtcdhanfjcnfjjaaJAE
section
/- The specification of package machine: the contract of Check, over this seat's translation (written by mk_refc.py). -/
namespace Go.Proofs.Ytcdhanfjcnfjjaa
set_option linter.unusedVariables false
set_option linter.unusedSimpArgs false
open Go.RowKit Go.Shelf

end Go.Proofs.Ytcdhanfjcnfjjaa
end
