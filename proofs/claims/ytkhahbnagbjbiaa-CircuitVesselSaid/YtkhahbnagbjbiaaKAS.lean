import Derived.Test.YtkhahbnagbjbiaaKAE
import Derived.Test.YtkhahbnagbjbiaaKAQ
import Derived.Test.YtkhahbnagbjbiaaKAR
section
/- The specification of package machine: the contract of Check, over this seat's translation (written by mk_refc.py). -/
namespace Go.Proofs.Ytkhahbnagbjbiaa
set_option linter.unusedVariables false
set_option linter.unusedSimpArgs false
open Go.RowKit Go.Shelf

end Go.Proofs.Ytkhahbnagbjbiaa
end
