import Derived.Test.YtkhahbnagbjbiaaKAB
import Derived.Test.YtkhahbnagbjbiaaKAD
import Derived.Test.YtkhahbnagbjbiaaKAQ
section
/- The specification of package machine: the contract of shells, over this seat's translation (written by mk_ref.py). -/
namespace Go.Proofs.Ytkhahbnagbjbiaa
set_option linter.unusedVariables false
set_option linter.unusedSimpArgs false
open Go.RowKit Go.Shelf

end Go.Proofs.Ytkhahbnagbjbiaa
end
section
/- The specification of package machine: the contract of limits, over this seat's translation (written by mk_ref.py). -/
namespace Go.Proofs.Ytkhahbnagbjbiaa
set_option linter.unusedVariables false
set_option linter.unusedSimpArgs false
open Go.RowKit Go.Shelf

end Go.Proofs.Ytkhahbnagbjbiaa
end
