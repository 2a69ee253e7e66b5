import Derived.Test.YtfpjhobhmcfpnaaDoorJAE
import Derived.Test.YtfpjhobhmcfpnaaDoorJAH
section
/- The specification of package machine: the contract of limits, over this seat's translation (written by mk_ref.py). -/
namespace Go.Proofs.YtfpjhobhmcfpnaaDoor
set_option linter.unusedVariables false
set_option linter.unusedSimpArgs false
open Go.RowKit Go.Shelf

end Go.Proofs.YtfpjhobhmcfpnaaDoor
end
