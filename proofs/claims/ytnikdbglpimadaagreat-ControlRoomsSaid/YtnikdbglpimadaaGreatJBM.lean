import Derived.Test.YtnikdbglpimadaaGreatJAS
import Derived.Test.YtnikdbglpimadaaGreatJBL
section
/- The specification of layers 6 and 7: Spans, ValidShape, Errors, over this seat's translation (written by mk_ctr.py). -/
namespace Go.Proofs.YtnikdbglpimadaaGreat
set_option linter.unusedVariables false
set_option linter.unusedSimpArgs false
open Go.RowKit Go.Shelf

end Go.Proofs.YtnikdbglpimadaaGreat
end
