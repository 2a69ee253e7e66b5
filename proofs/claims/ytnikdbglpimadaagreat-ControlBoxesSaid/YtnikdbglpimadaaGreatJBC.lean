import Derived.Test.YtnikdbglpimadaaGreatJBB
import Derived.Test.YtnikdbglpimadaaGreatRows
import Derived.KernelRfl
import Derived.Laws.StructEq
section
/- Package circuit: a tick, its parts walked in place, over this seat's translation (written by ax_ci5.py). -/
namespace Go.Proofs.YtnikdbglpimadaaGreat
set_option linter.unusedVariables false
set_option linter.unusedSimpArgs false
open Go.RowKit

end Go.Proofs.YtnikdbglpimadaaGreat
end
