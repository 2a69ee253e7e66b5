import Derived.Test.YtnikdbglpimadaaGreatJAG
import Derived.Sort.CutIn
section
/- Package machine: the iterator sources of any machine, over this seat's translation (written by mk_src.py). -/
namespace Go.Proofs.YtnikdbglpimadaaGreat
set_option linter.unusedVariables false
set_option linter.unusedSimpArgs false
open Go.RowKit Go.Shelf
attribute [local go_sem] Oper.semAt_some

end Go.Proofs.YtnikdbglpimadaaGreat
end
section
/- Package machine: fluxAt over any machine, over this seat's translation (written by mk_flux2.py). -/
namespace Go.Proofs.YtnikdbglpimadaaGreat
set_option linter.unusedVariables false
set_option linter.unusedSimpArgs false
open Go.RowKit Go.Shelf
attribute [local go_sem] Oper.semAt_some

end Go.Proofs.YtnikdbglpimadaaGreat
end
