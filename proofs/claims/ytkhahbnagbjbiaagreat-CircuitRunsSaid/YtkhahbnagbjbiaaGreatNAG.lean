import Derived.Test.YtkhahbnagbjbiaaGreatNAE
import Derived.Test.YtkhahbnagbjbiaaGreatNAF
section
/- Package machine: fluxAt over any machine, over this seat's translation (written by mk_flux2.py). -/
namespace Go.Proofs.YtkhahbnagbjbiaaGreat
set_option linter.unusedVariables false
set_option linter.unusedSimpArgs false
open Go.RowKit Go.Shelf
attribute [local go_sem] Oper.semAt_some

end Go.Proofs.YtkhahbnagbjbiaaGreat
end
section
/- Package machine: fluxAt over a machine that has neither coils nor shells, over this seat's translation (written by mk_flux.py). -/
namespace Go.Proofs.YtkhahbnagbjbiaaGreat
set_option linter.unusedVariables false
set_option linter.unusedSimpArgs false
open Go.RowKit Go.Shelf
attribute [local go_sem] Oper.semAt_some

end Go.Proofs.YtkhahbnagbjbiaaGreat
end
