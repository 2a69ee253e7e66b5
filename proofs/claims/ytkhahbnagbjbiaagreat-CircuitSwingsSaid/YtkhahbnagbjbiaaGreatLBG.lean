import Derived.Test.YtkhahbnagbjbiaaGreatLBF
section
/- The specification of layer 2: Exact, whole, over this seat's translation (written by mk_exb.py). -/
namespace Go.Proofs.YtkhahbnagbjbiaaGreat
set_option linter.unusedVariables false
set_option linter.unusedSimpArgs false
open Go.RowKit Go.Shelf

end Go.Proofs.YtkhahbnagbjbiaaGreat
end
section
/- The specification of layers 1 and 2: SameInts, SameCurrents, over this seat's translation. -/
namespace Go.Proofs.YtkhahbnagbjbiaaGreat
set_option linter.unusedVariables false
set_option linter.unusedSimpArgs false
open Go.RowKit Go.Shelf

end Go.Proofs.YtkhahbnagbjbiaaGreat
end
section
/- The specification of layer 2: SameCurrents, over this seat's translation (written by mk_smc.py). -/
namespace Go.Proofs.YtkhahbnagbjbiaaGreat
set_option linter.unusedVariables false
set_option linter.unusedSimpArgs false
open Go.RowKit Go.Shelf

end Go.Proofs.YtkhahbnagbjbiaaGreat
end
