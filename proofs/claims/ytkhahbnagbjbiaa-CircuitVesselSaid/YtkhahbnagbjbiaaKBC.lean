import Derived.Test.YtkhahbnagbjbiaaKAM
import Derived.Test.YtkhahbnagbjbiaaKAT
import Derived.Test.YtkhahbnagbjbiaaKBA
import Derived.Test.YtkhahbnagbjbiaaKBB
import Derived.Test.YtkhahbnagbjbiaaRows
import Derived.KernelRfl
import Derived.Laws.StructEq
section
/- The specification of layer 2: ValidCurrents, over this seat's translation (written by mk_vcu.py). -/
namespace Go.Proofs.Ytkhahbnagbjbiaa
set_option linter.unusedVariables false
set_option linter.unusedSimpArgs false
open Go.RowKit Go.Shelf

end Go.Proofs.Ytkhahbnagbjbiaa
end
section
/- Package machine: Exact, over this seat's translation (written by mk_fld.py). -/
namespace Go.Proofs.Ytkhahbnagbjbiaa
set_option linter.unusedVariables false
set_option linter.unusedSimpArgs false
open Go.RowKit Go.Shelf

end Go.Proofs.Ytkhahbnagbjbiaa
end
section
/- The specification of layer 2: Exact, over this seat's translation (written by mk_exa.py). -/
namespace Go.Proofs.Ytkhahbnagbjbiaa
set_option linter.unusedVariables false
set_option linter.unusedSimpArgs false
open Go.RowKit Go.Shelf

end Go.Proofs.Ytkhahbnagbjbiaa
end
section
/- The specification of layer 2: Exact, whole, over this seat's translation (written by mk_exb.py). -/
namespace Go.Proofs.Ytkhahbnagbjbiaa
set_option linter.unusedVariables false
set_option linter.unusedSimpArgs false
open Go.RowKit Go.Shelf

end Go.Proofs.Ytkhahbnagbjbiaa
end
section
/- The specification of layers 1 and 2: SameInts, SameCurrents, over this seat's translation. -/
namespace Go.Proofs.Ytkhahbnagbjbiaa
set_option linter.unusedVariables false
set_option linter.unusedSimpArgs false
open Go.RowKit Go.Shelf

end Go.Proofs.Ytkhahbnagbjbiaa
end
section
/- The specification of layer 2: SameCurrents, over this seat's translation (written by mk_smc.py). -/
namespace Go.Proofs.Ytkhahbnagbjbiaa
set_option linter.unusedVariables false
set_option linter.unusedSimpArgs false
open Go.RowKit Go.Shelf

end Go.Proofs.Ytkhahbnagbjbiaa
end
section
/- The specification of layer 3: ValidState, Begin, Same, Rest, over this seat's translation (written by ax_ci11.py). -/
namespace Go.Proofs.Ytkhahbnagbjbiaa
set_option linter.unusedVariables false
set_option linter.unusedSimpArgs false
open Go.RowKit

end Go.Proofs.Ytkhahbnagbjbiaa
end
