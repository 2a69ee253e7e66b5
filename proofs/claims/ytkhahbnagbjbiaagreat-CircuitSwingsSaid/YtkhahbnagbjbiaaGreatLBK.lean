import Derived.Test.YtkhahbnagbjbiaaGreatLBE
import Derived.Test.YtkhahbnagbjbiaaGreatLBJ
import Derived.Test.YtkhahbnagbjbiaaGreatRows
import Derived.KernelRfl
import Derived.Laws.StructEq
section
/- The specification of layer 3: validChange, ValidPlasma, applied, induced, over this seat's translation (written by ax_ci21.py). -/
namespace Go.Proofs.YtkhahbnagbjbiaaGreat
set_option linter.unusedVariables false
set_option linter.unusedSimpArgs false
open Go.RowKit

end Go.Proofs.YtkhahbnagbjbiaaGreat
end
