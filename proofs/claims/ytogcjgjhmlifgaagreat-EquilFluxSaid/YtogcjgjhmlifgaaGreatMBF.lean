import Derived.Test.YtogcjgjhmlifgaaGreatMBD
import Derived.Test.YtogcjgjhmlifgaaGreatMBE
import Derived.Test.YtogcjgjhmlifgaaGreatRows
import Derived.KernelRfl
import Derived.Laws.StructEq
namespace Go.Proofs.YtogcjgjhmlifgaaGreat
set_option linter.unusedVariables false
set_option linter.unusedSimpArgs false
section
open Go.RowKit
end
end Go.Proofs.YtogcjgjhmlifgaaGreat
