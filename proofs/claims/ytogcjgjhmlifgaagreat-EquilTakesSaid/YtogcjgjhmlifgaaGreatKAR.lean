import Derived.Test.YtogcjgjhmlifgaaGreatKAL
import Derived.Test.YtogcjgjhmlifgaaGreatKAM
import Derived.Test.YtogcjgjhmlifgaaGreatKAO
import Derived.Test.YtogcjgjhmlifgaaGreatKAP
import Derived.Test.YtogcjgjhmlifgaaGreatKAQ
import Derived.Deep.RegionHeld3
import Derived.Deep.AppendLies
namespace Go.Proofs.YtogcjgjhmlifgaaGreat
set_option linter.unusedVariables false
set_option linter.unusedSimpArgs false
section
open Go.RowKit Go.Shelf
end
section
open Go.RowKit Go.Shelf
end
section
open Go.RowKit Go.Shelf
end
section
open Go.RowKit Go.Shelf
end
section
open Go.RowKit Go.Shelf
end
end Go.Proofs.YtogcjgjhmlifgaaGreat
