import Derived.Test.YtjjajleiladbhaaGreatDoorLAS
import Derived.Test.YtjjajleiladbhaaGreatDoorLAW
import Derived.Test.YtjjajleiladbhaaGreatDoorLAZ
import Derived.Test.YtjjajleiladbhaaGreatDoorRows
import Derived.KernelRfl
import Derived.Laws.StructEq
section
/- The specification of layer 2: ValidCurrents, over this seat's translation (written by mk_vcu.py). -/
namespace Go.Proofs.YtjjajleiladbhaaGreatDoor
set_option linter.unusedVariables false
set_option linter.unusedSimpArgs false
open Go.RowKit Go.Shelf

end Go.Proofs.YtjjajleiladbhaaGreatDoor
end
section
/- The specification of layer 2: Coil, Sensor, CellAt, near, Flux, Field, over this seat's translation (written by ax_rc3.py). -/
namespace Go.Proofs.YtjjajleiladbhaaGreatDoor
set_option linter.unusedVariables false
set_option linter.unusedSimpArgs false
open Go.RowKit

theorem rcellsN_any (R : MachR) (M : MachD) (w : World) (hM : IsM w R M) : Calls Tryz.prog 23 #[.agg (machCells R M)] w (Ret (.int .i64 (cellsN M)) w) := rcells2_any R M w hM

end Go.Proofs.YtjjajleiladbhaaGreatDoor
end
