import Derived.Test.YtkhahbnagbjbiaaGreatLAO
import Derived.Test.YtkhahbnagbjbiaaGreatLAR
import Derived.Test.YtkhahbnagbjbiaaGreatLAV
import Derived.Test.YtkhahbnagbjbiaaGreatLBF
import Derived.Test.YtkhahbnagbjbiaaGreatLBJ
import Derived.Test.YtkhahbnagbjbiaaGreatLBL
import Derived.Test.YtkhahbnagbjbiaaGreatRows
import Derived.KernelRfl
import Derived.Laws.StructEq
section
/- Abstract walking: drawn regions in which several operations make memory: what is done, in whatever order, is walked once. -/
namespace Go.Proofs.YtkhahbnagbjbiaaGreat
set_option linter.unusedVariables false
set_option linter.unusedSimpArgs false
set_option autoImplicit false
open Go.RowKit

inductive Ins (x : Nat × Cont) : Boxes → Boxes → Prop
  | here {L : Boxes} : Ins x L (x :: L)
  | there {y : Nat × Cont} {L L' : Boxes} (h : Ins x L L') : Ins x (y :: L) (y :: L')
theorem Ins.perm {x : Nat × Cont} {L L' : Boxes} (h : Ins x L L') : L'.Perm (x :: L) := by
  induction h with
  | here => exact List.Perm.refl _
  | there h ih => exact (List.Perm.cons _ ih).trans (List.Perm.swap _ _ _)
/-- the second list holds the first one's boxes in another order -/
inductive Pm : Boxes → Boxes → Prop
  | refl {L : Boxes} : Pm L L
  | cons {x : Nat × Cont} {M L L' : Boxes} (h : Ins x L L') (t : Pm M L) : Pm (x :: M) L'
theorem Pm.perm {M L : Boxes} (h : Pm M L) : L.Perm M := by
  induction h with
  | refl => exact List.Perm.refl _
  | cons h t ih => exact h.perm.trans (List.Perm.cons _ ih)
section
variable {P : Program} {e0 : Cfg} {U : Snaps} {l : Slots} {L : Boxes} {ops : Array Oper} {Q : Exit → Act → World → Prop} {U0 : Snaps} {L0 : Boxes} {last fuel : Nat} {listed : Array Bool}
end

end Go.Proofs.YtkhahbnagbjbiaaGreat
end
section
/- The specification of layer 3: Step, Quench, over this seat's translation (written by ax_ci24.py). -/
namespace Go.Proofs.YtkhahbnagbjbiaaGreat
set_option linter.unusedVariables false
set_option linter.unusedSimpArgs false
open Go.RowKit

end Go.Proofs.YtkhahbnagbjbiaaGreat
end
section
/- The specification of layer 2: Coil, Sensor, CellAt, near, Flux, Field, over this seat's translation (written by ax_rc3.py). -/
namespace Go.Proofs.YtkhahbnagbjbiaaGreat
set_option linter.unusedVariables false
set_option linter.unusedSimpArgs false
open Go.RowKit

theorem rcellsN_any (R : MachR) (M : MachD) (w : World) (hM : IsM w R M) : Calls Tryz.prog 93 #[.agg (machCells R M)] w (Ret (.int .i64 (cellsN M)) w) := rcells2_any R M w hM

end Go.Proofs.YtkhahbnagbjbiaaGreat
end
