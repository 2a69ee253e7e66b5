import Derived.Test.YtnikdbglpimadaaGreatJAM
import Derived.Test.YtnikdbglpimadaaGreatJAZ
import Derived.Test.YtnikdbglpimadaaGreatRows
import Derived.KernelRfl
import Derived.Laws.StructEq
import Derived.Lib.AppendZeros
section
/- Package circuit: newCircuit, over this seat's translation (written by ax_ci2.py). -/
namespace Go.Proofs.YtnikdbglpimadaaGreat
set_option linter.unusedVariables false
set_option linter.unusedSimpArgs false
open Go.RowKit

theorem cellN_bd {M : MachD} (hc : checkC M = 0) : 1 ≤ cellN M ∧ cellN M ≤ 64 := by
  have := cells_fine (sound_of hc).grid
  unfold cellN; omega
def rowM (M : MachD) (i : Nat) : List Int := linkL M (sA M i)
def rowN (M : MachD) : Nat := M.coils.length + cellN M
/-- a circuit's links, wherever they lie -/
structure IsK (M : MachD) (w : World) (A : Option Addr) (n : Nat) (rows : List (Option Addr × Nat)) : Prop where
  out : IsT 1 (slcs (rowN M)) w A n rows
  row : ∀ (i : Nat) r, rows[i]? = some r → IsT 1 intCells w r.1 (rowN M) (rowM M i)
theorem IsK.below {M : MachD} {w w1 : World} {A : Option Addr} {n : Nat} {rows : List (Option Addr × Nat)} (h : IsK M w A n rows) (hb : Below w.heap.size w w1) : IsK M w1 A n rows := ⟨h.out.below hb, fun i r hr => (h.row i r hr).below hb⟩
end Go.Proofs.YtnikdbglpimadaaGreat
end
section
/- Abstract walking: cap, list[:hi], append of made zeros to nothing. -/
namespace Go.Proofs.YtnikdbglpimadaaGreat
set_option linter.unusedVariables false
set_option linter.unusedSimpArgs false
set_option autoImplicit false
open Go.RowKit
section
variable {P : Program} {e0 : Cfg} {U : Snaps} {l : Slots} {L : Boxes} {ops : Array Oper} {Q : Exit → Act → World → Prop} {rest : List Oper} {d : Nat} {v : Value}
variable {ty : TypeId} {pos : String} {af : Array Edge} {g : Option (Nat × Bool)} {dd : Option Nat}
end

end Go.Proofs.YtnikdbglpimadaaGreat
end
section
/- slices.Grow of nothing, slices.Concat of lists of whole numbers, over this seat's translation (written by ax_ci3.py). -/
namespace Go.Proofs.YtnikdbglpimadaaGreat
set_option linter.unusedVariables false
set_option linter.unusedSimpArgs false
open Go.RowKit

end Go.Proofs.YtnikdbglpimadaaGreat
end
section
/- Package circuit: what changes induce in the shells, over this seat's translation (written by ax_ci3.py). -/
namespace Go.Proofs.YtnikdbglpimadaaGreat
set_option linter.unusedVariables false
set_option linter.unusedSimpArgs false
open Go.RowKit

end Go.Proofs.YtnikdbglpimadaaGreat
end
