import Derived.Test.YtogcjgjhmlifgaaGreatMAA
import Derived.Test.YtogcjgjhmlifgaaGreatMBA
import Derived.Test.YtogcjgjhmlifgaaGreatMBB
import Derived.Test.YtogcjgjhmlifgaaGreatRows
import Derived.KernelRfl
import Derived.Laws.StructEq
namespace Go.Proofs.YtogcjgjhmlifgaaGreat
set_option linter.unusedVariables false
set_option linter.unusedSimpArgs false
section
open Go.RowKit
theorem box_at {M : MachD} {t : Int} {xs : List SpanD} {k : Nat} (h : FitX M t xs) (hk : k < xs.length) : 0 ≤ (spA xs k).lo ∧ (spA xs k).lo ≤ (spA xs k).hi ∧ (spA xs k).hi ≤ t := h.each _ (spA_mem hk)
section
variable {P : Program} {e0 : Cfg} {U : Snaps} {l : Slots} {L : Boxes} {ops : Array Oper} {Q : Exit → Act → World → Prop} {rest : List Oper} {d : Nat} {v : Value}
variable {ty : TypeId} {pos : String} {af : Array Edge} {g : Option (Nat × Bool)} {dd : Option Nat}
end
def hdP (xs : List SpanD) (js : List Int) (n : Nat) : Prop := ∀ k, k < n → wthn (iA js k) (spA xs k).lo (spA xs k).hi = true
instance (xs : List SpanD) (js : List Int) (n : Nat) : Decidable (hdP xs js n) := Nat.decidableBallLT n (fun k _ => wthn (iA js k) (spA xs k).lo (spA xs k).hi = true)
end
end Go.Proofs.YtogcjgjhmlifgaaGreat
