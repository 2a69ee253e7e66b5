import Derived.Test.YtogcjgjhmlifgaaGreatLAA
import Derived.Test.YtogcjgjhmlifgaaGreatLBA
import Derived.Test.YtogcjgjhmlifgaaGreatLBB
import Derived.Test.YtogcjgjhmlifgaaGreatRows
import Derived.KernelRfl
import Derived.Laws.StructEq
namespace Go.Proofs.YtogcjgjhmlifgaaGreat
set_option linter.unusedVariables false
set_option linter.unusedSimpArgs false
section
open Go.RowKit
section
variable {P : Program} {e0 : Cfg} {U : Snaps} {l : Slots} {L : Boxes} {ops : Array Oper} {Q : Exit → Act → World → Prop} {rest : List Oper} {d : Nat} {v : Value}
variable {ty : TypeId} {pos : String} {af : Array Edge} {g : Option (Nat × Bool)} {dd : Option Nat}
end
theorem newT_nil {α : Type} {z B : Nat} {enc : α → List Value} {w : World} : NewT z enc B w none 0 0 ([] : List α) := ⟨IsT.nil _ _ _ _, fun b o e => (by cases e), Nat.le_refl _, by omega⟩
def hdP (xs : List SpanD) (js : List Int) (n : Nat) : Prop := ∀ k, k < n → wthn (iA js k) (spA xs k).lo (spA xs k).hi = true
instance (xs : List SpanD) (js : List Int) (n : Nat) : Decidable (hdP xs js n) := Nat.decidableBallLT n (fun k _ => wthn (iA js k) (spA xs k).lo (spA xs k).hi = true)
end
end Go.Proofs.YtogcjgjhmlifgaaGreat
