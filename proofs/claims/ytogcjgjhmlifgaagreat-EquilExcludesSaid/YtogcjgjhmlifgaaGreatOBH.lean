import Derived.Test.YtogcjgjhmlifgaaGreatOBG
import Derived.Test.YtogcjgjhmlifgaaGreatRows
import Derived.KernelRfl
import Derived.Laws.StructEq
namespace Go.Proofs.YtogcjgjhmlifgaaGreat
set_option linter.unusedVariables false
set_option linter.unusedSimpArgs false
section
open Go.RowKit
def suP (M : MachD) (C : CurD) (xs : List SpanD) (k n : Nat) : Prop := ∀ j, j < n → j ≠ k → (flS M C xs (limP M j)).hi ≤ (flS M C xs (limP M k)).lo
instance (M : MachD) (C : CurD) (xs : List SpanD) (k n : Nat) : Decidable (suP M C xs k n) := Nat.decidableBallLT n (fun j _ => j ≠ k → (flS M C xs (limP M j)).hi ≤ (flS M C xs (limP M k)).lo)
end
end Go.Proofs.YtogcjgjhmlifgaaGreat
