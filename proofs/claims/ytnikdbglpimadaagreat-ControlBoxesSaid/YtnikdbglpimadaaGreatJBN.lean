import Derived.Test.YtnikdbglpimadaaGreatJAS
import Derived.Test.YtnikdbglpimadaaGreatJBM
section
/- The specification of layer 7: Errors, over this seat's translation (written by mk_cte2.py). -/
namespace Go.Proofs.YtnikdbglpimadaaGreat
set_option linter.unusedVariables false
set_option linter.unusedSimpArgs false
open Go.RowKit Go.Shelf

/-- What a call that answers a list of spans and an error number answers. -/
def SpansAt (E : Int) (T : List SpanD) (w : World) (e : Ending) (w' : World) : Prop :=
  ∃ (A : Option Addr) (c : Nat), e = .returned (.tuple #[.slice A T.length c, .int .i64 E]) ∧ IsT 2 SpanD.cells w' A T.length T ∧ (T ≠ [] → ∃ b, A = some ⟨b, 0, none⟩ ∧ RowL b (T.flatMap SpanD.cells) w') ∧ Below w.heap.size w w'
theorem SpansAt.nil {E : Int} {w w' : World} (h : Below w.heap.size w w') : SpansAt E [] w (.returned (.tuple #[.slice none 0 0, .int .i64 E])) w' := ⟨none, 0, rfl, ⟨rfl, fun h => absurd h (by simp)⟩, fun h => absurd rfl h, h⟩
end Go.Proofs.YtnikdbglpimadaaGreat
end
