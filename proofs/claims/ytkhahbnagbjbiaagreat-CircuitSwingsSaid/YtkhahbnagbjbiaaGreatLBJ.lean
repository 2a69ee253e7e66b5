import Derived.Test.YtkhahbnagbjbiaaGreatLAP
import Derived.Test.YtkhahbnagbjbiaaGreatLBI
import Derived.Test.YtkhahbnagbjbiaaGreatRows
import Derived.KernelRfl
import Derived.Laws.StructEq
section
/- Package circuit: Applied, Induced, Quench, over this seat's translation (written by ax_ci20.py). -/
namespace Go.Proofs.YtkhahbnagbjbiaaGreat
set_option linter.unusedVariables false
set_option linter.unusedSimpArgs false
open Go.RowKit

def OutL (w : World) (k : Int) (zs : List Int) (e : Ending) (w' : World) : Prop :=
  ∃ (A : Option Addr) (n c : Nat), e = .returned (.tuple #[.slice A n c, .int .i64 k]) ∧ IsT 1 intCells w' A n (if k = 0 then zs else []) ∧ (∀ b o, A = some ⟨b, o, none⟩ → w.heap.size ≤ b) ∧ n ≤ 1000000 ∧ Below w.heap.size w w'
theorem OutL.bad {w w' : World} {k : Int} {zs : List Int} (hk : k ≠ 0) (hb : Below w.heap.size w w') : OutL w k zs (.returned (.tuple #[.slice none 0 0, .int .i64 k])) w' :=
  ⟨none, 0, 0, rfl, by rw [if_neg hk]; exact ⟨rfl, fun h => absurd h (by omega)⟩, (fun b o e => by cases e), by omega, hb⟩
theorem OutL.ok {w w' : World} {A : Option Addr} {n c : Nat} {zs : List Int} (hN : NewT 1 intCells w.heap.size w' A n c zs) (hn : n ≤ 1000000) (hb : Below w.heap.size w w') : OutL w 0 zs (.returned (.tuple #[.slice A n c, .int .i64 0])) w' :=
  ⟨A, n, c, rfl, by rw [if_pos rfl]; exact hN.isT, hN.new, hn, hb⟩
end Go.Proofs.YtkhahbnagbjbiaaGreat
end
section
/- Settle on both sides, over this seat's translation (written by ax_ci16.py). -/
namespace Go.Proofs.YtkhahbnagbjbiaaGreat
set_option linter.unusedVariables false
set_option linter.unusedSimpArgs false
open Go.RowKit

end Go.Proofs.YtkhahbnagbjbiaaGreat
end
section
/- The mirrored tick, as plain functions, over this seat's translation (written by ax_ci18.py). -/
namespace Go.Proofs.YtkhahbnagbjbiaaGreat
set_option linter.unusedVariables false
set_option linter.unusedSimpArgs false
open Go.RowKit

end Go.Proofs.YtkhahbnagbjbiaaGreat
end
