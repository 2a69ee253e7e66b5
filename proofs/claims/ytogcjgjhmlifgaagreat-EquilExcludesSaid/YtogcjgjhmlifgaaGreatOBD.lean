import Derived.Test.YtogcjgjhmlifgaaGreatOBC
import Derived.Test.YtogcjgjhmlifgaaGreatRows
import Derived.KernelRfl
import Derived.Laws.StructEq
namespace Go.Proofs.YtogcjgjhmlifgaaGreat
set_option linter.unusedVariables false
set_option linter.unusedSimpArgs false
section
open Go.RowKit
def mtA (xs ys : List SpanD) (k : Nat) : SpanD := ⟨max (spA xs k).lo (spA ys k).lo, min (spA xs k).hi (spA ys k).hi⟩
def mtP (xs ys : List SpanD) (n : Nat) : Prop := ∀ k, k < n → (mtA xs ys k).lo ≤ (mtA xs ys k).hi
instance (xs ys : List SpanD) (n : Nat) : Decidable (mtP xs ys n) := Nat.decidableBallLT n (fun k _ => (mtA xs ys k).lo ≤ (mtA xs ys k).hi)
abbrev BxV := Option Addr × Nat × Nat × List SpanD
def zA (zs : List BxV) (k : Nat) : BxV := zs.getD k (none, 0, 0, [])
def bxP (M : MachD) (t : Int) (zs : List BxV) (n : Nat) : Prop := ∀ k, k < n → boxB M t (zA zs k).2.2.2 = true
instance (M : MachD) (t : Int) (zs : List BxV) (n : Nat) : Decidable (bxP M t zs n) := Nat.decidableBallLT n (fun k _ => boxB M t (zA zs k).2.2.2 = true)
theorem rpcheck_any (R : MachR) (M : MachD) (w : World) (hM : IsM w R M) : Calls Tryz.prog 67 #[.agg (mCs R M).toArray] w (Ret (.int .i64 (checkC M)) w) := rcheck_any R M w hM
theorem rpcells_any (R : MachR) (M : MachD) (w : World) (hM : IsM w R M) : Calls Tryz.prog 68 #[.agg (mCs R M).toArray] w (Ret (.int .i64 (cellsC M)) w) := rcells2_any R M w hM
end
end Go.Proofs.YtogcjgjhmlifgaaGreat
