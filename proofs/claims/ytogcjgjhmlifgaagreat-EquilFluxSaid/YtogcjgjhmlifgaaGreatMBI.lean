import Derived.Test.YtogcjgjhmlifgaaGreatMAA
import Derived.Test.YtogcjgjhmlifgaaGreatMAW
import Derived.Test.YtogcjgjhmlifgaaGreatMAY
import Derived.Test.YtogcjgjhmlifgaaGreatMAZ
import Derived.Test.YtogcjgjhmlifgaaGreatMBH
import Derived.Test.YtogcjgjhmlifgaaGreatRows
import Derived.KernelRfl
import Derived.Laws.StructEq
namespace Go.Proofs.YtogcjgjhmlifgaaGreat
set_option linter.unusedVariables false
set_option linter.unusedSimpArgs false
section
open Go.RowKit
end
section
open Go.RowKit
theorem chk_bn (M : MachD) (C : CurD) (xs : List SpanD) : chkE (validC M C && boxB M 1000000 xs) (wthn 1000000 1 1000000) = bnE M C xs := by
  have h : wthn 1000000 1 1000000 = true := by decide
  rw [h]
  rfl
theorem checkBn_any (R : MachR) (M : MachD) (Q : CurR) (C : CurD) (X : Option Addr) (nx cx : Nat) (xs : List SpanD) (w : World) (hM : IsM w R M) (hC : IsC w Q C) (hS : IsT 2 SpanD.cells w X nx xs) : Calls Tryz.prog 59 #[.agg (mCs R M).toArray, .agg (cCs Q).toArray, .int .i64 1000000, .slice X nx cx] w (Ret (.int .i64 (bnE M C xs)) w) := by
  have h := checkBox_any R M Q C w hM hC X nx cx xs 1000000 hS
  rwa [chk_bn] at h
end
end Go.Proofs.YtogcjgjhmlifgaaGreat
