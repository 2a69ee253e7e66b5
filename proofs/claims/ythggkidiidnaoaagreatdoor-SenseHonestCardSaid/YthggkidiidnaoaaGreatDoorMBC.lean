import Derived.Test.YthggkidiidnaoaaGreatDoorMAS
import Derived.Test.YthggkidiidnaoaaGreatDoorMAV
import Derived.Test.YthggkidiidnaoaaGreatDoorMAZ
import Derived.Test.YthggkidiidnaoaaGreatDoorMBB
namespace Go.Proofs.YthggkidiidnaoaaGreatDoor
set_option linter.unusedVariables false
set_option linter.unusedSimpArgs false
section
open Go.RowKit Go.Shelf
end
section
open Go.RowKit Go.Shelf
end
section
open Go.RowKit Go.Shelf
end
section
open Go.RowKit Go.Shelf
theorem rwithin4_any (n a b : Int) (w : World) :
    Calls Tryz.prog 38 #[.int .i64 n, .int .i64 a, .int .i64 b] w fun e w' => e = .returned (.bool (wthn n a b)) ∧ w = w' := by
  go_enter Tryz.func38, Tryz.ntmps38
  go_wp2
  all_goals go_ret
  all_goals (simp [wthn]; try omega)
theorem backL_eq {M : MachD} {C : CurD} {s : Int} (hv : validC M C = true) : backL M C s = if wthn s 0 ((M.sensors.length : Int) - 1) = true then exactL M (darkD C) s else (0, 7) := by
  unfold backL
  rw [hv, if_pos rfl]
  cases hw : wthn s 0 ((M.sensors.length : Int) - 1)
  · unfold exactL
    rw [fit2_iff.2 (dark_fit (fit2_iff.1 hv)), hw]; rfl
  · rfl
end
section
open Go.RowKit Go.Shelf
end
end Go.Proofs.YthggkidiidnaoaaGreatDoor
