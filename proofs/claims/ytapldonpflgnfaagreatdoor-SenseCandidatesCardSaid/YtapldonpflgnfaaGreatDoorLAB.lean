import Derived.Test.YtapldonpflgnfaaGreatDoorLAA
import Derived.Deep.RegionHeld3
namespace Go.Proofs.YtapldonpflgnfaaGreatDoor
set_option linter.unusedVariables false
set_option linter.unusedSimpArgs false
section
open Go.RowKit
set_option maxHeartbeats 400000 in
theorem within_any (n : Int) (w : World) :
  Calls Tryz.prog 123 #[.int .i64 n] w fun e w' => e = .returned (.bool (inR n)) ∧ w = w' := by
 go_enter Tryz.func123, Tryz.ntmps123
 go_wp2
 all_goals go_ret
 all_goals (simp [inR]; try omega)
set_option maxHeartbeats 400000 in
theorem rvalid_any (lo hi : Int) (w : World) :
  Calls Tryz.prog 81 #[Sp lo hi] w (Ret (.bool (vld lo hi)) w) := by
 go_enter Tryz.func81, Tryz.ntmps81
 go_wp2_with (go_at_call 123; refine (within_any _ _).mono ?_; rintro e w' ⟨rfl, rfl⟩)
 all_goals go_ret
 all_goals exact ⟨by simp [vld, *] <;> omega, by (repeat first | with_reducible exact Below.refl _ _ | (with_reducible refine Below.alloc ?_ ?_ _; rotate_left; exact (by omega)))⟩
set_option maxHeartbeats 400000 in
theorem most_any (a b : Int) (w : World) : Calls Tryz.prog 82 #[.int .i64 a, .int .i64 b] w fun e w' => e = .returned (.int .i64 (max a b)) ∧ w = w' := by
 go_enter Tryz.func82, Tryz.ntmps82
 go_wp2
 all_goals go_ret
 all_goals exact ⟨ret_int (by omega), rfl⟩
set_option maxHeartbeats 400000 in
theorem least_any (a b : Int) (w : World) : Calls Tryz.prog 83 #[.int .i64 a, .int .i64 b] w fun e w' => e = .returned (.int .i64 (min a b)) ∧ w = w' := by
 go_enter Tryz.func83, Tryz.ntmps83
 go_wp2
 all_goals go_ret
 all_goals exact ⟨ret_int (by omega), rfl⟩
def hullL (a b c d : Int) : Int × Int × Int := if (vld a b && vld c d) = true then (min a c, max b d, 0) else (0, 0, 1)
def meetL (a b c d : Int) : Int × Int × Int := if (vld a b && vld c d) = true then (if max a c ≤ min b d then (max a c, min b d, 0) else (0, 0, 8)) else (0, 0, 1)
end
end Go.Proofs.YtapldonpflgnfaaGreatDoor
