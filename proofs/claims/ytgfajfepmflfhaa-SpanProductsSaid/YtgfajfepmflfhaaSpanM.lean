/- Package span and its specification: contracts of Point, Make, Widen, Hull and Meet, and of the laws' comparison of results, over this seat's translation. -/
import Derived.Test.YtgfajfepmflfhaaSpanB
import Derived.Deep.RegionHeld3
namespace Go.Proofs.Ytgfajfepmflfhaa
set_option linter.unusedVariables false
set_option linter.unusedSimpArgs false
open Go.RowKit

/-- A struct of two cells and a plain result beside it, the cells known. -/
theorem res3g {fn : Func} {p u : Tmp} (h : fn.results = #[.cell p 23, .tmp u]) (tmps : Array Value) (W : World) (b : Nat) (x y z : Value)
    (hp : tmps.getD p undef = .pointer (some ⟨b, 0, none⟩)) (hu : tmps.getD u undef = z) (h0 : W.cell? ⟨b, 0, none⟩ = some x) (h1 : W.cell? ⟨b, 1, none⟩ = some y) :
    (results fn tmps).run Try.prog W = .ok (.tuple #[.agg #[x, y], z]) W := by
  rw [results_cell_tmp h, hp, hu]
  simp [go_sem, h0, h1]

set_option maxHeartbeats 400000 in
theorem within_any (n : Int) (w : World) :
    Calls Try.prog 31 #[.int .i64 n] w fun e w' => e = .returned (.bool (inR n)) ∧ w = w' := by
  go_enter Try.func31, Try.ntmps31
  go_wp2
  all_goals go_ret
  all_goals (simp [inR]; try omega)

set_option maxHeartbeats 400000 in
theorem rvalid_any (lo hi : Int) (w : World) :
    Calls Try.prog 17 #[Sp lo hi] w (Ret (.bool (vld lo hi)) w) := by
  go_enter Try.func17, Try.ntmps17
  go_wp2_with (go_at_call 31; refine (within_any _ _).mono ?_; rintro e w' ⟨rfl, rfl⟩)
  all_goals go_ret
  all_goals exact ⟨by simp [vld, *] <;> omega, by (repeat first | with_reducible exact Below.refl _ _ | with_reducible assumption | (with_reducible refine Below.setCell ?_ ?_ _; rotate_left; exact (by first | omega | (simp; done) | (simp; omega))) | (with_reducible refine Below.alloc ?_ ?_ _; rotate_left; exact (by first | omega | (simp; done) | (simp; omega))) | with_reducible refine Below.drew ?_ | with_reducible refine Below_drewN ?_ _)⟩

def smallL (lo hi : Int) : Int × Int × Int := if (inR lo && inR hi) = true then (lo, hi, 0) else (0, 0, 9)
theorem small_make {m n : Int} (h : m ≤ n) : smallL m n = makeL m n := by
  unfold smallL makeL
  rw [show min m n = m by omega, show max m n = n by omega]
  have : vld m n = (inR m && inR n) := by simp [vld, h]
  rw [this]

theorem make_comm (m n : Int) : makeL m n = makeL n m := by unfold makeL; rw [Int.min_comm, Int.max_comm]

set_option maxHeartbeats 400000 in
theorem same_refl (a b e : Int) (w : World) : Calls Try.prog 8 #[.agg #[.int .i64 a, .int .i64 b], .int .i64 e, .agg #[.int .i64 a, .int .i64 b], .int .i64 e] w (Ret (.bool true) w) := by
  go_enter Try.func8, Try.ntmps8
  go_wp2
  go_ret
  exact ⟨by simp, by (repeat first | with_reducible exact Below.refl _ _ | with_reducible assumption | (with_reducible refine Below.setCell ?_ ?_ _; rotate_left; exact (by first | omega | (simp; done) | (simp; omega))) | (with_reducible refine Below.alloc ?_ ?_ _; rotate_left; exact (by first | omega | (simp; done) | (simp; omega))) | with_reducible refine Below.drew ?_ | with_reducible refine Below_drewN ?_ _)⟩

def widenL (a b n : Int) : Int × Int × Int :=
  if vld a b = true then (if 0 ≤ n ∧ n ≤ 1000000000000000 then (max (a - n) (-1000000000000000), min (b + n) 1000000000000000, 0) else (0, 0, 7)) else (0, 0, 1)
def hullL (a b c d : Int) : Int × Int × Int := if (vld a b && vld c d) = true then (min a c, max b d, 0) else (0, 0, 1)
def meetL (a b c d : Int) : Int × Int × Int := if (vld a b && vld c d) = true then (if max a c ≤ min b d then (max a c, min b d, 0) else (0, 0, 8)) else (0, 0, 1)

end Go.Proofs.Ytgfajfepmflfhaa
