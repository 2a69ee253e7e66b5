/- The specification: contracts of Neg, Add, Sub and Square, over this seat's translation. -/
import Derived.Test.YtgfajfepmflfhaaBigR
import Derived.Test.YtgfajfepmflfhaaBigO
namespace Go.Proofs.Ytgfajfepmflfhaa
set_option linter.unusedVariables false
set_option linter.unusedSimpArgs false
open Go.RowKit

theorem of_big (z : Int) (w : World) (h0 : -9223372036854775807 ≤ z) (h1 : z ≤ 9223372036854775807) :
    Calls Try.prog 21 #[.int .i64 z] w (RetBig z w) := by
  by_cases h : 0 ≤ z
  · exact of_pos z w h h1
  · have e := of_neg (-z) w (by omega) (by omega)
    rwa [Int.neg_neg] at e

theorem pw_large {z : Int} (h0 : -1000000000000000 ≤ z) (h1 : z ≤ 1000000000000000) : max z (-z) < pw 16 := by
  have h := pw_mono (show 5 ≤ 16 by decide)
  rw [pw_five] at h
  omega

theorem res_make {lo hi : Int} (h : lo ≤ hi) : resL lo hi = makeL lo hi := by
  rw [← small_make h]
  rfl

end Go.Proofs.Ytgfajfepmflfhaa
