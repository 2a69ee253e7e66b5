/- The specification of package span: contracts of its looks (Contains, Inside, Width, Middle, Greatest, Proved), over this seat's translation. -/
import Derived.Test.YtgfajfepmflfhaaSpanM
import Derived.Test.YtgfajfepmflfhaaSpanL
import Derived.Lib.Hide
namespace Go.Proofs.Ytgfajfepmflfhaa
set_option linter.unusedVariables false
set_option linter.unusedSimpArgs false
open Go.RowKit

theorem tmod_neg (s : Int) (h : s < 0) : s.tmod 2 = -((-s) % 2) := by
  have e : s = -(-s) := by omega
  rw [e, Int.neg_tmod, Int.neg_neg, Int.tmod_eq_emod_of_nonneg (by omega)]
theorem tdiv_neg (s : Int) (h : s < 0) : s.tdiv 2 = -((-s) / 2) := by
  have e : s = -(-s) := by omega
  rw [e, Int.neg_tdiv, Int.neg_neg, Int.tdiv_eq_ediv_of_nonneg (by omega)]

end Go.Proofs.Ytgfajfepmflfhaa
