import Derived.Test.YthggkidiidnaoaaGreatDoorMAW
import Derived.Test.YthggkidiidnaoaaGreatDoorMAX
import Derived.Test.YthggkidiidnaoaaGreatDoorMBD
import Derived.Test.YthggkidiidnaoaaGreatDoorMBF
import Derived.Test.YthggkidiidnaoaaGreatDoorMBI
import Derived.Test.YthggkidiidnaoaaGreatDoorRows
import Derived.KernelRfl
import Derived.Laws.StructEq
namespace Go.Proofs.YthggkidiidnaoaaGreatDoor
set_option linter.unusedVariables false
set_option linter.unusedSimpArgs false
section
open Go.RowKit
def okAl (lo hi b n : Int) : Bool := decide ((allowL lo hi b n).1 ≤ (allowL lo hi b n).2)
theorem okAl_vld (lo hi b n : Int) : okAl lo hi b n = vld (allowL lo hi b n).1 (allowL lo hi b n).2 := by
  have h : 0 ≤ (allowL lo hi b n).1 ∧ (allowL lo hi b n).2 ≤ 1000000 := by
    unfold allowL possL
    split
    · exact ⟨by simp only; omega, by simp only; omega⟩
    · split
      · exact ⟨by simp only; omega, by simp only; omega⟩
      · split
        · exact ⟨by simp only; omega, by simp only; omega⟩
        · exact ⟨by simp only; omega, by simp only; omega⟩
  rw [Bool.eq_iff_iff, okAl, decide_eq_true_iff, vld_iff]
  omega
theorem allow_zero {lo hi b : Int} (hv : vld lo hi = true) : allowL lo hi b 0 = if wthn b lo hi = true then (0, 1000000) else (1, 0) := by
  unfold allowL possL
  rw [if_neg (by omega), if_neg (by omega), cont, hv, Bool.true_and, show (decide (lo ≤ b) && decide (b ≤ hi)) = wthn b lo hi from rfl]
  rfl
end
end Go.Proofs.YthggkidiidnaoaaGreatDoor
