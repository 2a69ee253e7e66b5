import Derived.Test.YtogcjgjhmlifgaaGreatMAW
import Derived.Test.YtogcjgjhmlifgaaGreatMBF
import Derived.Test.YtogcjgjhmlifgaaGreatRows
import Derived.KernelRfl
import Derived.Laws.StructEq
namespace Go.Proofs.YtogcjgjhmlifgaaGreat
set_option linter.unusedVariables false
set_option linter.unusedSimpArgs false
section
open Go.RowKit
def bnV (M : MachD) (C : CurD) (xs : List SpanD) : Bool := validC M C && boxB M 1000000 xs
def bnE (M : MachD) (C : CurD) (xs : List SpanD) : Int := if bnV M C xs = true then 0 else 1
def bnS (M : MachD) (C : CurD) (xs : List SpanD) : SpanD := if bnV M C xs = true then bdS M C xs else ⟨0, 0⟩
end
section
open Go.RowKit
theorem bn_ok {M : MachD} {C : CurD} {xs : List SpanD} (h : bnE M C xs = 0) : Fit2 M C ∧ FitX M 1000000 xs ∧ bnS M C xs = bdS M C xs := by
  unfold bnE at h
  by_cases hv : bnV M C xs = true
  · have h1 := hv
    unfold bnV at h1
    rw [Bool.and_eq_true] at h1
    exact ⟨fit2_iff.1 h1.1, boxB_iff.1 h1.2, if_pos hv⟩
  · rw [if_neg hv] at h; cases h
theorem bn_bad {M : MachD} {C : CurD} {xs : List SpanD} (h : bnE M C xs ≠ 0) : bnV M C xs = false ∧ bnE M C xs = 1 := by
  unfold bnE at *
  by_cases hv : bnV M C xs = true
  · rw [if_pos hv] at h; exact absurd rfl h
  · exact ⟨by simpa using hv, if_neg hv⟩
end
end Go.Proofs.YtogcjgjhmlifgaaGreat
