import Derived.Test.YthggkidiidnaoaaGreatDoorMAA
import Derived.Test.YthggkidiidnaoaaGreatDoorMAB
import Derived.Test.YthggkidiidnaoaaGreatDoorMAV
import Derived.Test.YthggkidiidnaoaaGreatDoorMBE
import Derived.Deep.RegionHeld3
import Derived.Deep.DeepCutAuto
import Derived.Lib.Hide
import Derived.Laws.Externs
import Derived.Shelf.Bits.Mul64
import Derived.Deep.QuietTactic
import Derived.BigQuiet
import Derived.Shelf.Abstract
namespace Go.Proofs.YthggkidiidnaoaaGreatDoor
set_option linter.unusedVariables false
set_option linter.unusedSimpArgs false
section
open Go.RowKit
end
section
open Go.RowKit
end
section
open Go.RowKit
theorem tmod_neg (s : Int) (h : s < 0) : s.tmod 2 = -((-s) % 2) := by
  have e : s = -(-s) := by omega
  rw [e, Int.neg_tmod, Int.neg_neg, Int.tmod_eq_emod_of_nonneg (by omega)]
theorem tdiv_neg (s : Int) (h : s < 0) : s.tdiv 2 = -((-s) / 2) := by
  have e : s = -(-s) := by omega
  rw [e, Int.neg_tdiv, Int.neg_neg, Int.tdiv_eq_ediv_of_nonneg (by omega)]
end
section
open Go.RowKit
end
section
open Go.RowKit
end
section
open Go.RowKit
end
section
open Go.RowKit
end
section
open Go.RowKit
theorem Fit.min {x y : Int} (hx : Fit x) (hy : Fit y) : Fit (Min.min x y) := by unfold Fit at *; omega
theorem Fit.max {x y : Int} (hx : Fit x) (hy : Fit y) : Fit (Max.max x y) := by unfold Fit at *; omega
end
section
open Go.RowKit Go.Shelf
end
section
open Go.RowKit Go.Shelf
end
section
open Go.RowKit Go.Shelf
end
section
open Go.RowKit
def two (k : Nat) : Int := ((2 ^ k : Nat) : Int)
end
section
theorem flo_iff (q x y : Int) (hy : y ≠ 0) : q ≤ flo x y ↔ (0 < y ∧ q * y ≤ x) ∨ (y < 0 ∧ x ≤ q * y) := by
  unfold flo
  by_cases h : 0 < y
  · rw [if_pos h, Int.le_ediv_iff_mul_le h]
    constructor
    · intro k; exact .inl ⟨h, k⟩
    · rintro (⟨_, k⟩ | ⟨k, _⟩)
      · exact k
      · omega
  · rw [if_neg h, Int.le_ediv_iff_mul_le (by omega), Int.mul_neg]
    constructor
    · intro k; exact .inr ⟨by omega, by omega⟩
    · rintro (⟨k, _⟩ | ⟨_, k⟩)
      · omega
      · omega
section
variable {a b c d a' b' c' d' : Int} (v1 : vld a b = true) (v2 : vld c d = true) (v3 : vld a' b' = true) (v4 : vld c' d' = true) (h1 : a' ≤ a) (h2 : b ≤ b') (h3 : c' ≤ c) (h4 : d ≤ d')
include v1 v2 v3 v4 h1 h2 h3 h4
end
end
section
set_option linter.unusedSectionVars false
section
variable {a b c d m n : Int} (v1 : vld a b = true) (v2 : vld c d = true) (h1 : a ≤ m) (h2 : m ≤ b) (h3 : c ≤ n) (h4 : n ≤ d) (g1 : greatestL a b ≤ 1000000000) (g2 : greatestL c d ≤ 1000000)
include v1 v2 h1 h2 h3 h4 g1 g2
end
end
section
open Go.RowKit
end
section
open Go.RowKit
end
section
open Go.RowKit
end
end Go.Proofs.YthggkidiidnaoaaGreatDoor
