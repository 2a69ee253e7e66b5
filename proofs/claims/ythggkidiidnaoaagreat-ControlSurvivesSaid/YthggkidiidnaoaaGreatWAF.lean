import Derived.Test.YthggkidiidnaoaaGreatWAA
import Derived.Test.YthggkidiidnaoaaGreatWAB
import Derived.Test.YthggkidiidnaoaaGreatWAC
import Derived.Test.YthggkidiidnaoaaGreatWAD
import Derived.Test.YthggkidiidnaoaaGreatWAE
import Derived.Shelf.Abstract
import Derived.Lib.Hide
namespace Go.Proofs.YthggkidiidnaoaaGreat
set_option linter.unusedVariables false
set_option linter.unusedSimpArgs false
section
open Go.RowKit Go.Shelf
end
section
open Go.RowKit Go.Shelf
end
section
open Go.RowKit Go.Shelf
end
section
open Go.RowKit
def two (k : Nat) : Int := ((2 ^ k : Nat) : Int)
end
section
section
variable {a b c d a' b' c' d' : Int} (v1 : vld a b = true) (v2 : vld c d = true) (v3 : vld a' b' = true) (v4 : vld c' d' = true) (h1 : a' ≤ a) (h2 : b ≤ b') (h3 : c' ≤ c) (h4 : d ≤ d')
include v1 v2 v3 v4 h1 h2 h3 h4
end
end
section
set_option linter.unusedSectionVars false
section
variable {a b c d m n : Int} (v1 : vld a b = true) (v2 : vld c d = true) (h1 : a ≤ m) (h2 : m ≤ b) (h3 : c ≤ n) (h4 : n ≤ d) (g1 : greatestL a b ≤ 1000000000) (g2 : greatestL c d ≤ 1000000)
include v1 v2 h1 h2 h3 h4 g1 g2
end
end
section
open Go.RowKit
end
section
open Go.RowKit
theorem of_big (z : Int) (w : World) (h0 : -9223372036854775807 ≤ z) (h1 : z ≤ 9223372036854775807) :
  Calls Tryz.prog 89 #[.int .i64 z] w (RetBig z w) := by
 by_cases h : 0 ≤ z
 ·exact of_pos z w h h1
 ·have e := of_neg (-z) w om9 om9
  rwa [Int.neg_neg] at e
end
section
open Go.RowKit
theorem big_zero {w : World} {v : Value} {z : Int} {A : Option Addr} {n cap : Nat} {P : List Int} (hI : IsI w 0 A n P) (hC : Canon P) (hv : val P = max z (-z)) : n = 0 ↔ z = 0 := by
 have h0 := canon_nil hC
 rw [← hI.1]
 constructor
 ·intro h
  have : P = [] := List.eq_nil_of_length_eq_zero h
  have := h0.2 this
  omega
 ·intro h
  subst h
  rw [h0.1 (by rw [hv]; rfl)]
  rfl
set_option maxHeartbeats 2000000 in
theorem minus_new (base : Nat) (z : Int) (u : Value) (w : World) (hu : BigB w base u z) :
  Calls Tryz.prog 135 #[u] w (RetNew base (-z) w) := by
 obtain ⟨A, n, cap, P, rfl, h1, h2, h3, h4, h5⟩ := hu
 have hz := big_zero (w := w) (v := undef) (z := z) (n := n) (cap := cap) (h1.mono (Nat.zero_le _)) h4 h5
 have HI := Lib.hid h1
 have HC := Lib.hid h4
 have HV := Lib.hid (show val P = max (-z) (- -z) by omega)
 clear h1 h4 h5
 rcases Int.lt_trichotomy z 0 with h | h | h
 ·have e1 : decide (z < 0) = true := by simp; omega
  have HE := Lib.hid (show decide (-z < 0) = false by simp; omega)
  rw [e1]
  clear e1 hz h
  go_enter Tryz.func135, Tryz.ntmps135
  go_wp2
  all_goals exact bodyPost_ret (res2c Tryz.results135 _ _ _ (.bool false) (.slice A n cap) rfl (by go_simp) (by go_simp)) rfl ⟨_, rfl, ⟨A, n, cap, P, by rw [HE.out], (HI.out.below (by (repeat first | with_reducible exact Below.refl _ _ | (with_reducible refine Below.alloc ?_ ?_ _; rotate_left; exact (by first | omega | (simp; done)))))), h2, h3, HC.out, HV.out⟩, by (repeat first | with_reducible exact Below.refl _ _ | (with_reducible refine Below.alloc ?_ ?_ _; rotate_left; exact (by first | omega | (simp; done))))⟩
 ·have e1 : decide (z < 0) = false := by simp; omega
  have HE := Lib.hid (show decide (-z < 0) = false by simp; omega)
  obtain rfl : n = 0 := hz.2 h
  rw [e1]
  clear e1 hz h
  go_enter Tryz.func135, Tryz.ntmps135
  go_wp2
  all_goals exact bodyPost_ret (res2c Tryz.results135 _ _ _ (.bool false) (.slice A 0 cap) rfl (by go_simp) (by go_simp)) rfl ⟨_, rfl, ⟨A, 0, cap, P, by rw [HE.out], (HI.out.below (by (repeat first | with_reducible exact Below.refl _ _ | (with_reducible refine Below.alloc ?_ ?_ _; rotate_left; exact (by first | omega | (simp; done)))))), h2, h3, HC.out, HV.out⟩, by (repeat first | with_reducible exact Below.refl _ _ | (with_reducible refine Below.alloc ?_ ?_ _; rotate_left; exact (by first | omega | (simp; done))))⟩
 ·have e1 : decide (z < 0) = false := by simp; omega
  have HE := Lib.hid (show decide (-z < 0) = true by simp; omega)
  have hn : 0 < n := by omega
  rw [e1]
  clear e1 hz h
  go_enter Tryz.func135, Tryz.ntmps135
  go_wp2
  all_goals exact bodyPost_ret (res2c Tryz.results135 _ _ _ (.bool true) (.slice A n cap) rfl (by go_simp) (by go_simp)) rfl ⟨_, rfl, ⟨A, n, cap, P, by rw [HE.out], (HI.out.below (by (repeat first | with_reducible exact Below.refl _ _ | (with_reducible refine Below.alloc ?_ ?_ _; rotate_left; exact (by first | omega | (simp; done)))))), h2, h3, HC.out, HV.out⟩, by (repeat first | with_reducible exact Below.refl _ _ | (with_reducible refine Below.alloc ?_ ?_ _; rotate_left; exact (by first | omega | (simp; done))))⟩
theorem RetNew.big {base : Nat} {z : Int} {w w' : World} {e : Ending} (h : RetNew base z w e w') : RetBig z w e w' := by
 obtain ⟨v, h1, h2, h3⟩ := h
 exact ⟨v, h1, h2.big, h3⟩
theorem minus_big (z : Int) (u : Value) (w : World) (hu : BigV w u z) :
  Calls Tryz.prog 135 #[u] w (RetBig (-z) w) :=
 (minus_new 0 z u w hu).mono fun _ _ h => h.big
end
end Go.Proofs.YthggkidiidnaoaaGreat
