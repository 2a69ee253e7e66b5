import Derived.Test.YtfpjhobhmcfpnaaDoorJAF
section
/- The laws over package sense: brief, over this seat's translation (written by mk_sv.py). -/
namespace Go.Proofs.YtfpjhobhmcfpnaaDoor
set_option linter.unusedVariables false
set_option linter.unusedSimpArgs false
open Go.RowKit Go.Shelf

def briefB (la lb lc ld p q s n : Nat) : Bool := (decide (la ≤ 40) && (decide (lb ≤ 40) && (decide (lc ≤ 40) && (decide (ld ≤ 60) && (decide (p ≤ 100) && (decide (q ≤ 100) && (decide (s ≤ 200) && decide (n ≤ 100))))))))

set_option maxRecDepth 100000 in
set_option maxHeartbeats 4000000 in
theorem brief_any (name : ByteArray) (A B C D : Option Addr) (la ca lb cb lc cc ld cd : Nat) (r z nr nz step : Int) (P Q S F : Option Addr) (p pc q qc s sc n nc : Nat) (w : World) :
    Calls Tryd.prog 6 #[.agg #[.string name, .slice A la ca, .slice B lb cb, .slice C lc cc, .int .i64 r, .int .i64 z, .int .i64 nr, .int .i64 nz, .int .i64 step, .slice D ld cd], .agg #[.slice P p pc, .slice Q q qc, .slice S s sc], .slice F n nc] w (Ret (.bool (briefB la lb lc ld p q s n)) w) := by
  have HE : Hid (briefB la lb lc ld p q s n = (decide (la ≤ 40) && (decide (lb ≤ 40) && (decide (lc ≤ 40) && (decide (ld ≤ 60) && (decide (p ≤ 100) && (decide (q ≤ 100) && (decide (s ≤ 200) && decide (n ≤ 100))))))))) := Lib.hid rfl
  generalize briefB la lb lc ld p q s n = G at *
  by_cases k0 : la ≤ 40
  rotate_left
  · have HF : Hid (false = G) := Lib.hid (by rw [HE.out, decide_eq_false k0]; simp)
    clear HE
    go_enter Tryd.func6, Tryd.ntmps6
    go_wp2_with fail
    go_ret
    exact ⟨by rw [← HF.out]; rfl, by (with_reducible repeat first | exact Below.refl _ _ | assumption | ((first | refine Below.setCell ?_ ?_ _ | refine Below.alloc ?_ ?_ _); rotate_left; exact (by first | omega | (simp; done) | (simp; omega))) | refine Below.drew ?_ | refine Below_drewN ?_ _)⟩
  by_cases k1 : lb ≤ 40
  rotate_left
  · have HF : Hid (false = G) := Lib.hid (by rw [HE.out, decide_eq_false k1]; simp)
    clear HE
    go_enter Tryd.func6, Tryd.ntmps6
    go_wp2_with fail
    go_ret
    exact ⟨by rw [← HF.out]; rfl, by (with_reducible repeat first | exact Below.refl _ _ | assumption | ((first | refine Below.setCell ?_ ?_ _ | refine Below.alloc ?_ ?_ _); rotate_left; exact (by first | omega | (simp; done) | (simp; omega))) | refine Below.drew ?_ | refine Below_drewN ?_ _)⟩
  by_cases k2 : lc ≤ 40
  rotate_left
  · have HF : Hid (false = G) := Lib.hid (by rw [HE.out, decide_eq_false k2]; simp)
    clear HE
    go_enter Tryd.func6, Tryd.ntmps6
    go_wp2_with fail
    go_ret
    exact ⟨by rw [← HF.out]; rfl, by (with_reducible repeat first | exact Below.refl _ _ | assumption | ((first | refine Below.setCell ?_ ?_ _ | refine Below.alloc ?_ ?_ _); rotate_left; exact (by first | omega | (simp; done) | (simp; omega))) | refine Below.drew ?_ | refine Below_drewN ?_ _)⟩
  by_cases k3 : ld ≤ 60
  rotate_left
  · have HF : Hid (false = G) := Lib.hid (by rw [HE.out, decide_eq_false k3]; simp)
    clear HE
    go_enter Tryd.func6, Tryd.ntmps6
    go_wp2_with fail
    go_ret
    exact ⟨by rw [← HF.out]; rfl, by (with_reducible repeat first | exact Below.refl _ _ | assumption | ((first | refine Below.setCell ?_ ?_ _ | refine Below.alloc ?_ ?_ _); rotate_left; exact (by first | omega | (simp; done) | (simp; omega))) | refine Below.drew ?_ | refine Below_drewN ?_ _)⟩
  by_cases k4 : p ≤ 100
  rotate_left
  · have HF : Hid (false = G) := Lib.hid (by rw [HE.out, decide_eq_false k4]; simp)
    clear HE
    go_enter Tryd.func6, Tryd.ntmps6
    go_wp2_with fail
    go_ret
    exact ⟨by rw [← HF.out]; rfl, by (with_reducible repeat first | exact Below.refl _ _ | assumption | ((first | refine Below.setCell ?_ ?_ _ | refine Below.alloc ?_ ?_ _); rotate_left; exact (by first | omega | (simp; done) | (simp; omega))) | refine Below.drew ?_ | refine Below_drewN ?_ _)⟩
  by_cases k5 : q ≤ 100
  rotate_left
  · have HF : Hid (false = G) := Lib.hid (by rw [HE.out, decide_eq_false k5]; simp)
    clear HE
    go_enter Tryd.func6, Tryd.ntmps6
    go_wp2_with fail
    go_ret
    exact ⟨by rw [← HF.out]; rfl, by (with_reducible repeat first | exact Below.refl _ _ | assumption | ((first | refine Below.setCell ?_ ?_ _ | refine Below.alloc ?_ ?_ _); rotate_left; exact (by first | omega | (simp; done) | (simp; omega))) | refine Below.drew ?_ | refine Below_drewN ?_ _)⟩
  by_cases k6 : s ≤ 200
  rotate_left
  · have HF : Hid (false = G) := Lib.hid (by rw [HE.out, decide_eq_false k6]; simp)
    clear HE
    go_enter Tryd.func6, Tryd.ntmps6
    go_wp2_with fail
    go_ret
    exact ⟨by rw [← HF.out]; rfl, by (with_reducible repeat first | exact Below.refl _ _ | assumption | ((first | refine Below.setCell ?_ ?_ _ | refine Below.alloc ?_ ?_ _); rotate_left; exact (by first | omega | (simp; done) | (simp; omega))) | refine Below.drew ?_ | refine Below_drewN ?_ _)⟩
  by_cases k7 : n ≤ 100
  rotate_left
  · have HF : Hid (false = G) := Lib.hid (by rw [HE.out, decide_eq_false k7]; simp)
    clear HE
    have dn : decide ((n : Int) ≤ 100) = false := decide_eq_false (by omega)
    go_enter Tryd.func6, Tryd.ntmps6
    go_wp2_with fail
    go_ret
    exact ⟨by rw [← HF.out]; rfl, by (with_reducible repeat first | exact Below.refl _ _ | assumption | ((first | refine Below.setCell ?_ ?_ _ | refine Below.alloc ?_ ?_ _); rotate_left; exact (by first | omega | (simp; done) | (simp; omega))) | refine Below.drew ?_ | refine Below_drewN ?_ _)⟩
  have HF : Hid (true = G) := Lib.hid (by rw [HE.out, decide_eq_true k0, decide_eq_true k1, decide_eq_true k2, decide_eq_true k3, decide_eq_true k4, decide_eq_true k5, decide_eq_true k6, decide_eq_true k7]; rfl)
  clear HE
  have dn : decide ((n : Int) ≤ 100) = true := decide_eq_true (by omega)
  go_enter Tryd.func6, Tryd.ntmps6
  go_wp2_with fail
  go_ret
  exact ⟨by rw [← HF.out]; rfl, by (with_reducible repeat first | exact Below.refl _ _ | assumption | ((first | refine Below.setCell ?_ ?_ _ | refine Below.alloc ?_ ?_ _); rotate_left; exact (by first | omega | (simp; done) | (simp; omega))) | refine Below.drew ?_ | refine Below_drewN ?_ _)⟩
theorem brief_bd {la lb lc ld p q s n : Nat} (h : briefB la lb lc ld p q s n = true) : la ≤ 40 ∧ lb ≤ 40 ∧ lc ≤ 40 ∧ ld ≤ 60 ∧ p ≤ 100 ∧ q ≤ 100 ∧ s ≤ 200 ∧ n ≤ 100 := by
  simpa [briefB, Bool.and_eq_true, decide_eq_true_iff] using h

end Go.Proofs.YtfpjhobhmcfpnaaDoor
end
