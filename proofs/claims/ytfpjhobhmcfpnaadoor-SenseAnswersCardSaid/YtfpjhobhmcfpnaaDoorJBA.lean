import Derived.Test.YtfpjhobhmcfpnaaDoorJAA
import Derived.Test.YtfpjhobhmcfpnaaDoorJAE
import Derived.Test.YtfpjhobhmcfpnaaDoorJAZ
import Derived.Deep.RegionHeld3
import Derived.Deep.DeepCutAuto
import Derived.Deep.QuietTactic
import Derived.BigQuiet
import Derived.IntWalk
import Derived.Laws.MathBits
import Derived.Lib.Hide
section
/- The specification of layer 2: SameCurrents, over this seat's translation (written by mk_smc.py). -/
namespace Go.Proofs.YtfpjhobhmcfpnaaDoor
set_option linter.unusedVariables false
set_option linter.unusedSimpArgs false
open Go.RowKit Go.Shelf

set_option maxRecDepth 100000 in
set_option maxHeartbeats 4000000 in
theorem rsameC_any (P Q : CurR) (C D : CurD) (w : World) (h1 : IsC w P C) (h2 : IsC w Q D) :
    Calls Tryd.prog 14 #[P.v, Q.v] w (Ret (.bool (decide (C.coils = D.coils) && (decide (C.shells = D.shells) && decide (C.plasma = D.plasma)))) w) := by
  have H1 := Lib.hid (fun W (hb : Below w.heap.size w W) => rsame_any P.A Q.A P.la P.ca Q.la Q.ca C.coils D.coils W (h1.below hb).coils (h2.below hb).coils h1.ka h2.ka)
  have H2 := Lib.hid (fun W (hb : Below w.heap.size w W) => rsame_any P.B Q.B P.lb P.cb Q.lb Q.cb C.shells D.shells W (h1.below hb).shells (h2.below hb).shells h1.kb h2.kb)
  have H3 := Lib.hid (fun W (hb : Below w.heap.size w W) => rsame_any P.C Q.C P.lc P.cc Q.lc Q.cc C.plasma D.plasma W (h1.below hb).plasma (h2.below hb).plasma h1.kc h2.kc)
  clear h1 h2
  generalize decide (C.coils = D.coils) = x1 at *
  generalize decide (C.shells = D.shells) = x2 at *
  generalize decide (C.plasma = D.plasma) = x3 at *
  obtain ⟨A1, B1, C1, na, qa, nb, qb, nc, qc⟩ := P
  obtain ⟨A2, B2, C2, ma, ra, mb, rb, mc, rc⟩ := Q
  dsimp only [CurR.v] at *
  go_enter Tryd.func14, Tryd.ntmps14
  go_upto_region 1 with (fail)
  have m0 : (((w.alloc (.cells #[.slice A1 na qa, .slice B1 nb qb, .slice C1 nc qc] 32)).alloc (.cells #[.slice A2 ma ra, .slice B2 mb rb, .slice C2 mc rc] 32))).cell? ⟨w.heap.size, 0, none⟩ = some (.slice A1 na qa) := by go_simp
  have m1 : (((w.alloc (.cells #[.slice A1 na qa, .slice B1 nb qb, .slice C1 nc qc] 32)).alloc (.cells #[.slice A2 ma ra, .slice B2 mb rb, .slice C2 mc rc] 32))).cell? ⟨w.heap.size, 1, none⟩ = some (.slice B1 nb qb) := by go_simp
  have m2 : (((w.alloc (.cells #[.slice A1 na qa, .slice B1 nb qb, .slice C1 nc qc] 32)).alloc (.cells #[.slice A2 ma ra, .slice B2 mb rb, .slice C2 mc rc] 32))).cell? ⟨w.heap.size, 2, none⟩ = some (.slice C1 nc qc) := by go_simp
  have q0 : (((w.alloc (.cells #[.slice A1 na qa, .slice B1 nb qb, .slice C1 nc qc] 32)).alloc (.cells #[.slice A2 ma ra, .slice B2 mb rb, .slice C2 mc rc] 32))).cell? ⟨w.heap.size + 1, 0, none⟩ = some (.slice A2 ma ra) := by go_simp
  have q1 : (((w.alloc (.cells #[.slice A1 na qa, .slice B1 nb qb, .slice C1 nc qc] 32)).alloc (.cells #[.slice A2 ma ra, .slice B2 mb rb, .slice C2 mc rc] 32))).cell? ⟨w.heap.size + 1, 1, none⟩ = some (.slice B2 mb rb) := by go_simp
  have q2 : (((w.alloc (.cells #[.slice A1 na qa, .slice B1 nb qb, .slice C1 nc qc] 32)).alloc (.cells #[.slice A2 ma ra, .slice B2 mb rb, .slice C2 mc rc] 32))).cell? ⟨w.heap.size + 1, 2, none⟩ = some (.slice C2 mc rc) := by go_simp
  have hB0 : Below w.heap.size w (((w.alloc (.cells #[.slice A1 na qa, .slice B1 nb qb, .slice C1 nc qc] 32)).alloc (.cells #[.slice A2 ma ra, .slice B2 mb rb, .slice C2 mc rc] 32))) := by (with_reducible repeat first | exact Below.refl _ _ | assumption | ((first | refine Below.setCell ?_ ?_ _ | refine Below.alloc ?_ ?_ _); rotate_left; exact (by first | omega | (simp; done) | (simp; omega))) | refine Below.drew ?_ | refine Below_drewN ?_ _)
  have hz : w.heap.size + 1 < (((w.alloc (.cells #[.slice A1 na qa, .slice B1 nb qb, .slice C1 nc qc] 32)).alloc (.cells #[.slice A2 ma ra, .slice B2 mb rb, .slice C2 mc rc] 32))).heap.size := by simp
  obtain ⟨W0, hW0⟩ : ∃ W, ((w.alloc (.cells #[.slice A1 na qa, .slice B1 nb qb, .slice C1 nc qc] 32)).alloc (.cells #[.slice A2 ma ra, .slice B2 mb rb, .slice C2 mc rc] 32)) = W := ⟨_, rfl⟩
  rw [hW0] at m0 m1 m2 q0 q1 q2 hB0 hz ⊢
  clear hW0
  have FA := Lib.hid (BoxL.mk3 (W := W0) (by omega) m0 m1 m2)
  have FB := Lib.hid (BoxL.mk3 (W := W0) hz q0 q1 q2)
  clear m0 m1 m2 q0 q1 q2
  have HB : Hid (∀ w' : World, Below W0.heap.size W0 w' → Below w.heap.size w w') := Lib.hid (fun w' h => hB0.trans (h.mono (by omega)))
  have m0 := (FA.out.below (Below.refl _ _)).at 0 (.slice A1 na qa) rfl
  have m1 := (FA.out.below (Below.refl _ _)).at 1 (.slice B1 nb qb) rfl
  have m2 := (FA.out.below (Below.refl _ _)).at 2 (.slice C1 nc qc) rfl
  have q0 := (FB.out.below (Below.refl _ _)).at 0 (.slice A2 ma ra) rfl
  have q1 := (FB.out.below (Below.refl _ _)).at 1 (.slice B2 mb rb) rfl
  have q2 := (FB.out.below (Below.refl _ _)).at 2 (.slice C2 mc rc) rfl
  cases x1
  · rw [Bool.false_and]
    go_wp2_with fail
    refine (H1.out _ (HB.out _ (by (repeat first | with_reducible exact Below.refl _ _ | with_reducible assumption | with_reducible exact (‹Below _ _ _ ∧ _›).1 | (with_reducible refine Below.alloc ?_ ?_ _; rotate_left; exact (by first | omega | (simp; done) | (simp; omega))) | with_reducible refine Below.drew ?_)))).mono ?_
    rintro e w1 ⟨rfl, hb1⟩
    have hB1 : Below W0.heap.size W0 w1 := Below.trans (by (repeat first | with_reducible exact Below.refl _ _ | with_reducible assumption | with_reducible exact (‹Below _ _ _ ∧ _›).1 | (with_reducible refine Below.alloc ?_ ?_ _; rotate_left; exact (by first | omega | (simp; done) | (simp; omega))) | with_reducible refine Below.drew ?_)) (hb1.mono (by (try simp only [World.size_alloc, size_drew]); omega))
    have sz1 := hB1.size
    clear hb1 m0 m1 m2 q0 q1 q2
    have m0 := (FA.out.below hB1).at 0 (.slice A1 na qa) rfl
    have m1 := (FA.out.below hB1).at 1 (.slice B1 nb qb) rfl
    have m2 := (FA.out.below hB1).at 2 (.slice C1 nc qc) rfl
    have q0 := (FB.out.below hB1).at 0 (.slice A2 ma ra) rfl
    have q1 := (FB.out.below hB1).at 1 (.slice B2 mb rb) rfl
    have q2 := (FB.out.below hB1).at 2 (.slice C2 mc rc) rfl
    go_wp2_with fail
    go_ret
    exact ⟨rfl, HB.out _ (by (repeat first | with_reducible exact Below.refl _ _ | with_reducible assumption | with_reducible exact (‹Below _ _ _ ∧ _›).1 | (with_reducible refine Below.alloc ?_ ?_ _; rotate_left; exact (by first | omega | (simp; done) | (simp; omega))) | with_reducible refine Below.drew ?_))⟩
  · rw [Bool.true_and]
    go_wp2_with fail
    refine (H1.out _ (HB.out _ (by (repeat first | with_reducible exact Below.refl _ _ | with_reducible assumption | with_reducible exact (‹Below _ _ _ ∧ _›).1 | (with_reducible refine Below.alloc ?_ ?_ _; rotate_left; exact (by first | omega | (simp; done) | (simp; omega))) | with_reducible refine Below.drew ?_)))).mono ?_
    rintro e w1 ⟨rfl, hb1⟩
    have hB1 : Below W0.heap.size W0 w1 := Below.trans (by (repeat first | with_reducible exact Below.refl _ _ | with_reducible assumption | with_reducible exact (‹Below _ _ _ ∧ _›).1 | (with_reducible refine Below.alloc ?_ ?_ _; rotate_left; exact (by first | omega | (simp; done) | (simp; omega))) | with_reducible refine Below.drew ?_)) (hb1.mono (by (try simp only [World.size_alloc, size_drew]); omega))
    have sz1 := hB1.size
    clear hb1 m0 m1 m2 q0 q1 q2
    have m0 := (FA.out.below hB1).at 0 (.slice A1 na qa) rfl
    have m1 := (FA.out.below hB1).at 1 (.slice B1 nb qb) rfl
    have m2 := (FA.out.below hB1).at 2 (.slice C1 nc qc) rfl
    have q0 := (FB.out.below hB1).at 0 (.slice A2 ma ra) rfl
    have q1 := (FB.out.below hB1).at 1 (.slice B2 mb rb) rfl
    have q2 := (FB.out.below hB1).at 2 (.slice C2 mc rc) rfl
    cases x2
    · rw [Bool.false_and]
      go_wp2_with fail
      refine (H2.out _ (HB.out _ (by (repeat first | with_reducible exact Below.refl _ _ | with_reducible assumption | with_reducible exact (‹Below _ _ _ ∧ _›).1 | (with_reducible refine Below.alloc ?_ ?_ _; rotate_left; exact (by first | omega | (simp; done) | (simp; omega))) | with_reducible refine Below.drew ?_)))).mono ?_
      rintro e w2 ⟨rfl, hb2⟩
      have hB2 : Below W0.heap.size W0 w2 := Below.trans (by (repeat first | with_reducible exact Below.refl _ _ | with_reducible assumption | with_reducible exact (‹Below _ _ _ ∧ _›).1 | (with_reducible refine Below.alloc ?_ ?_ _; rotate_left; exact (by first | omega | (simp; done) | (simp; omega))) | with_reducible refine Below.drew ?_)) (hb2.mono (by (try simp only [World.size_alloc, size_drew]); omega))
      have sz2 := hB2.size
      clear hb2 m0 m1 m2 q0 q1 q2
      have m0 := (FA.out.below hB2).at 0 (.slice A1 na qa) rfl
      have m1 := (FA.out.below hB2).at 1 (.slice B1 nb qb) rfl
      have m2 := (FA.out.below hB2).at 2 (.slice C1 nc qc) rfl
      have q0 := (FB.out.below hB2).at 0 (.slice A2 ma ra) rfl
      have q1 := (FB.out.below hB2).at 1 (.slice B2 mb rb) rfl
      have q2 := (FB.out.below hB2).at 2 (.slice C2 mc rc) rfl
      go_wp2_with fail
      go_ret
      exact ⟨rfl, HB.out _ (by (repeat first | with_reducible exact Below.refl _ _ | with_reducible assumption | with_reducible exact (‹Below _ _ _ ∧ _›).1 | (with_reducible refine Below.alloc ?_ ?_ _; rotate_left; exact (by first | omega | (simp; done) | (simp; omega))) | with_reducible refine Below.drew ?_))⟩
    · rw [Bool.true_and]
      go_wp2_with fail
      refine (H2.out _ (HB.out _ (by (repeat first | with_reducible exact Below.refl _ _ | with_reducible assumption | with_reducible exact (‹Below _ _ _ ∧ _›).1 | (with_reducible refine Below.alloc ?_ ?_ _; rotate_left; exact (by first | omega | (simp; done) | (simp; omega))) | with_reducible refine Below.drew ?_)))).mono ?_
      rintro e w2 ⟨rfl, hb2⟩
      have hB2 : Below W0.heap.size W0 w2 := Below.trans (by (repeat first | with_reducible exact Below.refl _ _ | with_reducible assumption | with_reducible exact (‹Below _ _ _ ∧ _›).1 | (with_reducible refine Below.alloc ?_ ?_ _; rotate_left; exact (by first | omega | (simp; done) | (simp; omega))) | with_reducible refine Below.drew ?_)) (hb2.mono (by (try simp only [World.size_alloc, size_drew]); omega))
      have sz2 := hB2.size
      clear hb2 m0 m1 m2 q0 q1 q2
      have m0 := (FA.out.below hB2).at 0 (.slice A1 na qa) rfl
      have m1 := (FA.out.below hB2).at 1 (.slice B1 nb qb) rfl
      have m2 := (FA.out.below hB2).at 2 (.slice C1 nc qc) rfl
      have q0 := (FB.out.below hB2).at 0 (.slice A2 ma ra) rfl
      have q1 := (FB.out.below hB2).at 1 (.slice B2 mb rb) rfl
      have q2 := (FB.out.below hB2).at 2 (.slice C2 mc rc) rfl
      go_wp2_with fail
      refine (H3.out _ (HB.out _ (by (repeat first | with_reducible exact Below.refl _ _ | with_reducible assumption | with_reducible exact (‹Below _ _ _ ∧ _›).1 | (with_reducible refine Below.alloc ?_ ?_ _; rotate_left; exact (by first | omega | (simp; done) | (simp; omega))) | with_reducible refine Below.drew ?_)))).mono ?_
      rintro e w3 ⟨rfl, hb3⟩
      have hB3 : Below W0.heap.size W0 w3 := Below.trans (by (repeat first | with_reducible exact Below.refl _ _ | with_reducible assumption | with_reducible exact (‹Below _ _ _ ∧ _›).1 | (with_reducible refine Below.alloc ?_ ?_ _; rotate_left; exact (by first | omega | (simp; done) | (simp; omega))) | with_reducible refine Below.drew ?_)) (hb3.mono (by (try simp only [World.size_alloc, size_drew]); omega))
      have sz3 := hB3.size
      clear hb3 m0 m1 m2 q0 q1 q2
      have m0 := (FA.out.below hB3).at 0 (.slice A1 na qa) rfl
      have m1 := (FA.out.below hB3).at 1 (.slice B1 nb qb) rfl
      have m2 := (FA.out.below hB3).at 2 (.slice C1 nc qc) rfl
      have q0 := (FB.out.below hB3).at 0 (.slice A2 ma ra) rfl
      have q1 := (FB.out.below hB3).at 1 (.slice B2 mb rb) rfl
      have q2 := (FB.out.below hB3).at 2 (.slice C2 mc rc) rfl
      go_wp2_with fail
      go_ret
      exact ⟨rfl, HB.out _ (by (repeat first | with_reducible exact Below.refl _ _ | with_reducible assumption | with_reducible exact (‹Below _ _ _ ∧ _›).1 | (with_reducible refine Below.alloc ?_ ?_ _; rotate_left; exact (by first | omega | (simp; done) | (simp; omega))) | with_reducible refine Below.drew ?_))⟩

end Go.Proofs.YtfpjhobhmcfpnaaDoor
end
section
/- The laws over package sense: brief, over this seat's translation (written by mk_sv.py). -/
namespace Go.Proofs.YtfpjhobhmcfpnaaDoor
set_option linter.unusedVariables false
set_option linter.unusedSimpArgs false
open Go.RowKit Go.Shelf

def briefB (la lb lc ld p q s n : Nat) : Bool := (decide (la ≤ 40) && (decide (lb ≤ 40) && (decide (lc ≤ 40) && (decide (ld ≤ 60) && (decide (p ≤ 100) && (decide (q ≤ 100) && (decide (s ≤ 200) && decide (n ≤ 100))))))))

set_option maxRecDepth 100000 in
set_option maxHeartbeats 4000000 in
theorem brief_any (name : ByteArray) (A B C D : Option Addr) (la ca lb cb lc cc ld cd : Nat) (r z nr nz step : Int) (P Q S F : Option Addr) (p pc q qc s sc n nc : Nat) (w : World) :
    Calls Tryd.prog 6 #[.agg #[.string name, .slice A la ca, .slice B lb cb, .slice C lc cc, .int .i64 r, .int .i64 z, .int .i64 nr, .int .i64 nz, .int .i64 step, .slice D ld cd], .agg #[.slice P p pc, .slice Q q qc, .slice S s sc], .slice F n nc] w (Ret (.bool (briefB la lb lc ld p q s n)) w) := by
  have HE : Hid (briefB la lb lc ld p q s n = (decide (la ≤ 40) && (decide (lb ≤ 40) && (decide (lc ≤ 40) && (decide (ld ≤ 60) && (decide (p ≤ 100) && (decide (q ≤ 100) && (decide (s ≤ 200) && decide (n ≤ 100))))))))) := Lib.hid rfl
  generalize briefB la lb lc ld p q s n = G at *
  by_cases k0 : la ≤ 40
  rotate_left
  · have HF : Hid (false = G) := Lib.hid (by rw [HE.out, decide_eq_false k0]; simp)
    clear HE
    go_enter Tryd.func6, Tryd.ntmps6
    go_wp2_with fail
    go_ret
    exact ⟨by rw [← HF.out]; rfl, by (with_reducible repeat first | exact Below.refl _ _ | assumption | ((first | refine Below.setCell ?_ ?_ _ | refine Below.alloc ?_ ?_ _); rotate_left; exact (by first | omega | (simp; done) | (simp; omega))) | refine Below.drew ?_ | refine Below_drewN ?_ _)⟩
  by_cases k1 : lb ≤ 40
  rotate_left
  · have HF : Hid (false = G) := Lib.hid (by rw [HE.out, decide_eq_false k1]; simp)
    clear HE
    go_enter Tryd.func6, Tryd.ntmps6
    go_wp2_with fail
    go_ret
    exact ⟨by rw [← HF.out]; rfl, by (with_reducible repeat first | exact Below.refl _ _ | assumption | ((first | refine Below.setCell ?_ ?_ _ | refine Below.alloc ?_ ?_ _); rotate_left; exact (by first | omega | (simp; done) | (simp; omega))) | refine Below.drew ?_ | refine Below_drewN ?_ _)⟩
  by_cases k2 : lc ≤ 40
  rotate_left
  · have HF : Hid (false = G) := Lib.hid (by rw [HE.out, decide_eq_false k2]; simp)
    clear HE
    go_enter Tryd.func6, Tryd.ntmps6
    go_wp2_with fail
    go_ret
    exact ⟨by rw [← HF.out]; rfl, by (with_reducible repeat first | exact Below.refl _ _ | assumption | ((first | refine Below.setCell ?_ ?_ _ | refine Below.alloc ?_ ?_ _); rotate_left; exact (by first | omega | (simp; done) | (simp; omega))) | refine Below.drew ?_ | refine Below_drewN ?_ _)⟩
  by_cases k3 : ld ≤ 60
  rotate_left
  · have HF : Hid (false = G) := Lib.hid (by rw [HE.out, decide_eq_false k3]; simp)
    clear HE
    go_enter Tryd.func6, Tryd.ntmps6
    go_wp2_with fail
    go_ret
    exact ⟨by rw [← HF.out]; rfl, by (with_reducible repeat first | exact Below.refl _ _ | assumption | ((first | refine Below.setCell ?_ ?_ _ | refine Below.alloc ?_ ?_ _); rotate_left; exact (by first | omega | (simp; done) | (simp; omega))) | refine Below.drew ?_ | refine Below_drewN ?_ _)⟩
  by_cases k4 : p ≤ 100
  rotate_left
  · have HF : Hid (false = G) := Lib.hid (by rw [HE.out, decide_eq_false k4]; simp)
    clear HE
    go_enter Tryd.func6, Tryd.ntmps6
    go_wp2_with fail
    go_ret
    exact ⟨by rw [← HF.out]; rfl, by (with_reducible repeat first | exact Below.refl _ _ | assumption | ((first | refine Below.setCell ?_ ?_ _ | refine Below.alloc ?_ ?_ _); rotate_left; exact (by first | omega | (simp; done) | (simp; omega))) | refine Below.drew ?_ | refine Below_drewN ?_ _)⟩
  by_cases k5 : q ≤ 100
  rotate_left
  · have HF : Hid (false = G) := Lib.hid (by rw [HE.out, decide_eq_false k5]; simp)
    clear HE
    go_enter Tryd.func6, Tryd.ntmps6
    go_wp2_with fail
    go_ret
    exact ⟨by rw [← HF.out]; rfl, by (with_reducible repeat first | exact Below.refl _ _ | assumption | ((first | refine Below.setCell ?_ ?_ _ | refine Below.alloc ?_ ?_ _); rotate_left; exact (by first | omega | (simp; done) | (simp; omega))) | refine Below.drew ?_ | refine Below_drewN ?_ _)⟩
  by_cases k6 : s ≤ 200
  rotate_left
  · have HF : Hid (false = G) := Lib.hid (by rw [HE.out, decide_eq_false k6]; simp)
    clear HE
    go_enter Tryd.func6, Tryd.ntmps6
    go_wp2_with fail
    go_ret
    exact ⟨by rw [← HF.out]; rfl, by (with_reducible repeat first | exact Below.refl _ _ | assumption | ((first | refine Below.setCell ?_ ?_ _ | refine Below.alloc ?_ ?_ _); rotate_left; exact (by first | omega | (simp; done) | (simp; omega))) | refine Below.drew ?_ | refine Below_drewN ?_ _)⟩
  by_cases k7 : n ≤ 100
  rotate_left
  · have HF : Hid (false = G) := Lib.hid (by rw [HE.out, decide_eq_false k7]; simp)
    clear HE
    have dn : decide ((n : Int) ≤ 100) = false := decide_eq_false (by omega)
    go_enter Tryd.func6, Tryd.ntmps6
    go_wp2_with fail
    go_ret
    exact ⟨by rw [← HF.out]; rfl, by (with_reducible repeat first | exact Below.refl _ _ | assumption | ((first | refine Below.setCell ?_ ?_ _ | refine Below.alloc ?_ ?_ _); rotate_left; exact (by first | omega | (simp; done) | (simp; omega))) | refine Below.drew ?_ | refine Below_drewN ?_ _)⟩
  have HF : Hid (true = G) := Lib.hid (by rw [HE.out, decide_eq_true k0, decide_eq_true k1, decide_eq_true k2, decide_eq_true k3, decide_eq_true k4, decide_eq_true k5, decide_eq_true k6, decide_eq_true k7]; rfl)
  clear HE
  have dn : decide ((n : Int) ≤ 100) = true := decide_eq_true (by omega)
  go_enter Tryd.func6, Tryd.ntmps6
  go_wp2_with fail
  go_ret
  exact ⟨by rw [← HF.out]; rfl, by (with_reducible repeat first | exact Below.refl _ _ | assumption | ((first | refine Below.setCell ?_ ?_ _ | refine Below.alloc ?_ ?_ _); rotate_left; exact (by first | omega | (simp; done) | (simp; omega))) | refine Below.drew ?_ | refine Below_drewN ?_ _)⟩
theorem brief_bd {la lb lc ld p q s n : Nat} (h : briefB la lb lc ld p q s n = true) : la ≤ 40 ∧ lb ≤ 40 ∧ lc ≤ 40 ∧ ld ≤ 60 ∧ p ≤ 100 ∧ q ≤ 100 ∧ s ≤ 200 ∧ n ≤ 100 := by
  simpa [briefB, Bool.and_eq_true, decide_eq_true_iff] using h

end Go.Proofs.YtfpjhobhmcfpnaaDoor
end
section
/- slices.IndexFunc and ContainsFunc over []Fault, over this seat's translation (written by mk_mac.py). -/
namespace Go.Proofs.YtfpjhobhmcfpnaaDoor
set_option linter.unusedVariables false
set_option linter.unusedSimpArgs false
open Go.RowKit

set_option maxHeartbeats 2000000 in
theorem indexFault1 (k : Nat) (c0 : Nat) (p : FaultD → Bool) (A : Option Addr) (len cap : Nat) (zs : List FaultD) (w : World) (hI : IsT 4 FaultD.cells w A len zs) (hl : len ≤ 1000000000000000)
    (hE : ∀ (args : Array Value) (W : World), (callFunc k args).run Tryd.prog W = .ok (.enter k args) W)
    (hk : ∀ (x : FaultD) (W : World), x ∈ zs → Below w.heap.size w W → Calls Tryd.prog k #[FaultD.v x, .pointer (some ⟨c0, 0, none⟩)] W (Ret (.bool (p x)) W)) :
    Calls Tryd.prog 109 #[.slice A len cap, .func (.func k) #[] #[.pointer (some ⟨c0, 0, none⟩)]] w (Ret (.int .i64 (idxL p zs)) w) := by
  have HI := Lib.hid hI
  have HK := Lib.hid hk
  have HG : Hid (idxL p zs = idxGo p zs 0) := Lib.hid rfl
  generalize idxL p zs = G at *
  clear hI hk
  go_enter Tryd.func109, Tryd.ntmps109
  go_wp2_with fail
  go_loopw [5, 8] (fun _ i wr => ∃ j : Nat, j ≤ len ∧ i = .int .i64 j ∧ Hid (idxGo p (zs.drop j) j = G) ∧ Below w.heap.size w wr) (fun _ i _ => len - (intOf i).toNat)
  case atStart => exact ⟨0, Nat.zero_le _, rfl, Lib.hid HG.out.symm, Below.refl _ _⟩
  case round =>
    obtain ⟨j, hj, rfl, hG, hB⟩ := hrel
    by_cases hlt : j < len
    · obtain ⟨hzl, hcl⟩ := HI.out.below hB
      obtain ⟨b, o, rfl, hb0, hcl⟩ := hcl (by omega)
      obtain ⟨x, hx⟩ : ∃ x, zs[j]? = some x := ⟨_, List.getElem?_eq_getElem (by omega)⟩
      have HM := Lib.hid (List.mem_of_getElem? hx)
      have HS := Lib.hid (idxGo_drop p hx (j : Int))
      have x0 : wr.cell? ⟨b, o + j * 4, none⟩ = some (.int .i64 x.at_) := by have h := hcl j x hx 0 _ rfl; simpa using h
      have x1 : wr.cell? ⟨b, o + j * 4 + 1, none⟩ = some (.int .i64 x.sensor) := by have h := hcl j x hx 1 _ rfl; simpa using h
      have x2 : wr.cell? ⟨b, o + j * 4 + 2, none⟩ = some (.int .i64 x.kind) := by have h := hcl j x hx 2 _ rfl; simpa using h
      have x3 : wr.cell? ⟨b, o + j * 4 + 3, none⟩ = some (.int .i64 x.n) := by have h := hcl j x hx 3 _ rfl; simpa using h
      have hsz := hB.size
      have HC := Lib.hid (HK.out x)
      clear hcl hx hzl
      cases hp : p x
      · have HN : Hid (idxGo p (zs.drop (j + 1)) ((j + 1 : Nat) : Int) = G) := Lib.hid (by rw [← hG.out, HS.out, hp]; rfl)
        have HC := Lib.hid (show ∀ W, Below w.heap.size w W → Calls Tryd.prog k #[FaultD.v x, .pointer (some ⟨c0, 0, none⟩)] W (Ret (.bool false) W) from fun W h => by have := HC.out W HM.out h; rwa [hp] at this)
        clear hp
        go_wp2_with ((with_reducible show Calls _ k _ _ _); refine (HC.out _ (by (with_reducible repeat first | exact Below.refl _ _ | assumption | ((first | refine Below.setCell ?_ ?_ _ | refine Below.alloc ?_ ?_ _); rotate_left; exact (by first | omega | (simp; done) | (simp; omega))) | refine Below.drew ?_ | refine Below_drewN ?_ _))).mono ?_; rintro e w1 ⟨rfl, hb⟩; have hB1 : Below w.heap.size w w1 := Below.trans (by (with_reducible repeat first | exact Below.refl _ _ | assumption | ((first | refine Below.setCell ?_ ?_ _ | refine Below.alloc ?_ ?_ _); rotate_left; exact (by first | omega | (simp; done) | (simp; omega))) | refine Below.drew ?_ | refine Below_drewN ?_ _)) (hb.mono (by first | omega | ((try simp only [World.size_alloc, World.size_setCell, size_drew, size_drewN]); omega) | (simp; done) | (simp; omega))))
        go_roundw
        case rel => exact ⟨j + 1, by omega, by go_num, HN, by (with_reducible repeat first | exact Below.refl _ _ | assumption | ((first | refine Below.setCell ?_ ?_ _ | refine Below.alloc ?_ ?_ _); rotate_left; exact (by first | omega | (simp; done) | (simp; omega))) | refine Below.drew ?_ | refine Below_drewN ?_ _)⟩
        case measure => simp [intOf]; omega
      · have HN : Hid ((j : Int) = G) := Lib.hid (by rw [← hG.out, HS.out, hp]; rfl)
        have HC := Lib.hid (show ∀ W, Below w.heap.size w W → Calls Tryd.prog k #[FaultD.v x, .pointer (some ⟨c0, 0, none⟩)] W (Ret (.bool true) W) from fun W h => by have := HC.out W HM.out h; rwa [hp] at this)
        clear hp
        go_wp2_with ((with_reducible show Calls _ k _ _ _); refine (HC.out _ (by (with_reducible repeat first | exact Below.refl _ _ | assumption | ((first | refine Below.setCell ?_ ?_ _ | refine Below.alloc ?_ ?_ _); rotate_left; exact (by first | omega | (simp; done) | (simp; omega))) | refine Below.drew ?_ | refine Below_drewN ?_ _))).mono ?_; rintro e w1 ⟨rfl, hb⟩; have hB1 : Below w.heap.size w w1 := Below.trans (by (with_reducible repeat first | exact Below.refl _ _ | assumption | ((first | refine Below.setCell ?_ ?_ _ | refine Below.alloc ?_ ?_ _); rotate_left; exact (by first | omega | (simp; done) | (simp; omega))) | refine Below.drew ?_ | refine Below_drewN ?_ _)) (hb.mono (by first | omega | ((try simp only [World.size_alloc, World.size_setCell, size_drew, size_drewN]); omega) | (simp; done) | (simp; omega))))
        go_ret
        exact ⟨by rw [← HN.out]; rfl, by (with_reducible repeat first | exact Below.refl _ _ | assumption | ((first | refine Below.setCell ?_ ?_ _ | refine Below.alloc ?_ ?_ _); rotate_left; exact (by first | omega | (simp; done) | (simp; omega))) | refine Below.drew ?_ | refine Below_drewN ?_ _)⟩
    · have HN : Hid ((-1 : Int) = G) := Lib.hid (by rw [← hG.out, List.drop_of_length_le (by rw [HI.out.1]; omega)]; rfl)
      go_wp2
      go_ret
      exact ⟨by rw [← HN.out]; rfl, hB⟩

set_option maxHeartbeats 1000000 in
theorem containsFault1 (k : Nat) (c0 : Nat) (p : FaultD → Bool) (A : Option Addr) (len cap : Nat) (zs : List FaultD) (w : World) (hI : IsT 4 FaultD.cells w A len zs) (hl : len ≤ 1000000000000000)
    (hE : ∀ (args : Array Value) (W : World), (callFunc k args).run Tryd.prog W = .ok (.enter k args) W)
    (hk : ∀ (x : FaultD) (W : World), x ∈ zs → Below w.heap.size w W → Calls Tryd.prog k #[FaultD.v x, .pointer (some ⟨c0, 0, none⟩)] W (Ret (.bool (p x)) W)) :
    Calls Tryd.prog 74 #[.slice A len cap, .func (.func k) #[] #[.pointer (some ⟨c0, 0, none⟩)]] w (Ret (.bool (zs.any p)) w) := by
  have HI := Lib.hid (indexFault1 k c0 p A len cap zs w hI hl hE hk)
  have HA := Lib.hid (idxL_nonneg p zs)
  obtain ⟨b1, b2⟩ := idxL_bd p zs
  rw [hI.1] at b2
  clear hI hE hk
  generalize idxL p zs = G at *
  go_enter Tryd.func74, Tryd.ntmps74
  go_wp2_with (go_at_call 109; refine HI.out.mono ?_; rintro e w1 ⟨rfl, hb⟩)
  go_ret
  exact ⟨by rw [← HA.out]; rfl, hb⟩

end Go.Proofs.YtfpjhobhmcfpnaaDoor
end
section
/- Plain arithmetic of two's complement numbers of 128 bits; it imports nothing of the program. -/
namespace Go.Proofs.YtfpjhobhmcfpnaaDoor
set_option linter.unusedVariables false
set_option linter.unusedSimpArgs false

/-- A quotient rounded down, and rounded up. -/
def flo (x d : Int) : Int := if 0 < d then x / d else (-x) / (-d)
def cei (x d : Int) : Int := -(flo (-x) d)

theorem neg_quo (Z m : Int) (hm : 0 < m) : (Z % m = 0 ∧ (-Z) / m = -(Z / m)) ∨ (0 < Z % m ∧ (-Z) / m = -(Z / m + 1)) := by
  have h1 := Int.emod_add_mul_ediv Z m
  have h2 := Int.emod_nonneg Z (show m ≠ 0 by omega)
  have h3 := Int.emod_lt_of_pos Z hm
  generalize Z / m = q at *
  generalize Z % m = r at *
  by_cases h : r = 0
  · left
    refine ⟨h, ((Int.ediv_emod_unique hm).2 (?_ : (0 : Int) + m * -q = -Z ∧ 0 ≤ (0 : Int) ∧ (0 : Int) < m)).1⟩
    rw [Int.mul_neg]
    omega
  · right
    refine ⟨by omega, ((Int.ediv_emod_unique hm).2 (?_ : (m - r) + m * -(q + 1) = -Z ∧ 0 ≤ m - r ∧ m - r < m)).1⟩
    rw [Int.mul_neg, Int.mul_add]
    omega

end Go.Proofs.YtfpjhobhmcfpnaaDoor
end
section
/- Plain arithmetic of gains: what a pair leaves possible, what all pairs leave, which pair is the first that leaves nothing; it speaks of no walk. -/
namespace Go.Proofs.YtfpjhobhmcfpnaaDoor
set_option linter.unusedVariables false
set_option linter.unusedSimpArgs false

/-- A pair: the value, and the ends of its reading. -/
abbrev Tri := Int × Int × Int
def okP (x : Tri) : Bool := inR x.1 && vld x.2.1 x.2.2
def gLo (x : Tri) : Int := if 0 < x.1 then flo (x.2.1 * 1000) x.1 else if x.1 < 0 then flo (x.2.2 * 1000) x.1 else if x.2.1 ≤ 0 ∧ 0 ≤ x.2.2 then -1000000000 else 1
def gHi (x : Tri) : Int := if 0 < x.1 then cei (x.2.2 * 1000) x.1 else if x.1 < 0 then cei (x.2.1 * 1000) x.1 else if x.2.1 ≤ 0 ∧ 0 ≤ x.2.2 then 1000000000 else 0
/-- What is left of the gains s behind one pair more. -/
def nar (s : Int × Int) (x : Tri) : Int × Int := (max s.1 (gLo x), min s.2 (gHi x))
def left (s : Int × Int) : List Tri → Int × Int
  | [] => s
  | x :: r => left (nar s x) r
/-- The place of the first pair with which nothing is left, or -1. -/
def first (s : Int × Int) : List Tri → Int → Int
  | [], _ => -1
  | x :: r, i => if vld (nar s x).1 (nar s x).2 = true then first (nar s x) r (i + 1) else i
theorem okP_iff {x : Tri} : okP x = true ↔ (-1000000000000000 ≤ x.1 ∧ x.1 ≤ 1000000000000000) ∧ x.2.1 ≤ x.2.2 ∧ -1000000000000000 ≤ x.2.1 ∧ x.2.2 ≤ 1000000000000000 := by
  simp [okP, inR_iff, vld_iff]

end Go.Proofs.YtfpjhobhmcfpnaaDoor
end
section
/- Package sense: contracts of down and up (quotients rounded down and up), over this seat's translation. -/
namespace Go.Proofs.YtfpjhobhmcfpnaaDoor
set_option linter.unusedVariables false
set_option linter.unusedSimpArgs false
open Go.RowKit

theorem flo_t (a b : Int) (hb : b ≠ 0) : flo a b = if a.tmod b ≠ 0 ∧ (decide (a < 0) != decide (b < 0)) = true then a.tdiv b - 1 else a.tdiv b := by
  have key : ∀ Z m : Int, 0 ≤ Z → 0 < m → Z.tdiv m = Z / m ∧ Z.tmod m = Z % m := fun Z m h0 h1 => ⟨Int.tdiv_eq_ediv_of_nonneg h0, Int.tmod_eq_emod_of_nonneg h0⟩
  by_cases h1 : a < 0 <;> by_cases h2 : b < 0
  · obtain ⟨Z, rfl⟩ : ∃ Z, a = -Z := ⟨-a, by omega⟩
    obtain ⟨m, rfl⟩ : ∃ m, b = -m := ⟨-b, by omega⟩
    obtain ⟨k1, k2⟩ := key Z m (by omega) (by omega)
    rw [Int.neg_tdiv, Int.tdiv_neg, Int.neg_tmod, Int.tmod_neg, k1, k2]
    unfold flo
    rw [if_neg (by omega), Int.neg_neg, Int.neg_neg, if_neg (fun h => absurd h.2 (by rw [decide_eq_true h1, decide_eq_true h2]; decide)), Int.neg_neg]
  · obtain ⟨Z, rfl⟩ : ∃ Z, a = -Z := ⟨-a, by omega⟩
    obtain ⟨k1, k2⟩ := key Z b (by omega) (by omega)
    rw [Int.neg_tdiv, Int.neg_tmod, k1, k2]
    unfold flo
    rw [if_pos (by omega)]
    rcases neg_quo Z b (by omega) with ⟨c, d⟩ | ⟨c, d⟩
    · rw [d, if_neg (by rw [c]; simp)]
    · rw [d, if_pos ⟨by omega, by simp [h1, h2]; try omega⟩]; omega
  · obtain ⟨m, rfl⟩ : ∃ m, b = -m := ⟨-b, by omega⟩
    obtain ⟨k1, k2⟩ := key a m (by omega) (by omega)
    rw [Int.tdiv_neg, Int.tmod_neg, k1, k2]
    unfold flo
    rw [if_neg (by omega), Int.neg_neg]
    rcases neg_quo a m (by omega) with ⟨c, d⟩ | ⟨c, d⟩
    · rw [d, if_neg (by rw [c]; simp)]
    · rw [d, if_pos ⟨by omega, by simp [h1, h2]; try omega⟩]; omega
  · obtain ⟨k1, k2⟩ := key a b (by omega) (by omega)
    rw [k1, k2]
    unfold flo
    rw [if_pos (by omega), if_neg (by simp [h1, h2])]

theorem tdiv_fit (a b : Int) (h1 : -1000000000000000000 ≤ a) (h2 : a ≤ 1000000000000000000) (hb : b ≠ 0) : (-1000000000000000000 ≤ a.tdiv b ∧ a.tdiv b ≤ 1000000000000000000) ∧ (-1000000000000000000 ≤ a.tmod b ∧ a.tmod b ≤ 1000000000000000000) := by
  have k1 := Int.natAbs_tdiv a b
  have k2 := Int.natAbs_tmod a b
  have k3 := Nat.div_le_self a.natAbs b.natAbs
  have k4 := Nat.mod_le a.natAbs b.natAbs
  have k5 : (a.tdiv b).natAbs ≤ a.natAbs := by rw [k1]; exact k3
  have k6 : (a.tmod b).natAbs ≤ a.natAbs := by rw [k2]; exact k4
  omega

theorem flo_bd (a b : Int) (h1 : -1000000000000000000 ≤ a) (h2 : a ≤ 1000000000000000000) (hb : b ≠ 0) : -1000000000000000001 ≤ flo a b ∧ flo a b ≤ 1000000000000000000 := by
  have h := tdiv_fit a b h1 h2 hb
  rw [flo_t a b hb]
  split <;> omega

set_option maxHeartbeats 1000000 in
theorem down_any (a b : Int) (w : World) (h1 : -1000000000000000000 ≤ a) (h2 : a ≤ 1000000000000000000) (b1 : -1000000000000000 ≤ b) (b2 : b ≤ 1000000000000000) (hb : b ≠ 0) :
    Calls Tryd.prog 90 #[.int .i64 a, .int .i64 b] w fun e w' => e = .returned (.int .i64 (flo a b)) ∧ w = w' := by
  obtain ⟨⟨q1, q2⟩, r1, r2⟩ := tdiv_fit a b h1 h2 hb
  have HF := Lib.hid (flo_t a b hb)
  generalize flo a b = f at *
  have hb0 : (b == 0) = false := by rw [beq_eq_false_iff_ne]; exact hb
  have hb1 : ¬b = 0 := hb
  generalize hq : a.tdiv b = q at *
  generalize hr : a.tmod b = r at *
  clear hb
  by_cases hz : r = 0
  · have hz1 : (r != 0) = false := by simp [hz]
    have HE : Hid (f = q) := Lib.hid (by rw [HF.out, if_neg (by simp [hz])])
    clear HF hz
    go_enter Tryd.func90, Tryd.ntmps90
    go_wp2
    go_ret
    exact ⟨by rw [HE.out]; rfl, rfl⟩
  · have hz1 : (r != 0) = true := by rw [bne_iff_ne]; exact hz
    by_cases ha : a < 0 <;> by_cases hb' : b < 0
    all_goals have HE : Hid (f = if (decide (a < 0) != decide (b < 0)) = true then q - 1 else q) := Lib.hid (by rw [HF.out]; simp [hz])
    all_goals simp only [ha, hb', decide_true, decide_false, bne_self_eq_false, Bool.false_eq_true, if_false, Bool.true_bne, Bool.false_bne, Bool.not_false, if_true] at HE
    all_goals clear HF hz
    all_goals go_enter Tryd.func90, Tryd.ntmps90
    all_goals go_wp2
    all_goals go_ret
    all_goals exact ⟨by rw [HE.out]; rfl, rfl⟩

set_option maxHeartbeats 1000000 in
theorem up_any (a b : Int) (w : World) (h1 : -1000000000000000000 ≤ a) (h2 : a ≤ 1000000000000000000) (b1 : -1000000000000000 ≤ b) (b2 : b ≤ 1000000000000000) (hb : b ≠ 0) :
    Calls Tryd.prog 89 #[.int .i64 a, .int .i64 b] w fun e w' => e = .returned (.int .i64 (cei a b)) ∧ w = w' := by
  have hf := flo_bd (-a) b (by omega) (by omega) hb
  have HD := Lib.hid (fun W => down_any (-a) b W (by omega) (by omega) b1 b2 hb)
  unfold cei
  clear hb
  generalize flo (-a) b = f at *
  go_enter Tryd.func89, Tryd.ntmps89
  go_wp2_with (go_at_call 90; refine (HD.out _).mono ?_; rintro e w' ⟨rfl, rfl⟩)
  go_ret
  exact ⟨rfl, rfl⟩

end Go.Proofs.YtfpjhobhmcfpnaaDoor
end
section
/- Package sense: contracts of validPair, everyGain and possibleGains, over this seat's translation. -/
namespace Go.Proofs.YtfpjhobhmcfpnaaDoor
set_option linter.unusedVariables false
set_option linter.unusedSimpArgs false
open Go.RowKit

/-- A struct of two cells behind its last store, as the one result. -/
theorem resS {fn : Func} {p : Tmp} (h : fn.results = #[.cell p 66]) (tmps : Array Value) (W : World) (b : Nat) (x y : Value)
    (hp : tmps.getD p undef = .pointer (some ⟨b, 0, none⟩)) (h0 : (W.cell? ⟨b, 0, none⟩).isSome = true) (h1 : (W.cell? ⟨b, 1, none⟩).isSome = true) :
    (results fn tmps).run Tryd.prog ((W.setCell ⟨b, 0, none⟩ x).setCell ⟨b, 1, none⟩ y) = .ok (.agg #[x, y]) ((W.setCell ⟨b, 0, none⟩ x).setCell ⟨b, 1, none⟩ y) := by
  have n1 : (⟨b, 1, none⟩ : Addr) ≠ ⟨b, 0, none⟩ := by simp
  have n0 : (⟨b, 0, none⟩ : Addr) ≠ ⟨b, 1, none⟩ := by simp
  have e1 : ((W.setCell ⟨b, 0, none⟩ x).setCell ⟨b, 1, none⟩ y).cell? ⟨b, 0, none⟩ = some x :=
    (World.cell?_setCell_other _ _ _ _ n1).trans (World.cell?_setCell_same' _ _ _ h0)
  have e2 : ((W.setCell ⟨b, 0, none⟩ x).setCell ⟨b, 1, none⟩ y).cell? ⟨b, 1, none⟩ = some y :=
    World.cell?_setCell_same' _ _ _ (by rw [World.cell?_setCell_other _ _ _ _ n0]; exact h1)
  have hp' : tmps[p]?.getD undef = .pointer (some ⟨b, 0, none⟩) := by simpa using hp
  simp only [results, h]
  simp [Sem.run_bind, Result.andThen, go_sem, hp', e1, e2]

/-- The same, behind a region. -/
theorem resF {fn : Func} {p : Tmp} (h : fn.results = #[.cell p 66]) (tmps : Array Value) (W : World) (b : Nat) (x y : Value)
    (hp : tmps.getD p undef = .pointer (some ⟨b, 0, none⟩)) (h0 : (W.cell? ⟨b, 0, none⟩).isSome = true) (h1 : (W.cell? ⟨b, 1, none⟩).isSome = true) :
    (results fn tmps).run Tryd.prog ((W.setCell ⟨b, 0, none⟩ x).setCell ⟨b, 1, none⟩ y).drew = .ok (.agg #[x, y]) ((W.setCell ⟨b, 0, none⟩ x).setCell ⟨b, 1, none⟩ y).drew := by
  have n1 : (⟨b, 1, none⟩ : Addr) ≠ ⟨b, 0, none⟩ := by simp
  have n0 : (⟨b, 0, none⟩ : Addr) ≠ ⟨b, 1, none⟩ := by simp
  have e1 : ((W.setCell ⟨b, 0, none⟩ x).setCell ⟨b, 1, none⟩ y).drew.cell? ⟨b, 0, none⟩ = some x := by
    rw [World.cell?_drew]; exact (World.cell?_setCell_other _ _ _ _ n1).trans (World.cell?_setCell_same' _ _ _ h0)
  have e2 : ((W.setCell ⟨b, 0, none⟩ x).setCell ⟨b, 1, none⟩ y).drew.cell? ⟨b, 1, none⟩ = some y := by
    rw [World.cell?_drew]; exact World.cell?_setCell_same' _ _ _ (by rw [World.cell?_setCell_other _ _ _ _ n0]; exact h1)
  have hp' : tmps[p]?.getD undef = .pointer (some ⟨b, 0, none⟩) := by simpa using hp
  simp only [results, h]
  simp [Sem.run_bind, Result.andThen, go_sem, hp', e1, e2]

/-- The same, just made. -/
theorem resP {fn : Func} {p : Tmp} (h : fn.results = #[.cell p 66]) (tmps : Array Value) (W : World) (b : Nat) (x y : Value)
    (hp : tmps.getD p undef = .pointer (some ⟨b, 0, none⟩)) (h0 : W.cell? ⟨b, 0, none⟩ = some x) (h1 : W.cell? ⟨b, 1, none⟩ = some y) :
    (results fn tmps).run Tryd.prog W = .ok (.agg #[x, y]) W := by
  have hp' : tmps[p]?.getD undef = .pointer (some ⟨b, 0, none⟩) := by simpa using hp
  simp only [results, h]
  simp [Sem.run_bind, Result.andThen, go_sem, hp', h0, h1]

/-- A pair as a value. -/
abbrev Pr (x : Tri) : Value := .agg #[.int .i64 x.1, .int .i64 x.2.1, .int .i64 x.2.2]

set_option maxHeartbeats 400000 in
theorem swithin_any (n a b : Int) (w : World) :
    Calls Tryd.prog 31 #[.int .i64 n, .int .i64 a, .int .i64 b] w fun e w' => e = .returned (.bool (wthn n a b)) ∧ w = w' := by
  go_enter Tryd.func31, Tryd.ntmps31
  go_wp2
  all_goals go_ret
  all_goals (simp [wthn]; try omega)

set_option maxHeartbeats 1000000 in
theorem validPair_any (v lo hi : Int) (w : World) :
    Calls Tryd.prog 52 #[Pr (v, lo, hi)] w (Ret (.bool (okP (v, lo, hi))) w) := by
  have e : okP (v, lo, hi) = (wthn v (-1000000000000000) 1000000000000000 && vld lo hi) := rfl
  have HE := Lib.hid e
  clear e
  by_cases h : wthn v (-1000000000000000) 1000000000000000 = true
  · go_enter Tryd.func52, Tryd.ntmps52
    go_wp2_with (first | (go_at_call 31; refine (swithin_any _ _ _ _).mono ?_; rintro e w1 ⟨rfl, rfl⟩) | (go_at_call 51; refine (valid_any _ _ _).mono ?_; rintro e w1 ⟨rfl, hb⟩; have hB : Below w.heap.size w w1 := Below.trans (by (with_reducible repeat first | exact Below.refl _ _ | assumption | ((first | refine Below.setCell ?_ ?_ _ | refine Below.alloc ?_ ?_ _); rotate_left; exact (by first | omega | (simp; done) | (simp; omega))) | refine Below.drew ?_ | refine Below_drewN ?_ _)) (hb.mono (by first | omega | (simp; done) | (simp; omega))); obtain ⟨hc, hf⟩ := bcell hb; have hs := hb.size; clear hb; (try simp only [World.size_alloc, World.size_setCell] at hc hf); (try simp only [World.size_alloc, World.size_setCell] at hs); (try have hs' := Nat.lt_of_succ_le hs); (try have hs0 : w.heap.size < w1.heap.size := by omega); (try have hs1 : w.heap.size + 1 < w1.heap.size := by omega); (try have hs2 : w.heap.size + 1 + 1 < w1.heap.size := by omega); (try have hs3 : w.heap.size + 1 + 1 + 1 < w1.heap.size := by omega); (try have iso : (w1.cell? ⟨w.heap.size, 0, none⟩).isSome = true := by (rw [hc _ _ (by first | omega | (simp; done) | (simp; omega))]; (try simp only [isSome_setCell]); first | assumption | go_simp)); (try have iso : (w1.cell? ⟨w.heap.size, 1, none⟩).isSome = true := by (rw [hc _ _ (by first | omega | (simp; done) | (simp; omega))]; (try simp only [isSome_setCell]); first | assumption | go_simp)); (try have iso : (w1.cell? ⟨w.heap.size + 1, 0, none⟩).isSome = true := by (rw [hc _ _ (by first | omega | (simp; done) | (simp; omega))]; (try simp only [isSome_setCell]); first | assumption | go_simp)); (try have iso : (w1.cell? ⟨w.heap.size + 1, 1, none⟩).isSome = true := by (rw [hc _ _ (by first | omega | (simp; done) | (simp; omega))]; (try simp only [isSome_setCell]); first | assumption | go_simp)); (try have iso : (w1.cell? ⟨w.heap.size + 1 + 1, 0, none⟩).isSome = true := by (rw [hc _ _ (by first | omega | (simp; done) | (simp; omega))]; (try simp only [isSome_setCell]); first | assumption | go_simp)); (try have iso : (w1.cell? ⟨w.heap.size + 1 + 1, 1, none⟩).isSome = true := by (rw [hc _ _ (by first | omega | (simp; done) | (simp; omega))]; (try simp only [isSome_setCell]); first | assumption | go_simp))))
    go_ret
    exact ⟨by rw [HE.out, h]; simp, by (with_reducible repeat first | exact Below.refl _ _ | assumption | ((first | refine Below.setCell ?_ ?_ _ | refine Below.alloc ?_ ?_ _); rotate_left; exact (by first | omega | (simp; done) | (simp; omega))) | refine Below.drew ?_ | refine Below_drewN ?_ _)⟩
  · have h : wthn v (-1000000000000000) 1000000000000000 = false := by simpa using h
    go_enter Tryd.func52, Tryd.ntmps52
    go_wp2_with (first | (go_at_call 31; refine (swithin_any _ _ _ _).mono ?_; rintro e w1 ⟨rfl, rfl⟩))
    go_ret
    exact ⟨by rw [HE.out, h]; simp, by (with_reducible repeat first | exact Below.refl _ _ | assumption | ((first | refine Below.setCell ?_ ?_ _ | refine Below.alloc ?_ ?_ _); rotate_left; exact (by first | omega | (simp; done) | (simp; omega))) | refine Below.drew ?_ | refine Below_drewN ?_ _)⟩

set_option maxHeartbeats 400000 in
theorem everyGain_any (w : World) :
    Calls Tryd.prog 92 #[] w (Ret (Sp (-1000000000) 1000000000) w) := by
  go_enter Tryd.func92, Tryd.ntmps92
  go_wp2_with fail
  exact bodyPost_ret (resP Tryd.results92 _ _ _ _ _ rfl (by go_simp) (by go_simp)) rfl ⟨rfl, by (with_reducible repeat first | exact Below.refl _ _ | assumption | ((first | refine Below.setCell ?_ ?_ _ | refine Below.alloc ?_ ?_ _); rotate_left; exact (by first | omega | (simp; done) | (simp; omega))) | refine Below.drew ?_ | refine Below_drewN ?_ _)⟩

end Go.Proofs.YtfpjhobhmcfpnaaDoor
end
