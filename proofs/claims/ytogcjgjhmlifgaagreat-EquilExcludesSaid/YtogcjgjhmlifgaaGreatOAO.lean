import Derived.Test.YtogcjgjhmlifgaaGreatOAG
import Derived.Test.YtogcjgjhmlifgaaGreatOAN
namespace Go.Proofs.YtogcjgjhmlifgaaGreat
set_option linter.unusedVariables false
set_option linter.unusedSimpArgs false
section
open Go.RowKit Go.Shelf
theorem cell_last (nr nz : Int) (h1 : 1 ≤ nr) (h2 : 1 ≤ nz) : (nr * nz - 1) % nr = nr - 1 ∧ (nr * nz - 1) / nr = nz - 1 := by
  have e : nr * nz - 1 = (nr - 1) + nr * (nz - 1) := by rw [Int.mul_sub, Int.mul_one]; omega
  rw [e, Int.add_mul_emod_self_left, Int.add_mul_ediv_left _ _ (by omega), Int.emod_eq_of_lt (by omega) (by omega), Int.ediv_eq_zero_of_lt (by omega) (by omega)]
  exact ⟨rfl, by omega⟩
theorem step_small {n s : Int} (h1 : 1 ≤ n) (h2 : n ≤ 8) (h3 : 1 ≤ s) (h4 : s ≤ 10) : 0 ≤ (n - 1) * s ∧ (n - 1) * s ≤ 70 := by
  refine ⟨Int.mul_nonneg (by omega) (by omega), ?_⟩
  have := Int.mul_le_mul (show n - 1 ≤ 7 by omega) h4 (by omega) (by omega)
  omega
theorem gridC_ref (g : GridD) : gridC g = if wthn g.nr 1 8 = true then if wthn g.nz 1 8 = true then if wthn g.step 1 10 = true then if nearB g.r g.z 60 = true then rng (nearB (g.r + (g.nr - 1) * g.step) (g.z + (g.nz - 1) * g.step) 60) else 7 else 7 else 7 else 7 := by
  unfold gridC
  by_cases a : wthn g.nr 1 8 = true
  · by_cases b : wthn g.nz 1 8 = true
    · have h1 : 1 ≤ g.nr := by have : 1 ≤ g.nr ∧ g.nr ≤ 8 := by simpa [wthn] using a
                               omega
      have h2 : 1 ≤ g.nz := by have : 1 ≤ g.nz ∧ g.nz ≤ 8 := by simpa [wthn] using b
                               omega
      obtain ⟨e1, e2⟩ := cell_last g.nr g.nz h1 h2
      unfold cellR cellZ
      rw [e1, e2]
      by_cases c : wthn g.step 1 10 = true <;> simp [a, b, c]
    · simp [a, b]
  · simp [a]
set_option maxRecDepth 100000 in
set_option maxHeartbeats 16000000 in
theorem rcheck_open (R : MachR) (M : MachD) (w : World) (hM : IsMo w R M) :
    Calls Tryz.prog 67 #[.agg (machCells R M)] w (Ret (.int .i64 (checkC M)) w) := by
  have HE : Hid (checkC M = orL [nameC M.name, eachC coilC 12 M.coils, eachC shellC 16 M.shells, limitsC M.limits, gridC M.grid, eachC sensorC 24 M.sensors]) := Lib.hid rfl
  have HG5 := Lib.hid (gridC_ref M.grid)
  have H2 := Lib.hid (fun W (hb : Below w.heap.size w W) => rcoils_any M.name R.A R.B R.C R.D R.la R.ca R.lb R.cb R.lc R.cc R.ld R.cd M.grid.r M.grid.z M.grid.nr M.grid.nz M.grid.step M.coils W (hM.below hb).coils)
  have H3 := Lib.hid (fun W (hb : Below w.heap.size w W) => rshells_any M.name R.A R.B R.C R.D R.la R.ca R.lb R.cb R.lc R.cc R.ld R.cd M.grid.r M.grid.z M.grid.nr M.grid.nz M.grid.step M.shells W (hM.below hb).shells)
  have H4 := Lib.hid (fun W (hb : Below w.heap.size w W) => rlimits_any M.name R.A R.B R.C R.D R.la R.ca R.lb R.cb R.lc R.cc R.ld R.cd M.grid.r M.grid.z M.grid.nr M.grid.nz M.grid.step M.limits W (hM.below hb).limits)
  have H6 := Lib.hid (fun W (hb : Below w.heap.size w W) => rsensors_any M.name R.A R.B R.C R.D R.la R.ca R.lb R.cb R.lc R.cc R.ld R.cd M.grid.r M.grid.z M.grid.nr M.grid.nz M.grid.step M.sensors W (hM.below hb).sensors)
  clear hM
  generalize checkC M = G at *
  generalize eachC coilC 12 M.coils = e2 at *
  generalize eachC shellC 16 M.shells = e3 at *
  generalize limitsC M.limits = e4 at *
  generalize gridC M.grid = e5 at *
  generalize eachC sensorC 24 M.sensors = e6 at *
  obtain ⟨A, B, C, D, la, ca, lb, cb, lc, cc, ld, cd⟩ := R
  obtain ⟨name, coils, shells, limits, ⟨r, z, nr, nz, step⟩, sensors⟩ := M
  dsimp only at *
  show Calls Tryz.prog 67 #[.agg #[.string name, .slice A la ca, .slice B lb cb, .slice C lc cc, .int .i64 r, .int .i64 z, .int .i64 nr, .int .i64 nz, .int .i64 step, .slice D ld cd]] w _
  unfold nameC at HE
  cases hn : nameB name.data.toList
  · have HE := Lib.hid (HE.out.trans (by rw [hn]; rfl : _ = (1 : Int)))
    have HF : Hid ((1 : Int) = G) := Lib.hid HE.out.symm
    clear HE HG5
    go_enter Tryz.func67, Tryz.ntmps67
    go_wp2_with (go_at_call 104; refine (rname_any _ _).mono ?_; rintro e w1 ⟨rfl, rfl⟩)
    go_ret
    exact ⟨by rw [← HF.out]; rfl, by (repeat first | with_reducible exact Below.refl _ _ | (with_reducible refine Below.alloc ?_ ?_ _; rotate_left; exact (by omega)))⟩
  have HE := Lib.hid (HE.out.trans (by rw [hn]; rfl : _ = orL [e2, e3, e4, e5, e6]))
  by_cases c2 : e2 = 0
  rotate_left
  · have HF : Hid (e2 = G) := Lib.hid (by rw [HE.out]; unfold orL; rw [if_neg c2])
    have z2 : (e2 == 0) = false := by rw [beq_eq_false_iff_ne]; exact c2
    clear HE HG5 c2
    go_enter Tryz.func67, Tryz.ntmps67
    go_wp2_with (first | (go_at_call 104; refine (rname_any _ _).mono ?_; rintro e w1 ⟨rfl, rfl⟩) | (go_at_call 105; refine (H2.out _ (by (repeat first | with_reducible exact Below.refl _ _ | (with_reducible refine Below.alloc ?_ ?_ _; rotate_left; exact (by omega))))).mono ?_; rintro e w1 ⟨rfl, hb⟩; have hB : Below w.heap.size w w1 := Below.trans (by (repeat first | with_reducible exact Below.refl _ _ | (with_reducible refine Below.alloc ?_ ?_ _; rotate_left; exact (by omega)))) (hb.mono (by (simp; done))); obtain ⟨hc, hf⟩ := bcell hb; have hs := hb.size; clear hb; (try simp only [World.size_alloc, World.size_setCell] at hc hf); (try simp only [World.size_alloc, World.size_setCell] at hs); (try have hs' := Nat.lt_of_succ_le hs); (try have hs0 : w.heap.size < w1.heap.size := by omega); (try have hs1 : w.heap.size + 1 < w1.heap.size := by omega); (try have hs2 : w.heap.size + 1 + 1 < w1.heap.size := by omega); (try have hs3 : w.heap.size + 1 + 1 + 1 < w1.heap.size := by omega)))
    go_ret
    exact ⟨by rw [← HF.out]; rfl, by (repeat first | with_reducible assumption | (with_reducible refine Below.alloc ?_ ?_ _; rotate_left; exact (by omega)))⟩
  subst c2
  have HE := Lib.hid (HE.out.trans (by rfl : _ = orL [e3, e4, e5, e6]))
  by_cases c3 : e3 = 0
  rotate_left
  · have HF : Hid (e3 = G) := Lib.hid (by rw [HE.out]; unfold orL; rw [if_neg c3])
    have z3 : (e3 == 0) = false := by rw [beq_eq_false_iff_ne]; exact c3
    clear HE HG5 c3
    go_enter Tryz.func67, Tryz.ntmps67
    go_wp2_with (first | (go_at_call 104; refine (rname_any _ _).mono ?_; rintro e w1 ⟨rfl, rfl⟩) | (go_at_call 105; refine (H2.out _ (by (repeat first | with_reducible exact Below.refl _ _ | (with_reducible refine Below.alloc ?_ ?_ _; rotate_left; exact (by omega))))).mono ?_; rintro e w1 ⟨rfl, hb⟩; have hB : Below w.heap.size w w1 := Below.trans (by (repeat first | with_reducible exact Below.refl _ _ | (with_reducible refine Below.alloc ?_ ?_ _; rotate_left; exact (by omega)))) (hb.mono (by (simp; done))); obtain ⟨hc, hf⟩ := bcell hb; have hs := hb.size; clear hb; (try simp only [World.size_alloc, World.size_setCell] at hc hf); (try simp only [World.size_alloc, World.size_setCell] at hs); (try have hs' := Nat.lt_of_succ_le hs); (try have hs0 : w.heap.size < w1.heap.size := by omega); (try have hs1 : w.heap.size + 1 < w1.heap.size := by omega); (try have hs2 : w.heap.size + 1 + 1 < w1.heap.size := by omega); (try have hs3 : w.heap.size + 1 + 1 + 1 < w1.heap.size := by omega)) | (go_at_call 106; refine (H3.out _ (by (repeat with_reducible assumption))).mono ?_; rintro e w1 ⟨rfl, hb⟩; have hB : Below w.heap.size w w1 := Below.trans (by (repeat with_reducible assumption)) (hb.mono (by omega)); obtain ⟨hc, hf⟩ := bcell hb; have hs := hb.size; clear hb; (try simp only [World.size_alloc, World.size_setCell] at hc hf); (try simp only [World.size_alloc, World.size_setCell] at hs); (try have hs' := Nat.lt_of_succ_le hs); (try have hs0 : w.heap.size < w1.heap.size := by omega); (try have hs1 : w.heap.size + 1 < w1.heap.size := by omega); (try have hs2 : w.heap.size + 1 + 1 < w1.heap.size := by omega); (try have hs3 : w.heap.size + 1 + 1 + 1 < w1.heap.size := by omega)))
    go_ret
    exact ⟨by rw [← HF.out]; rfl, by (repeat first | with_reducible assumption | (with_reducible refine Below.alloc ?_ ?_ _; rotate_left; exact (by omega)))⟩
  subst c3
  have HE := Lib.hid (HE.out.trans (by rfl : _ = orL [e4, e5, e6]))
  by_cases c4 : e4 = 0
  rotate_left
  · have HF : Hid (e4 = G) := Lib.hid (by rw [HE.out]; unfold orL; rw [if_neg c4])
    have z4 : (e4 == 0) = false := by rw [beq_eq_false_iff_ne]; exact c4
    clear HE HG5 c4
    go_enter Tryz.func67, Tryz.ntmps67
    go_wp2_with (first | (go_at_call 104; refine (rname_any _ _).mono ?_; rintro e w1 ⟨rfl, rfl⟩) | (go_at_call 105; refine (H2.out _ (by (repeat first | with_reducible exact Below.refl _ _ | (with_reducible refine Below.alloc ?_ ?_ _; rotate_left; exact (by omega))))).mono ?_; rintro e w1 ⟨rfl, hb⟩; have hB : Below w.heap.size w w1 := Below.trans (by (repeat first | with_reducible exact Below.refl _ _ | (with_reducible refine Below.alloc ?_ ?_ _; rotate_left; exact (by omega)))) (hb.mono (by (simp; done))); obtain ⟨hc, hf⟩ := bcell hb; have hs := hb.size; clear hb; (try simp only [World.size_alloc, World.size_setCell] at hc hf); (try simp only [World.size_alloc, World.size_setCell] at hs); (try have hs' := Nat.lt_of_succ_le hs); (try have hs0 : w.heap.size < w1.heap.size := by omega); (try have hs1 : w.heap.size + 1 < w1.heap.size := by omega); (try have hs2 : w.heap.size + 1 + 1 < w1.heap.size := by omega); (try have hs3 : w.heap.size + 1 + 1 + 1 < w1.heap.size := by omega)) | (go_at_call 106; refine (H3.out _ (by (repeat with_reducible assumption))).mono ?_; rintro e w1 ⟨rfl, hb⟩; have hB : Below w.heap.size w w1 := Below.trans (by (repeat with_reducible assumption)) (hb.mono (by omega)); obtain ⟨hc, hf⟩ := bcell hb; have hs := hb.size; clear hb; (try simp only [World.size_alloc, World.size_setCell] at hc hf); (try simp only [World.size_alloc, World.size_setCell] at hs); (try have hs' := Nat.lt_of_succ_le hs); (try have hs0 : w.heap.size < w1.heap.size := by omega); (try have hs1 : w.heap.size + 1 < w1.heap.size := by omega); (try have hs2 : w.heap.size + 1 + 1 < w1.heap.size := by omega); (try have hs3 : w.heap.size + 1 + 1 + 1 < w1.heap.size := by omega)) | (go_at_call 107; refine (H4.out _ (by (repeat with_reducible assumption))).mono ?_; rintro e w1 ⟨rfl, hb⟩; have hB : Below w.heap.size w w1 := Below.trans (by (repeat with_reducible assumption)) (hb.mono (by omega)); obtain ⟨hc, hf⟩ := bcell hb; have hs := hb.size; clear hb; (try simp only [World.size_alloc, World.size_setCell] at hc hf); (try simp only [World.size_alloc, World.size_setCell] at hs); (try have hs' := Nat.lt_of_succ_le hs); (try have hs0 : w.heap.size < w1.heap.size := by omega); (try have hs1 : w.heap.size + 1 < w1.heap.size := by omega); (try have hs2 : w.heap.size + 1 + 1 < w1.heap.size := by omega); (try have hs3 : w.heap.size + 1 + 1 + 1 < w1.heap.size := by omega)))
    go_ret
    exact ⟨by rw [← HF.out]; rfl, by (repeat first | with_reducible assumption | (with_reducible refine Below.alloc ?_ ?_ _; rotate_left; exact (by omega)))⟩
  subst c4
  have HE := Lib.hid (HE.out.trans (by rfl : _ = orL [e5, e6]))
  cases p0 : wthn nr 1 8
  · have h7 : e5 = 7 := by rw [HG5.out]; simp [p0]
    have HF : Hid ((7 : Int) = G) := Lib.hid (by rw [HE.out, h7]; rfl)
    clear HE HG5 h7
    go_enter Tryz.func67, Tryz.ntmps67
    go_wp2_with (first | (go_at_call 104; refine (rname_any _ _).mono ?_; rintro e w1 ⟨rfl, rfl⟩) | (go_at_call 70; refine (rwithin2_any _ _ _ _).mono ?_; rintro e w1 ⟨rfl, rfl⟩) | (go_at_call 105; refine (H2.out _ (by (repeat first | with_reducible exact Below.refl _ _ | (with_reducible refine Below.alloc ?_ ?_ _; rotate_left; exact (by omega))))).mono ?_; rintro e w1 ⟨rfl, hb⟩; have hB : Below w.heap.size w w1 := Below.trans (by (repeat first | with_reducible exact Below.refl _ _ | (with_reducible refine Below.alloc ?_ ?_ _; rotate_left; exact (by omega)))) (hb.mono (by (simp; done))); obtain ⟨hc, hf⟩ := bcell hb; have hs := hb.size; clear hb; (try simp only [World.size_alloc, World.size_setCell] at hc hf); (try simp only [World.size_alloc, World.size_setCell] at hs); (try have hs' := Nat.lt_of_succ_le hs); (try have hs0 : w.heap.size < w1.heap.size := by omega); (try have hs1 : w.heap.size + 1 < w1.heap.size := by omega); (try have hs2 : w.heap.size + 1 + 1 < w1.heap.size := by omega); (try have hs3 : w.heap.size + 1 + 1 + 1 < w1.heap.size := by omega)) | (go_at_call 106; refine (H3.out _ (by (repeat with_reducible assumption))).mono ?_; rintro e w1 ⟨rfl, hb⟩; have hB : Below w.heap.size w w1 := Below.trans (by (repeat with_reducible assumption)) (hb.mono (by omega)); obtain ⟨hc, hf⟩ := bcell hb; have hs := hb.size; clear hb; (try simp only [World.size_alloc, World.size_setCell] at hc hf); (try simp only [World.size_alloc, World.size_setCell] at hs); (try have hs' := Nat.lt_of_succ_le hs); (try have hs0 : w.heap.size < w1.heap.size := by omega); (try have hs1 : w.heap.size + 1 < w1.heap.size := by omega); (try have hs2 : w.heap.size + 1 + 1 < w1.heap.size := by omega); (try have hs3 : w.heap.size + 1 + 1 + 1 < w1.heap.size := by omega)) | (go_at_call 107; refine (H4.out _ (by (repeat with_reducible assumption))).mono ?_; rintro e w1 ⟨rfl, hb⟩; have hB : Below w.heap.size w w1 := Below.trans (by (repeat with_reducible assumption)) (hb.mono (by omega)); obtain ⟨hc, hf⟩ := bcell hb; have hs := hb.size; clear hb; (try simp only [World.size_alloc, World.size_setCell] at hc hf); (try simp only [World.size_alloc, World.size_setCell] at hs); (try have hs' := Nat.lt_of_succ_le hs); (try have hs0 : w.heap.size < w1.heap.size := by omega); (try have hs1 : w.heap.size + 1 < w1.heap.size := by omega); (try have hs2 : w.heap.size + 1 + 1 < w1.heap.size := by omega); (try have hs3 : w.heap.size + 1 + 1 + 1 < w1.heap.size := by omega)))
    go_ret
    exact ⟨by rw [← HF.out]; rfl, by (repeat first | with_reducible assumption | (with_reducible refine Below.alloc ?_ ?_ _; rotate_left; exact (by omega)))⟩
  cases p1 : wthn nz 1 8
  · have h7 : e5 = 7 := by rw [HG5.out]; simp [p0, p1]
    have HF : Hid ((7 : Int) = G) := Lib.hid (by rw [HE.out, h7]; rfl)
    clear HE HG5 h7
    go_enter Tryz.func67, Tryz.ntmps67
    go_wp2_with (first | (go_at_call 104; refine (rname_any _ _).mono ?_; rintro e w1 ⟨rfl, rfl⟩) | (go_at_call 70; refine (rwithin2_any _ _ _ _).mono ?_; rintro e w1 ⟨rfl, rfl⟩) | (go_at_call 105; refine (H2.out _ (by (repeat first | with_reducible exact Below.refl _ _ | (with_reducible refine Below.alloc ?_ ?_ _; rotate_left; exact (by omega))))).mono ?_; rintro e w1 ⟨rfl, hb⟩; have hB : Below w.heap.size w w1 := Below.trans (by (repeat first | with_reducible exact Below.refl _ _ | (with_reducible refine Below.alloc ?_ ?_ _; rotate_left; exact (by omega)))) (hb.mono (by (simp; done))); obtain ⟨hc, hf⟩ := bcell hb; have hs := hb.size; clear hb; (try simp only [World.size_alloc, World.size_setCell] at hc hf); (try simp only [World.size_alloc, World.size_setCell] at hs); (try have hs' := Nat.lt_of_succ_le hs); (try have hs0 : w.heap.size < w1.heap.size := by omega); (try have hs1 : w.heap.size + 1 < w1.heap.size := by omega); (try have hs2 : w.heap.size + 1 + 1 < w1.heap.size := by omega); (try have hs3 : w.heap.size + 1 + 1 + 1 < w1.heap.size := by omega)) | (go_at_call 106; refine (H3.out _ (by (repeat with_reducible assumption))).mono ?_; rintro e w1 ⟨rfl, hb⟩; have hB : Below w.heap.size w w1 := Below.trans (by (repeat with_reducible assumption)) (hb.mono (by omega)); obtain ⟨hc, hf⟩ := bcell hb; have hs := hb.size; clear hb; (try simp only [World.size_alloc, World.size_setCell] at hc hf); (try simp only [World.size_alloc, World.size_setCell] at hs); (try have hs' := Nat.lt_of_succ_le hs); (try have hs0 : w.heap.size < w1.heap.size := by omega); (try have hs1 : w.heap.size + 1 < w1.heap.size := by omega); (try have hs2 : w.heap.size + 1 + 1 < w1.heap.size := by omega); (try have hs3 : w.heap.size + 1 + 1 + 1 < w1.heap.size := by omega)) | (go_at_call 107; refine (H4.out _ (by (repeat with_reducible assumption))).mono ?_; rintro e w1 ⟨rfl, hb⟩; have hB : Below w.heap.size w w1 := Below.trans (by (repeat with_reducible assumption)) (hb.mono (by omega)); obtain ⟨hc, hf⟩ := bcell hb; have hs := hb.size; clear hb; (try simp only [World.size_alloc, World.size_setCell] at hc hf); (try simp only [World.size_alloc, World.size_setCell] at hs); (try have hs' := Nat.lt_of_succ_le hs); (try have hs0 : w.heap.size < w1.heap.size := by omega); (try have hs1 : w.heap.size + 1 < w1.heap.size := by omega); (try have hs2 : w.heap.size + 1 + 1 < w1.heap.size := by omega); (try have hs3 : w.heap.size + 1 + 1 + 1 < w1.heap.size := by omega)))
    go_ret
    exact ⟨by rw [← HF.out]; rfl, by (repeat first | with_reducible assumption | (with_reducible refine Below.alloc ?_ ?_ _; rotate_left; exact (by omega)))⟩
  cases p2 : wthn step 1 10
  · have h7 : e5 = 7 := by rw [HG5.out]; simp [p0, p1, p2]
    have HF : Hid ((7 : Int) = G) := Lib.hid (by rw [HE.out, h7]; rfl)
    clear HE HG5 h7
    go_enter Tryz.func67, Tryz.ntmps67
    go_wp2_with (first | (go_at_call 104; refine (rname_any _ _).mono ?_; rintro e w1 ⟨rfl, rfl⟩) | (go_at_call 70; refine (rwithin2_any _ _ _ _).mono ?_; rintro e w1 ⟨rfl, rfl⟩) | (go_at_call 105; refine (H2.out _ (by (repeat first | with_reducible exact Below.refl _ _ | (with_reducible refine Below.alloc ?_ ?_ _; rotate_left; exact (by omega))))).mono ?_; rintro e w1 ⟨rfl, hb⟩; have hB : Below w.heap.size w w1 := Below.trans (by (repeat first | with_reducible exact Below.refl _ _ | (with_reducible refine Below.alloc ?_ ?_ _; rotate_left; exact (by omega)))) (hb.mono (by (simp; done))); obtain ⟨hc, hf⟩ := bcell hb; have hs := hb.size; clear hb; (try simp only [World.size_alloc, World.size_setCell] at hc hf); (try simp only [World.size_alloc, World.size_setCell] at hs); (try have hs' := Nat.lt_of_succ_le hs); (try have hs0 : w.heap.size < w1.heap.size := by omega); (try have hs1 : w.heap.size + 1 < w1.heap.size := by omega); (try have hs2 : w.heap.size + 1 + 1 < w1.heap.size := by omega); (try have hs3 : w.heap.size + 1 + 1 + 1 < w1.heap.size := by omega)) | (go_at_call 106; refine (H3.out _ (by (repeat with_reducible assumption))).mono ?_; rintro e w1 ⟨rfl, hb⟩; have hB : Below w.heap.size w w1 := Below.trans (by (repeat with_reducible assumption)) (hb.mono (by omega)); obtain ⟨hc, hf⟩ := bcell hb; have hs := hb.size; clear hb; (try simp only [World.size_alloc, World.size_setCell] at hc hf); (try simp only [World.size_alloc, World.size_setCell] at hs); (try have hs' := Nat.lt_of_succ_le hs); (try have hs0 : w.heap.size < w1.heap.size := by omega); (try have hs1 : w.heap.size + 1 < w1.heap.size := by omega); (try have hs2 : w.heap.size + 1 + 1 < w1.heap.size := by omega); (try have hs3 : w.heap.size + 1 + 1 + 1 < w1.heap.size := by omega)) | (go_at_call 107; refine (H4.out _ (by (repeat with_reducible assumption))).mono ?_; rintro e w1 ⟨rfl, hb⟩; have hB : Below w.heap.size w w1 := Below.trans (by (repeat with_reducible assumption)) (hb.mono (by omega)); obtain ⟨hc, hf⟩ := bcell hb; have hs := hb.size; clear hb; (try simp only [World.size_alloc, World.size_setCell] at hc hf); (try simp only [World.size_alloc, World.size_setCell] at hs); (try have hs' := Nat.lt_of_succ_le hs); (try have hs0 : w.heap.size < w1.heap.size := by omega); (try have hs1 : w.heap.size + 1 < w1.heap.size := by omega); (try have hs2 : w.heap.size + 1 + 1 < w1.heap.size := by omega); (try have hs3 : w.heap.size + 1 + 1 + 1 < w1.heap.size := by omega)))
    go_ret
    exact ⟨by rw [← HF.out]; rfl, by (repeat first | with_reducible assumption | (with_reducible refine Below.alloc ?_ ?_ _; rotate_left; exact (by omega)))⟩
  cases p3 : nearB r z 60
  · have h7 : e5 = 7 := by rw [HG5.out]; simp [p0, p1, p2, p3]
    have HF : Hid ((7 : Int) = G) := Lib.hid (by rw [HE.out, h7]; rfl)
    clear HE HG5 h7
    go_enter Tryz.func67, Tryz.ntmps67
    go_wp2_with (first | (go_at_call 104; refine (rname_any _ _).mono ?_; rintro e w1 ⟨rfl, rfl⟩) | (go_at_call 70; refine (rwithin2_any _ _ _ _).mono ?_; rintro e w1 ⟨rfl, rfl⟩) | (go_at_call 108; refine (rplaced_any _ _ _).mono ?_; rintro e w1 ⟨rfl, rfl⟩) | (go_at_call 105; refine (H2.out _ (by (repeat first | with_reducible exact Below.refl _ _ | (with_reducible refine Below.alloc ?_ ?_ _; rotate_left; exact (by omega))))).mono ?_; rintro e w1 ⟨rfl, hb⟩; have hB : Below w.heap.size w w1 := Below.trans (by (repeat first | with_reducible exact Below.refl _ _ | (with_reducible refine Below.alloc ?_ ?_ _; rotate_left; exact (by omega)))) (hb.mono (by (simp; done))); obtain ⟨hc, hf⟩ := bcell hb; have hs := hb.size; clear hb; (try simp only [World.size_alloc, World.size_setCell] at hc hf); (try simp only [World.size_alloc, World.size_setCell] at hs); (try have hs' := Nat.lt_of_succ_le hs); (try have hs0 : w.heap.size < w1.heap.size := by omega); (try have hs1 : w.heap.size + 1 < w1.heap.size := by omega); (try have hs2 : w.heap.size + 1 + 1 < w1.heap.size := by omega); (try have hs3 : w.heap.size + 1 + 1 + 1 < w1.heap.size := by omega)) | (go_at_call 106; refine (H3.out _ (by (repeat with_reducible assumption))).mono ?_; rintro e w1 ⟨rfl, hb⟩; have hB : Below w.heap.size w w1 := Below.trans (by (repeat with_reducible assumption)) (hb.mono (by omega)); obtain ⟨hc, hf⟩ := bcell hb; have hs := hb.size; clear hb; (try simp only [World.size_alloc, World.size_setCell] at hc hf); (try simp only [World.size_alloc, World.size_setCell] at hs); (try have hs' := Nat.lt_of_succ_le hs); (try have hs0 : w.heap.size < w1.heap.size := by omega); (try have hs1 : w.heap.size + 1 < w1.heap.size := by omega); (try have hs2 : w.heap.size + 1 + 1 < w1.heap.size := by omega); (try have hs3 : w.heap.size + 1 + 1 + 1 < w1.heap.size := by omega)) | (go_at_call 107; refine (H4.out _ (by (repeat with_reducible assumption))).mono ?_; rintro e w1 ⟨rfl, hb⟩; have hB : Below w.heap.size w w1 := Below.trans (by (repeat with_reducible assumption)) (hb.mono (by omega)); obtain ⟨hc, hf⟩ := bcell hb; have hs := hb.size; clear hb; (try simp only [World.size_alloc, World.size_setCell] at hc hf); (try simp only [World.size_alloc, World.size_setCell] at hs); (try have hs' := Nat.lt_of_succ_le hs); (try have hs0 : w.heap.size < w1.heap.size := by omega); (try have hs1 : w.heap.size + 1 < w1.heap.size := by omega); (try have hs2 : w.heap.size + 1 + 1 < w1.heap.size := by omega); (try have hs3 : w.heap.size + 1 + 1 + 1 < w1.heap.size := by omega)))
    go_ret
    exact ⟨by rw [← HF.out]; rfl, by (repeat first | with_reducible assumption | (with_reducible refine Below.alloc ?_ ?_ _; rotate_left; exact (by omega)))⟩
  have hr : -60 ≤ r ∧ r ≤ 60 ∧ -60 ≤ z ∧ z ≤ 60 := by have h := p3; simp [nearB, wthn] at h; omega
  have hnr : 1 ≤ nr ∧ nr ≤ 8 := by simpa [wthn] using p0
  have hnz : 1 ≤ nz ∧ nz ≤ 8 := by simpa [wthn] using p1
  have hst : 1 ≤ step ∧ step ≤ 10 := by simpa [wthn] using p2
  obtain ⟨r0, r1, r2, r3⟩ := hr
  obtain ⟨n0, n1⟩ := hnr
  obtain ⟨k0, k1⟩ := hnz
  obtain ⟨s0, s1⟩ := hst
  obtain ⟨m0, m1⟩ := step_small n0 n1 s0 s1
  obtain ⟨m2, m3⟩ := step_small k0 k1 s0 s1
  have w1 : IntKind.i64.wrap ((nr - 1) * step) = (nr - 1) * step := IntWalk.i64_in _ (by omega)
  have w2 : IntKind.i64.wrap ((nz - 1) * step) = (nz - 1) * step := IntWalk.i64_in _ (by omega)
  have HG5 := Lib.hid (HG5.out.trans (by rw [p0, p1, p2, p3]; rfl : _ = rng (nearB (r + (nr - 1) * step) (z + (nz - 1) * step) 60)))
  generalize hP1 : (nr - 1) * step = P1 at *
  generalize hP2 : (nz - 1) * step = P2 at *
  cases p4 : nearB (r + P1) (z + P2) 60
  · have h7 : e5 = 7 := by rw [HG5.out, p4]; rfl
    have HF : Hid ((7 : Int) = G) := Lib.hid (by rw [HE.out, h7]; rfl)
    clear HE HG5 h7
    go_enter Tryz.func67, Tryz.ntmps67
    go_wp2_with (first | (go_at_call 104; refine (rname_any _ _).mono ?_; rintro e w1 ⟨rfl, rfl⟩) | (go_at_call 70; refine (rwithin2_any _ _ _ _).mono ?_; rintro e w1 ⟨rfl, rfl⟩) | (go_at_call 108; refine (rplaced_any _ _ _).mono ?_; rintro e w1 ⟨rfl, rfl⟩) | (go_at_call 105; refine (H2.out _ (by (repeat first | with_reducible exact Below.refl _ _ | (with_reducible refine Below.alloc ?_ ?_ _; rotate_left; exact (by omega))))).mono ?_; rintro e w1 ⟨rfl, hb⟩; have hB : Below w.heap.size w w1 := Below.trans (by (repeat first | with_reducible exact Below.refl _ _ | (with_reducible refine Below.alloc ?_ ?_ _; rotate_left; exact (by omega)))) (hb.mono (by (simp; done))); obtain ⟨hc, hf⟩ := bcell hb; have hs := hb.size; clear hb; (try simp only [World.size_alloc, World.size_setCell] at hc hf); (try simp only [World.size_alloc, World.size_setCell] at hs); (try have hs' := Nat.lt_of_succ_le hs); (try have hs0 : w.heap.size < w1.heap.size := by omega); (try have hs1 : w.heap.size + 1 < w1.heap.size := by omega); (try have hs2 : w.heap.size + 1 + 1 < w1.heap.size := by omega); (try have hs3 : w.heap.size + 1 + 1 + 1 < w1.heap.size := by omega)) | (go_at_call 106; refine (H3.out _ (by (repeat with_reducible assumption))).mono ?_; rintro e w1 ⟨rfl, hb⟩; have hB : Below w.heap.size w w1 := Below.trans (by (repeat with_reducible assumption)) (hb.mono (by omega)); obtain ⟨hc, hf⟩ := bcell hb; have hs := hb.size; clear hb; (try simp only [World.size_alloc, World.size_setCell] at hc hf); (try simp only [World.size_alloc, World.size_setCell] at hs); (try have hs' := Nat.lt_of_succ_le hs); (try have hs0 : w.heap.size < w1.heap.size := by omega); (try have hs1 : w.heap.size + 1 < w1.heap.size := by omega); (try have hs2 : w.heap.size + 1 + 1 < w1.heap.size := by omega); (try have hs3 : w.heap.size + 1 + 1 + 1 < w1.heap.size := by omega)) | (go_at_call 107; refine (H4.out _ (by (repeat with_reducible assumption))).mono ?_; rintro e w1 ⟨rfl, hb⟩; have hB : Below w.heap.size w w1 := Below.trans (by (repeat with_reducible assumption)) (hb.mono (by omega)); obtain ⟨hc, hf⟩ := bcell hb; have hs := hb.size; clear hb; (try simp only [World.size_alloc, World.size_setCell] at hc hf); (try simp only [World.size_alloc, World.size_setCell] at hs); (try have hs' := Nat.lt_of_succ_le hs); (try have hs0 : w.heap.size < w1.heap.size := by omega); (try have hs1 : w.heap.size + 1 < w1.heap.size := by omega); (try have hs2 : w.heap.size + 1 + 1 < w1.heap.size := by omega); (try have hs3 : w.heap.size + 1 + 1 + 1 < w1.heap.size := by omega)))
    go_ret
    exact ⟨by rw [← HF.out]; rfl, by (repeat first | with_reducible assumption | (with_reducible refine Below.alloc ?_ ?_ _; rotate_left; exact (by omega)))⟩
  · have h7 : e5 = 0 := by rw [HG5.out, p4]; rfl
    have HF : Hid (e6 = G) := Lib.hid (by
      rw [HE.out, h7]
      show e6 = orL [e6]
      unfold orL
      by_cases h : e6 = 0
      · rw [if_pos h, h]; rfl
      · rw [if_neg h])
    clear HE HG5 h7
    go_enter Tryz.func67, Tryz.ntmps67
    go_wp2_with (first | (go_at_call 104; refine (rname_any _ _).mono ?_; rintro e w1 ⟨rfl, rfl⟩) | (go_at_call 70; refine (rwithin2_any _ _ _ _).mono ?_; rintro e w1 ⟨rfl, rfl⟩) | (go_at_call 108; refine (rplaced_any _ _ _).mono ?_; rintro e w1 ⟨rfl, rfl⟩) | (go_at_call 105; refine (H2.out _ (by (repeat first | with_reducible exact Below.refl _ _ | (with_reducible refine Below.alloc ?_ ?_ _; rotate_left; exact (by omega))))).mono ?_; rintro e w1 ⟨rfl, hb⟩; have hB : Below w.heap.size w w1 := Below.trans (by (repeat first | with_reducible exact Below.refl _ _ | (with_reducible refine Below.alloc ?_ ?_ _; rotate_left; exact (by omega)))) (hb.mono (by (simp; done))); obtain ⟨hc, hf⟩ := bcell hb; have hs := hb.size; clear hb; (try simp only [World.size_alloc, World.size_setCell] at hc hf); (try simp only [World.size_alloc, World.size_setCell] at hs); (try have hs' := Nat.lt_of_succ_le hs); (try have hs0 : w.heap.size < w1.heap.size := by omega); (try have hs1 : w.heap.size + 1 < w1.heap.size := by omega); (try have hs2 : w.heap.size + 1 + 1 < w1.heap.size := by omega); (try have hs3 : w.heap.size + 1 + 1 + 1 < w1.heap.size := by omega)) | (go_at_call 106; refine (H3.out _ (by (repeat with_reducible assumption))).mono ?_; rintro e w1 ⟨rfl, hb⟩; have hB : Below w.heap.size w w1 := Below.trans (by (repeat with_reducible assumption)) (hb.mono (by omega)); obtain ⟨hc, hf⟩ := bcell hb; have hs := hb.size; clear hb; (try simp only [World.size_alloc, World.size_setCell] at hc hf); (try simp only [World.size_alloc, World.size_setCell] at hs); (try have hs' := Nat.lt_of_succ_le hs); (try have hs0 : w.heap.size < w1.heap.size := by omega); (try have hs1 : w.heap.size + 1 < w1.heap.size := by omega); (try have hs2 : w.heap.size + 1 + 1 < w1.heap.size := by omega); (try have hs3 : w.heap.size + 1 + 1 + 1 < w1.heap.size := by omega)) | (go_at_call 107; refine (H4.out _ (by (repeat with_reducible assumption))).mono ?_; rintro e w1 ⟨rfl, hb⟩; have hB : Below w.heap.size w w1 := Below.trans (by (repeat with_reducible assumption)) (hb.mono (by omega)); obtain ⟨hc, hf⟩ := bcell hb; have hs := hb.size; clear hb; (try simp only [World.size_alloc, World.size_setCell] at hc hf); (try simp only [World.size_alloc, World.size_setCell] at hs); (try have hs' := Nat.lt_of_succ_le hs); (try have hs0 : w.heap.size < w1.heap.size := by omega); (try have hs1 : w.heap.size + 1 < w1.heap.size := by omega); (try have hs2 : w.heap.size + 1 + 1 < w1.heap.size := by omega); (try have hs3 : w.heap.size + 1 + 1 + 1 < w1.heap.size := by omega)) | (go_at_call 109; refine (H6.out _ (by (repeat first | with_reducible assumption | (with_reducible refine Below.alloc ?_ ?_ _; rotate_left; exact (by omega))))).mono ?_; rintro e w1 ⟨rfl, hb⟩; have hB : Below w.heap.size w w1 := Below.trans (by (repeat first | with_reducible assumption | (with_reducible refine Below.alloc ?_ ?_ _; rotate_left; exact (by omega)))) (hb.mono (by (simp; omega))); obtain ⟨hc, hf⟩ := bcell hb; have hs := hb.size; clear hb; (try simp only [World.size_alloc, World.size_setCell] at hc hf); (try simp only [World.size_alloc, World.size_setCell] at hs); (try have hs' := Nat.lt_of_succ_le hs); (try have hs0 : w.heap.size < w1.heap.size := by omega); (try have hs1 : w.heap.size + 1 < w1.heap.size := by omega); (try have hs2 : w.heap.size + 1 + 1 < w1.heap.size := by omega); (try have hs3 : w.heap.size + 1 + 1 + 1 < w1.heap.size := by omega)))
    go_ret
    exact ⟨by rw [← HF.out]; rfl, by (repeat with_reducible assumption)⟩
theorem rcheck_any (R : MachR) (M : MachD) (w : World) (hM : IsM w R M) : Calls Tryz.prog 67 #[.agg (machCells R M)] w (Ret (.int .i64 (checkC M)) w) := rcheck_open R M w hM.mo
end
end Go.Proofs.YtogcjgjhmlifgaaGreat
