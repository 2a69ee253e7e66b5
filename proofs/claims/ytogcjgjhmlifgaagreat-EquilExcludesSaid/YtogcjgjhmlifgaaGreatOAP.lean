import Derived.Test.YtogcjgjhmlifgaaGreatOAE
import Derived.Test.YtogcjgjhmlifgaaGreatOAO
namespace Go.Proofs.YtogcjgjhmlifgaaGreat
set_option linter.unusedVariables false
set_option linter.unusedSimpArgs false
section
open Go.RowKit Go.Shelf
theorem orL_zeroes {l : List Int} (h : orL l = 0) : ∀ x ∈ l, x = 0 := by
  induction l with
  | nil => intro x hx; cases hx
  | cons y r ih =>
    intro x hx
    unfold orL at h
    by_cases hy : y = 0
    · rw [if_pos hy] at h
      rcases List.mem_cons.1 hx with rfl | hx
      · exact hy
      · exact ih h x hx
    · rw [if_neg hy] at h; exact absurd h hy
theorem check_fine {M : MachD} (h : checkC M = 0) : M.grid.Fine := by
  have h5 := orL_zeroes h (gridC M.grid) (by simp)
  unfold gridC at h5
  by_cases a : (wthn M.grid.nr 1 8 && (wthn M.grid.nz 1 8 && wthn M.grid.step 1 10)) = true
  · rw [if_pos a] at h5
    by_cases b : nearB M.grid.r M.grid.z 60 = true
    · exact fine_of a b
    · rw [if_neg b] at h5; simp at h5
  · rw [if_neg a] at h5; simp at h5
theorem fine_cells {g : GridD} (h : g.Fine) : 1 ≤ g.nr * g.nz ∧ g.nr * g.nz ≤ 64 := by
  obtain ⟨r0, r1, z0, z1, n0, n1, k0, k1, s0, s1⟩ := h
  have h1 := Int.mul_le_mul n0 k0 (by omega) (by omega)
  have h2 := Int.mul_le_mul n1 k1 (by omega) (by omega)
  omega
def cellsC (M : MachD) : Int := if checkC M = 0 then M.grid.nr * M.grid.nz else 0
def cellL (M : MachD) (i : Int) : Int × Int × Int :=
  if checkC M = 0 then if wthn i 0 (M.grid.nr * M.grid.nz - 1) = true then (cellR M.grid i, cellZ M.grid i, 0) else (0, 0, 7) else (0, 0, 1)
set_option maxRecDepth 100000 in
set_option maxHeartbeats 4000000 in
theorem rcells2_any (R : MachR) (M : MachD) (w : World) (hM : IsM w R M) :
    Calls Tryz.prog 68 #[.agg (machCells R M)] w (Ret (.int .i64 (cellsC M)) w) := by
  have HE : Hid (cellsC M = if checkC M = 0 then M.grid.nr * M.grid.nz else 0) := Lib.hid rfl
  have HF := Lib.hid (fun h : checkC M = 0 => fine_cells (check_fine h))
  have H0 := Lib.hid (fun W (hb : Below w.heap.size w W) => rcheck_any R M W (hM.below hb))
  generalize cellsC M = G at *
  generalize checkC M = c at *
  clear hM
  obtain ⟨A, B, C, D, la, ca, lb, cb, lc, cc, ld, cd⟩ := R
  obtain ⟨name, coils, shells, limits, ⟨r, z, nr, nz, step⟩, sensors⟩ := M
  dsimp only at *
  have H0 := Lib.hid (show ∀ W, Below w.heap.size w W → Calls Tryz.prog 67 #[.agg #[.string name, .slice A la ca, .slice B lb cb, .slice C lc cc, .int .i64 r, .int .i64 z, .int .i64 nr, .int .i64 nz, .int .i64 step, .slice D ld cd]] W (Ret (.int .i64 c) W) from H0.out)
  show Calls Tryz.prog 68 #[.agg #[.string name, .slice A la ca, .slice B lb cb, .slice C lc cc, .int .i64 r, .int .i64 z, .int .i64 nr, .int .i64 nz, .int .i64 step, .slice D ld cd]] w _
  by_cases hc : c = 0
  · have HG : Hid (nr * nz = G) := Lib.hid (by rw [HE.out, if_pos hc])
    obtain ⟨b0, b1⟩ := HF.out hc
    subst hc
    have e5 : IntKind.i64.wrap (nr * nz) = nr * nz := IntWalk.i64_in _ (by omega)
    generalize hP : nr * nz = P at *
    clear HE HF
    go_enter Tryz.func68, Tryz.ntmps68
    go_wp2_with fail
    refine (H0.out _ (by (repeat first | with_reducible exact Below.refl _ _ | (with_reducible refine Below.alloc ?_ ?_ _; rotate_left; exact (by omega))))).mono ?_
    rintro e w1 ⟨rfl, hb⟩
    have q6 : w1.cell? ⟨w.heap.size, 6, none⟩ = some (.int .i64 nr) := by rw [hb.cell (p := ⟨w.heap.size, 6, none⟩) (by simp)]; go_simp
    have q7 : w1.cell? ⟨w.heap.size, 7, none⟩ = some (.int .i64 nz) := by rw [hb.cell (p := ⟨w.heap.size, 7, none⟩) (by simp)]; go_simp
    have hB1 : Below w.heap.size w w1 := Below.trans (by (repeat first | with_reducible exact Below.refl _ _ | (with_reducible refine Below.alloc ?_ ?_ _; rotate_left; exact (by omega)))) (hb.mono (by ((try simp only [World.size_alloc, World.size_setCell, size_drew, size_drewN]); omega)))
    clear hb
    go_wp2_with fail
    go_ret
    exact ⟨by rw [← HG.out]; rfl, by (repeat with_reducible assumption)⟩
  · have HG : Hid ((0 : Int) = G) := Lib.hid (by rw [HE.out, if_neg hc])
    have hcb : (c != 0) = true := by rw [bne_iff_ne]; exact hc
    clear HE HF hc
    go_enter Tryz.func68, Tryz.ntmps68
    go_wp2_with fail
    refine (H0.out _ (by (repeat first | with_reducible exact Below.refl _ _ | (with_reducible refine Below.alloc ?_ ?_ _; rotate_left; exact (by omega))))).mono ?_
    rintro e w1 ⟨rfl, hb⟩
    have hB1 : Below w.heap.size w w1 := Below.trans (by (repeat first | with_reducible exact Below.refl _ _ | (with_reducible refine Below.alloc ?_ ?_ _; rotate_left; exact (by omega)))) (hb.mono (by ((try simp only [World.size_alloc, World.size_setCell, size_drew, size_drewN]); omega)))
    clear hb
    go_wp2_with fail
    go_ret
    exact ⟨by rw [← HG.out]; rfl, by (repeat with_reducible assumption)⟩
set_option maxRecDepth 100000 in
set_option maxHeartbeats 4000000 in
theorem rat_any (name : ByteArray) (A B C D : Option Addr) (la ca lb cb lc cc ld cd : Nat) (r z nr nz step : Int) (i : Int) (w : World) (h : (⟨r, z, nr, nz, step⟩ : GridD).Fine) (i0 : 0 ≤ i) (i1 : i ≤ 1000) :
    Calls Tryz.prog 148 #[.agg #[.string name, .slice A la ca, .slice B lb cb, .slice C lc cc, .int .i64 r, .int .i64 z, .int .i64 nr, .int .i64 nz, .int .i64 step, .slice D ld cd], .int .i64 i] w (Ret (.agg #[.int .i64 (cellR ⟨r, z, nr, nz, step⟩ i), .int .i64 (cellZ ⟨r, z, nr, nz, step⟩ i)]) w) := by
  obtain ⟨⟨p0, p1⟩, q0, q1⟩ := cell_bd h i0 i1
  obtain ⟨r0, r1, z0, z1, n0, n1, k0, k1, s0, s1⟩ := h
  dsimp only at *
  have e1 : (nr == 0) = false := by rw [beq_eq_false_iff_ne]; omega
  have e2 : ¬nr = 0 := by omega
  have e3 := Int.tmod_eq_emod_of_nonneg (b := nr) i0
  have e4 := Int.tdiv_eq_ediv_of_nonneg (b := nr) i0
  have e5 : IntKind.i64.wrap (i % nr * step) = i % nr * step := IntWalk.i64_in _ (by omega)
  have e6 : IntKind.i64.wrap (i / nr * step) = i / nr * step := IntWalk.i64_in _ (by omega)
  have b0 := Int.ediv_nonneg i0 (show 0 ≤ nr by omega)
  have b1 := Int.ediv_le_self nr i0
  have e7 : IntKind.i64.wrap (i / nr) = i / nr := IntWalk.i64_in _ (by omega)
  have HR : Hid (IntKind.i64.wrap (r + IntKind.i64.wrap (i % nr * step)) = cellR ⟨r, z, nr, nz, step⟩ i) := Lib.hid (by rw [e5, IntWalk.i64_in _ (by omega)]; rfl)
  have HZ : Hid (IntKind.i64.wrap (z + IntKind.i64.wrap (i / nr * step)) = cellZ ⟨r, z, nr, nz, step⟩ i) := Lib.hid (by rw [e6, IntWalk.i64_in _ (by omega)]; rfl)
  generalize cellR ⟨r, z, nr, nz, step⟩ i = RR at *
  generalize cellZ ⟨r, z, nr, nz, step⟩ i = ZZ at *
  clear e5 e6 p0 p1 q0 q1
  generalize i % nr = MM at *
  generalize i / nr = DD at *
  obtain ⟨W0, hW⟩ : ∃ W0, W0 = ((w.alloc (.cells #[.string name, .slice A la ca, .slice B lb cb, .slice C lc cc, .int .i64 r, .int .i64 z, .int .i64 nr, .int .i64 nz, .int .i64 step, .slice D ld cd] 29)).alloc (.cells #[.int .i64 0, .int .i64 0] 36)).alloc (.cells #[.int .i64 r, .int .i64 z, .int .i64 nr, .int .i64 nz, .int .i64 step] 26) := ⟨_, rfl⟩
  have c0 : W0.cell? ⟨w.heap.size + 1 + 1, 0, none⟩ = some (.int .i64 r) := by rw [hW]; go_simp
  have c1 : W0.cell? ⟨w.heap.size + 1 + 1, 1, none⟩ = some (.int .i64 z) := by rw [hW]; go_simp
  have c2 : W0.cell? ⟨w.heap.size + 1 + 1, 2, none⟩ = some (.int .i64 nr) := by rw [hW]; go_simp
  have c4 : W0.cell? ⟨w.heap.size + 1 + 1, 4, none⟩ = some (.int .i64 step) := by rw [hW]; go_simp
  have t0 : W0.cell? ⟨w.heap.size + 1, 0, none⟩ = some (.int .i64 0) := by rw [hW]; go_simp
  have t1 : W0.cell? ⟨w.heap.size + 1, 1, none⟩ = some (.int .i64 0) := by rw [hW]; go_simp
  have f0 : W0.frozen? ⟨w.heap.size + 1, 0, none⟩ = false := by rw [hW]; go_simp
  have f1 : W0.frozen? ⟨w.heap.size + 1, 1, none⟩ = false := by rw [hW]; go_simp
  have hB : Below w.heap.size w W0 := by rw [hW]; (repeat first | with_reducible exact Below.refl _ _ | (with_reducible refine Below.alloc ?_ ?_ _; rotate_left; exact (by first | omega | (simp; done) | (simp; omega))))
  have hs : w.heap.size + 1 + 1 < W0.heap.size := by rw [hW]; simp
  have HW := Lib.hid hW
  clear hW
  go_enter Tryz.func148, Tryz.ntmps148
  go_upto_region 2 with fail
  rw [← HW.out]
  clear HW
  have HS : Hid (∀ w' : World, Reg (w.heap.size + 1) (W0) w' → (Reg (w.heap.size + 1) (W0) w' ∧ w'.cell? ⟨w.heap.size + 1 + 1, 0, none⟩ = some (.int .i64 r) ∧ w'.cell? ⟨w.heap.size + 1 + 1, 1, none⟩ = some (.int .i64 z) ∧ w'.cell? ⟨w.heap.size + 1 + 1, 2, none⟩ = some (.int .i64 nr) ∧ w'.cell? ⟨w.heap.size + 1 + 1, 4, none⟩ = some (.int .i64 step) ∧ w'.cell? ⟨w.heap.size + 1, 0, none⟩ = some (cur w' ⟨w.heap.size + 1, 0, none⟩) ∧ w'.frozen? ⟨w.heap.size + 1, 0, none⟩ = false ∧ w'.cell? ⟨w.heap.size + 1, 1, none⟩ = some (cur w' ⟨w.heap.size + 1, 1, none⟩) ∧ w'.frozen? ⟨w.heap.size + 1, 1, none⟩ = false)) := (fun w' h => by (have hc := h.cells; have hs := h.some; have hf := h.frozen; refine ⟨h, ?_⟩; (try simp only [World.size_alloc, World.size_setCell, size_drew, size_drewN] at hc hs hf); first | (simp (disch := omega) only [hc, hs, hf, cur_iff]; (try go_simp); done) | (simp (disch := first | omega | (simp; done)) only [hc, hs, hf, cur_iff]; (try go_simp); done) | (simp (maxDischargeDepth := 4) [hc, hs, hf, cur_iff, go_sem]; done) | (go_simp; done) | (simp (maxDischargeDepth := 4) [hc, hs, hf, cur_iff, go_sem]; go_simp))); go_region_held3 (fun w' => Reg (w.heap.size + 1) (W0) w' ∧ w'.cell? ⟨w.heap.size + 1 + 1, 0, none⟩ = some (.int .i64 r) ∧ w'.cell? ⟨w.heap.size + 1 + 1, 1, none⟩ = some (.int .i64 z) ∧ w'.cell? ⟨w.heap.size + 1 + 1, 2, none⟩ = some (.int .i64 nr) ∧ w'.cell? ⟨w.heap.size + 1 + 1, 4, none⟩ = some (.int .i64 step) ∧ w'.cell? ⟨w.heap.size + 1, 0, none⟩ = some (cur w' ⟨w.heap.size + 1, 0, none⟩) ∧ w'.frozen? ⟨w.heap.size + 1, 0, none⟩ = false ∧ w'.cell? ⟨w.heap.size + 1, 1, none⟩ = some (cur w' ⟨w.heap.size + 1, 1, none⟩) ∧ w'.frozen? ⟨w.heap.size + 1, 1, none⟩ = false) (exact HS.out _ (by (repeat first | with_reducible exact Reg.refl _ _ | (with_reducible refine Reg.setCell ?_ ?_ _; rotate_left; exact (by (simp; done))) | with_reducible refine Reg.drew ?_))) (first | fail)
  all_goals go_wp2_with fail
  all_goals exact bodyPost_ret (resQ Tryz.results148 _ _ _ _ _ rfl (by rw [t0]; rfl) (by rw [t1]; rfl)) rfl ⟨by rw [HR.out, HZ.out], by (repeat first | with_reducible assumption | (with_reducible refine Below.setCell ?_ ?_ _; rotate_left; exact (by (simp; done))) | with_reducible refine Below.drew ?_)⟩
end
end Go.Proofs.YtogcjgjhmlifgaaGreat
