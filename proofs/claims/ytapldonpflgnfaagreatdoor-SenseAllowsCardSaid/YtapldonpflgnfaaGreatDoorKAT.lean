import Derived.Test.YtapldonpflgnfaaGreatDoorKAK
import Derived.Test.YtapldonpflgnfaaGreatDoorKAS
namespace Go.Proofs.YtapldonpflgnfaaGreatDoor
set_option linter.unusedVariables false
set_option linter.unusedSimpArgs false
section
open Go.RowKit Go.Shelf
theorem orL_zeroes {l : List Int} (h : orL l = 0) : ∀ x ∈ l, x = 0 := by
  induction l with
  | nil => intro x hx; cases hx
  | cons y r ih =>
    intro x hx
    unfold orL at h
    by_cases hy : y = 0
    · rw [if_pos hy] at h
      rcases List.mem_cons.1 hx with rfl | hx
      · exact hy
      · exact ih h x hx
    · rw [if_neg hy] at h; exact absurd h hy
theorem check_fine {M : MachD} (h : checkC M = 0) : M.grid.Fine := by
  have h5 := orL_zeroes h (gridC M.grid) (by simp)
  unfold gridC at h5
  by_cases a : (wthn M.grid.nr 1 8 && (wthn M.grid.nz 1 8 && wthn M.grid.step 1 10)) = true
  · rw [if_pos a] at h5
    by_cases b : nearB M.grid.r M.grid.z 60 = true
    · exact fine_of a b
    · rw [if_neg b] at h5; simp at h5
  · rw [if_neg a] at h5; simp at h5
theorem fine_cells {g : GridD} (h : g.Fine) : 1 ≤ g.nr * g.nz ∧ g.nr * g.nz ≤ 64 := by
  obtain ⟨r0, r1, z0, z1, n0, n1, k0, k1, s0, s1⟩ := h
  have h1 := Int.mul_le_mul n0 k0 (by omega) (by omega)
  have h2 := Int.mul_le_mul n1 k1 (by omega) (by omega)
  omega
def cellsC (M : MachD) : Int := if checkC M = 0 then M.grid.nr * M.grid.nz else 0
def cellL (M : MachD) (i : Int) : Int × Int × Int :=
  if checkC M = 0 then if wthn i 0 (M.grid.nr * M.grid.nz - 1) = true then (cellR M.grid i, cellZ M.grid i, 0) else (0, 0, 7) else (0, 0, 1)
set_option maxRecDepth 100000 in
set_option maxHeartbeats 4000000 in
theorem rcells2_any (R : MachR) (M : MachD) (w : World) (hM : IsM w R M) :
    Calls Tryz.prog 34 #[.agg (machCells R M)] w (Ret (.int .i64 (cellsC M)) w) := by
  have HE : Hid (cellsC M = if checkC M = 0 then M.grid.nr * M.grid.nz else 0) := Lib.hid rfl
  have HF := Lib.hid (fun h : checkC M = 0 => fine_cells (check_fine h))
  have H0 := Lib.hid (fun W (hb : Below w.heap.size w W) => rcheck_any R M W (hM.below hb))
  generalize cellsC M = G at *
  generalize checkC M = c at *
  clear hM
  obtain ⟨A, B, C, D, la, ca, lb, cb, lc, cc, ld, cd⟩ := R
  obtain ⟨name, coils, shells, limits, ⟨r, z, nr, nz, step⟩, sensors⟩ := M
  dsimp only at *
  have H0 := Lib.hid (show ∀ W, Below w.heap.size w W → Calls Tryz.prog 73 #[.agg #[.string name, .slice A la ca, .slice B lb cb, .slice C lc cc, .int .i64 r, .int .i64 z, .int .i64 nr, .int .i64 nz, .int .i64 step, .slice D ld cd]] W (Ret (.int .i64 c) W) from H0.out)
  show Calls Tryz.prog 34 #[.agg #[.string name, .slice A la ca, .slice B lb cb, .slice C lc cc, .int .i64 r, .int .i64 z, .int .i64 nr, .int .i64 nz, .int .i64 step, .slice D ld cd]] w _
  by_cases hc : c = 0
  · have HG : Hid (nr * nz = G) := Lib.hid (by rw [HE.out, if_pos hc])
    obtain ⟨b0, b1⟩ := HF.out hc
    subst hc
    have e5 : IntKind.i64.wrap (nr * nz) = nr * nz := IntWalk.i64_in _ (by omega)
    generalize hP : nr * nz = P at *
    clear HE HF
    go_enter Tryz.func34, Tryz.ntmps34
    go_wp2_with fail
    refine (H0.out _ (by (repeat first | with_reducible exact Below.refl _ _ | (with_reducible refine Below.alloc ?_ ?_ _; rotate_left; exact (by omega))))).mono ?_
    rintro e w1 ⟨rfl, hb⟩
    have q6 : w1.cell? ⟨w.heap.size, 6, none⟩ = some (.int .i64 nr) := by rw [hb.cell (p := ⟨w.heap.size, 6, none⟩) (by simp)]; go_simp
    have q7 : w1.cell? ⟨w.heap.size, 7, none⟩ = some (.int .i64 nz) := by rw [hb.cell (p := ⟨w.heap.size, 7, none⟩) (by simp)]; go_simp
    have hB1 : Below w.heap.size w w1 := Below.trans (by (repeat first | with_reducible exact Below.refl _ _ | (with_reducible refine Below.alloc ?_ ?_ _; rotate_left; exact (by omega)))) (hb.mono (by ((try simp only [World.size_alloc, World.size_setCell, size_drew, size_drewN]); omega)))
    clear hb
    go_wp2_with fail
    go_ret
    exact ⟨by rw [← HG.out]; rfl, by (repeat with_reducible assumption)⟩
  · have HG : Hid ((0 : Int) = G) := Lib.hid (by rw [HE.out, if_neg hc])
    have hcb : (c != 0) = true := by rw [bne_iff_ne]; exact hc
    clear HE HF hc
    go_enter Tryz.func34, Tryz.ntmps34
    go_wp2_with fail
    refine (H0.out _ (by (repeat first | with_reducible exact Below.refl _ _ | (with_reducible refine Below.alloc ?_ ?_ _; rotate_left; exact (by omega))))).mono ?_
    rintro e w1 ⟨rfl, hb⟩
    have hB1 : Below w.heap.size w w1 := Below.trans (by (repeat first | with_reducible exact Below.refl _ _ | (with_reducible refine Below.alloc ?_ ?_ _; rotate_left; exact (by omega)))) (hb.mono (by ((try simp only [World.size_alloc, World.size_setCell, size_drew, size_drewN]); omega)))
    clear hb
    go_wp2_with fail
    go_ret
    exact ⟨by rw [← HG.out]; rfl, by (repeat with_reducible assumption)⟩
set_option maxRecDepth 100000 in
set_option maxHeartbeats 4000000 in
theorem rat_any (name : ByteArray) (A B C D : Option Addr) (la ca lb cb lc cc ld cd : Nat) (r z nr nz step : Int) (i : Int) (w : World) (h : (⟨r, z, nr, nz, step⟩ : GridD).Fine) (i0 : 0 ≤ i) (i1 : i ≤ 1000) :
    Calls Tryz.prog 134 #[.agg #[.string name, .slice A la ca, .slice B lb cb, .slice C lc cc, .int .i64 r, .int .i64 z, .int .i64 nr, .int .i64 nz, .int .i64 step, .slice D ld cd], .int .i64 i] w (Ret (.agg #[.int .i64 (cellR ⟨r, z, nr, nz, step⟩ i), .int .i64 (cellZ ⟨r, z, nr, nz, step⟩ i)]) w) := by
  obtain ⟨⟨p0, p1⟩, q0, q1⟩ := cell_bd h i0 i1
  obtain ⟨r0, r1, z0, z1, n0, n1, k0, k1, s0, s1⟩ := h
  dsimp only at *
  have e1 : (nr == 0) = false := by rw [beq_eq_false_iff_ne]; omega
  have e2 : ¬nr = 0 := by omega
  have e3 := Int.tmod_eq_emod_of_nonneg (b := nr) i0
  have e4 := Int.tdiv_eq_ediv_of_nonneg (b := nr) i0
  have e5 : IntKind.i64.wrap (i % nr * step) = i % nr * step := IntWalk.i64_in _ (by omega)
  have e6 : IntKind.i64.wrap (i / nr * step) = i / nr * step := IntWalk.i64_in _ (by omega)
  have b0 := Int.ediv_nonneg i0 (show 0 ≤ nr by omega)
  have b1 := Int.ediv_le_self nr i0
  have e7 : IntKind.i64.wrap (i / nr) = i / nr := IntWalk.i64_in _ (by omega)
  have HR : Hid (IntKind.i64.wrap (r + IntKind.i64.wrap (i % nr * step)) = cellR ⟨r, z, nr, nz, step⟩ i) := Lib.hid (by rw [e5, IntWalk.i64_in _ (by omega)]; rfl)
  have HZ : Hid (IntKind.i64.wrap (z + IntKind.i64.wrap (i / nr * step)) = cellZ ⟨r, z, nr, nz, step⟩ i) := Lib.hid (by rw [e6, IntWalk.i64_in _ (by omega)]; rfl)
  generalize cellR ⟨r, z, nr, nz, step⟩ i = RR at *
  generalize cellZ ⟨r, z, nr, nz, step⟩ i = ZZ at *
  clear e5 e6 p0 p1 q0 q1
  generalize i % nr = MM at *
  generalize i / nr = DD at *
  obtain ⟨W0, hW⟩ : ∃ W0, W0 = ((w.alloc (.cells #[.string name, .slice A la ca, .slice B lb cb, .slice C lc cc, .int .i64 r, .int .i64 z, .int .i64 nr, .int .i64 nz, .int .i64 step, .slice D ld cd] 29)).alloc (.cells #[.int .i64 0, .int .i64 0] 79)).alloc (.cells #[.int .i64 r, .int .i64 z, .int .i64 nr, .int .i64 nz, .int .i64 step] 26) := ⟨_, rfl⟩
  have c0 : W0.cell? ⟨w.heap.size + 1 + 1, 0, none⟩ = some (.int .i64 r) := by rw [hW]; go_simp
  have c1 : W0.cell? ⟨w.heap.size + 1 + 1, 1, none⟩ = some (.int .i64 z) := by rw [hW]; go_simp
  have c2 : W0.cell? ⟨w.heap.size + 1 + 1, 2, none⟩ = some (.int .i64 nr) := by rw [hW]; go_simp
  have c4 : W0.cell? ⟨w.heap.size + 1 + 1, 4, none⟩ = some (.int .i64 step) := by rw [hW]; go_simp
  have t0 : W0.cell? ⟨w.heap.size + 1, 0, none⟩ = some (.int .i64 0) := by rw [hW]; go_simp
  have t1 : W0.cell? ⟨w.heap.size + 1, 1, none⟩ = some (.int .i64 0) := by rw [hW]; go_simp
  have f0 : W0.frozen? ⟨w.heap.size + 1, 0, none⟩ = false := by rw [hW]; go_simp
  have f1 : W0.frozen? ⟨w.heap.size + 1, 1, none⟩ = false := by rw [hW]; go_simp
  have hB : Below w.heap.size w W0 := by rw [hW]; (repeat first | with_reducible exact Below.refl _ _ | (with_reducible refine Below.alloc ?_ ?_ _; rotate_left; exact (by first | omega | (simp; done) | (simp; omega))))
  have hs : w.heap.size + 1 + 1 < W0.heap.size := by rw [hW]; simp
  have HW := Lib.hid hW
  clear hW
  go_enter Tryz.func134, Tryz.ntmps134
  go_upto_region 2 with fail
  rw [← HW.out]
  clear HW
  have HS : Hid (∀ w' : World, Reg (w.heap.size + 1) (W0) w' → (Reg (w.heap.size + 1) (W0) w' ∧ w'.cell? ⟨w.heap.size + 1 + 1, 0, none⟩ = some (.int .i64 r) ∧ w'.cell? ⟨w.heap.size + 1 + 1, 1, none⟩ = some (.int .i64 z) ∧ w'.cell? ⟨w.heap.size + 1 + 1, 2, none⟩ = some (.int .i64 nr) ∧ w'.cell? ⟨w.heap.size + 1 + 1, 4, none⟩ = some (.int .i64 step) ∧ w'.cell? ⟨w.heap.size + 1, 0, none⟩ = some (cur w' ⟨w.heap.size + 1, 0, none⟩) ∧ w'.frozen? ⟨w.heap.size + 1, 0, none⟩ = false ∧ w'.cell? ⟨w.heap.size + 1, 1, none⟩ = some (cur w' ⟨w.heap.size + 1, 1, none⟩) ∧ w'.frozen? ⟨w.heap.size + 1, 1, none⟩ = false)) := (fun w' h => by (have hc := h.cells; have hs := h.some; have hf := h.frozen; refine ⟨h, ?_⟩; (try simp only [World.size_alloc, World.size_setCell, size_drew, size_drewN] at hc hs hf); first | (simp (disch := omega) only [hc, hs, hf, cur_iff]; (try go_simp); done) | (simp (disch := first | omega | (simp; done)) only [hc, hs, hf, cur_iff]; (try go_simp); done) | (simp (maxDischargeDepth := 4) [hc, hs, hf, cur_iff, go_sem]; done) | (go_simp; done) | (simp (maxDischargeDepth := 4) [hc, hs, hf, cur_iff, go_sem]; go_simp))); go_region_held3 (fun w' => Reg (w.heap.size + 1) (W0) w' ∧ w'.cell? ⟨w.heap.size + 1 + 1, 0, none⟩ = some (.int .i64 r) ∧ w'.cell? ⟨w.heap.size + 1 + 1, 1, none⟩ = some (.int .i64 z) ∧ w'.cell? ⟨w.heap.size + 1 + 1, 2, none⟩ = some (.int .i64 nr) ∧ w'.cell? ⟨w.heap.size + 1 + 1, 4, none⟩ = some (.int .i64 step) ∧ w'.cell? ⟨w.heap.size + 1, 0, none⟩ = some (cur w' ⟨w.heap.size + 1, 0, none⟩) ∧ w'.frozen? ⟨w.heap.size + 1, 0, none⟩ = false ∧ w'.cell? ⟨w.heap.size + 1, 1, none⟩ = some (cur w' ⟨w.heap.size + 1, 1, none⟩) ∧ w'.frozen? ⟨w.heap.size + 1, 1, none⟩ = false) (exact HS.out _ (by (repeat first | with_reducible exact Reg.refl _ _ | (with_reducible refine Reg.setCell ?_ ?_ _; rotate_left; exact (by (simp; done))) | with_reducible refine Reg.drew ?_))) (first | fail)
  all_goals go_wp2_with fail
  all_goals exact bodyPost_ret (resQ Tryz.results134 _ _ _ _ _ rfl (by rw [t0]; rfl) (by rw [t1]; rfl)) rfl ⟨by rw [HR.out, HZ.out], by (repeat first | with_reducible assumption | (with_reducible refine Below.setCell ?_ ?_ _; rotate_left; exact (by (simp; done))) | with_reducible refine Below.drew ?_)⟩
theorem res3P {fn : Func} {p u : Tmp} (h : fn.results = #[.cell p 79, .tmp u]) (tmps : Array Value) (W : World) (b : Nat) (x y z : Value)
    (hp : tmps.getD p undef = .pointer (some ⟨b, 0, none⟩)) (hu : tmps.getD u undef = z) (h0 : W.cell? ⟨b, 0, none⟩ = some x) (h1 : W.cell? ⟨b, 1, none⟩ = some y) :
    (results fn tmps).run Tryz.prog W = .ok (.tuple #[.agg #[x, y], z]) W := by
  rw [results_cell_tmp h, hp, hu]
  simp [go_sem, h0, h1]
set_option maxRecDepth 100000 in
set_option maxHeartbeats 8000000 in
theorem mcell_any (R : MachR) (M : MachD) (i : Int) (w : World) (hM : IsM w R M) :
    Calls Tryz.prog 64 #[.agg (machCells R M), .int .i64 i] w (Ret (.tuple #[.agg #[.int .i64 (cellL M i).1, .int .i64 (cellL M i).2.1], .int .i64 (cellL M i).2.2]) w) := by
  have HE : Hid (cellL M i = if checkC M = 0 then if wthn i 0 (M.grid.nr * M.grid.nz - 1) = true then (cellR M.grid i, cellZ M.grid i, 0) else (0, 0, 7) else (0, 0, 1)) := Lib.hid rfl
  have HF := Lib.hid (fun h : checkC M = 0 => check_fine h)
  have H0 := Lib.hid (fun W (hb : Below w.heap.size w W) => check_any R M W (hM.below hb))
  generalize cellL M i = G at *
  generalize checkC M = c at *
  clear hM
  obtain ⟨A, B, C, D, la, ca, lb, cb, lc, cc, ld, cd⟩ := R
  obtain ⟨name, coils, shells, limits, ⟨r, z, nr, nz, step⟩, sensors⟩ := M
  dsimp only at *
  have H0 := Lib.hid (show ∀ W, Below w.heap.size w W → Calls Tryz.prog 84 #[.agg #[.string name, .slice A la ca, .slice B lb cb, .slice C lc cc, .int .i64 r, .int .i64 z, .int .i64 nr, .int .i64 nz, .int .i64 step, .slice D ld cd]] W (Ret (.int .i64 c) W) from H0.out)
  show Calls Tryz.prog 64 #[.agg #[.string name, .slice A la ca, .slice B lb cb, .slice C lc cc, .int .i64 r, .int .i64 z, .int .i64 nr, .int .i64 nz, .int .i64 step, .slice D ld cd], .int .i64 i] w _
  by_cases hc : c = 0
  rotate_left
  · have HG : Hid (G = (0, 0, 1)) := Lib.hid (by rw [HE.out, if_neg hc])
    have hcb : (c != 0) = true := by rw [bne_iff_ne]; exact hc
    clear HE HF hc
    go_enter Tryz.func64, Tryz.ntmps64
    go_wp2_with fail
    refine (H0.out _ (by (repeat first | with_reducible exact Below.refl _ _ | (with_reducible refine Below.alloc ?_ ?_ _; rotate_left; exact (by first | omega | (simp; done)))))).mono ?_
    rintro e w1 ⟨rfl, hb⟩
    have m0 : w1.cell? ⟨w.heap.size, 0, none⟩ = some (.string name) := by rw [hb.cell (p := ⟨w.heap.size, 0, none⟩) (by ((try simp only [World.size_alloc, World.size_setCell, size_drew, size_drewN]); omega))]; go_simp
    have m1 : w1.cell? ⟨w.heap.size, 1, none⟩ = some (.slice A la ca) := by rw [hb.cell (p := ⟨w.heap.size, 1, none⟩) (by ((try simp only [World.size_alloc, World.size_setCell, size_drew, size_drewN]); omega))]; go_simp
    have m2 : w1.cell? ⟨w.heap.size, 2, none⟩ = some (.slice B lb cb) := by rw [hb.cell (p := ⟨w.heap.size, 2, none⟩) (by ((try simp only [World.size_alloc, World.size_setCell, size_drew, size_drewN]); omega))]; go_simp
    have m3 : w1.cell? ⟨w.heap.size, 3, none⟩ = some (.slice C lc cc) := by rw [hb.cell (p := ⟨w.heap.size, 3, none⟩) (by ((try simp only [World.size_alloc, World.size_setCell, size_drew, size_drewN]); omega))]; go_simp
    have m4 : w1.cell? ⟨w.heap.size, 4, none⟩ = some (.int .i64 r) := by rw [hb.cell (p := ⟨w.heap.size, 4, none⟩) (by ((try simp only [World.size_alloc, World.size_setCell, size_drew, size_drewN]); omega))]; go_simp
    have m5 : w1.cell? ⟨w.heap.size, 5, none⟩ = some (.int .i64 z) := by rw [hb.cell (p := ⟨w.heap.size, 5, none⟩) (by ((try simp only [World.size_alloc, World.size_setCell, size_drew, size_drewN]); omega))]; go_simp
    have m6 : w1.cell? ⟨w.heap.size, 6, none⟩ = some (.int .i64 nr) := by rw [hb.cell (p := ⟨w.heap.size, 6, none⟩) (by ((try simp only [World.size_alloc, World.size_setCell, size_drew, size_drewN]); omega))]; go_simp
    have m7 : w1.cell? ⟨w.heap.size, 7, none⟩ = some (.int .i64 nz) := by rw [hb.cell (p := ⟨w.heap.size, 7, none⟩) (by ((try simp only [World.size_alloc, World.size_setCell, size_drew, size_drewN]); omega))]; go_simp
    have m8 : w1.cell? ⟨w.heap.size, 8, none⟩ = some (.int .i64 step) := by rw [hb.cell (p := ⟨w.heap.size, 8, none⟩) (by ((try simp only [World.size_alloc, World.size_setCell, size_drew, size_drewN]); omega))]; go_simp
    have m9 : w1.cell? ⟨w.heap.size, 9, none⟩ = some (.slice D ld cd) := by rw [hb.cell (p := ⟨w.heap.size, 9, none⟩) (by ((try simp only [World.size_alloc, World.size_setCell, size_drew, size_drewN]); omega))]; go_simp
    have mt0 : w1.cell? ⟨w.heap.size + 1, 0, none⟩ = some (.int .i64 0) := by rw [hb.cell (p := ⟨w.heap.size + 1, 0, none⟩) (by ((try simp only [World.size_alloc, World.size_setCell, size_drew, size_drewN]); omega))]; go_simp
    have mt1 : w1.cell? ⟨w.heap.size + 1, 1, none⟩ = some (.int .i64 0) := by rw [hb.cell (p := ⟨w.heap.size + 1, 1, none⟩) (by ((try simp only [World.size_alloc, World.size_setCell, size_drew, size_drewN]); omega))]; go_simp
    have mf0 : w1.frozen? ⟨w.heap.size + 1, 0, none⟩ = false := by rw [hb.frozen (p := ⟨w.heap.size + 1, 0, none⟩) (by ((try simp only [World.size_alloc, World.size_setCell, size_drew, size_drewN]); omega))]; go_simp
    have mf1 : w1.frozen? ⟨w.heap.size + 1, 1, none⟩ = false := by rw [hb.frozen (p := ⟨w.heap.size + 1, 1, none⟩) (by ((try simp only [World.size_alloc, World.size_setCell, size_drew, size_drewN]); omega))]; go_simp
    have hB1 : Below w.heap.size w w1 := Below.trans (by (repeat first | with_reducible exact Below.refl _ _ | (with_reducible refine Below.alloc ?_ ?_ _; rotate_left; exact (by first | omega | (simp; done))))) (hb.mono (by ((try simp only [World.size_alloc, World.size_setCell, size_drew, size_drewN]); omega)))
    have sz1 : w.heap.size + 1 < w1.heap.size := Nat.lt_of_lt_of_le (by ((try simp only [World.size_alloc, World.size_setCell, size_drew, size_drewN]); omega)) hb.size
    have sy1 : w.heap.size < w1.heap.size := by omega
    clear hb
    go_wp2_with fail
    rw [HG.out]
    exact bodyPost_ret (res3P Tryz.results64 _ _ _ _ _ _ rfl rfl (by go_simp) (by go_simp)) rfl ⟨rfl, by (repeat first | with_reducible assumption | (with_reducible refine Below.setCell ?_ ?_ _; rotate_left; exact (by (simp; done))))⟩
  have hf := HF.out hc
  obtain ⟨b0, b1⟩ := fine_cells hf
  dsimp only at b0 b1
  have HE := Lib.hid (HE.out.trans (if_pos hc))
  subst hc
  have HCP := Lib.hid (fun (j0 : 0 ≤ i) (j1 : i ≤ 1000) => fun W => cellPlace_any ⟨r, z, nr, nz, step⟩ i W hf j0 j1)
  generalize cellR ⟨r, z, nr, nz, step⟩ i = X at *
  generalize cellZ ⟨r, z, nr, nz, step⟩ i = Y at *
  have HCS := Lib.hid (fun W => cells_any ⟨r, z, nr, nz, step⟩ W (by dsimp only; omega) (by dsimp only; omega))
  dsimp only at HCS
  generalize nr * nz = P at *
  clear hf HF
  by_cases hw : wthn i 0 (P - 1) = true
  rotate_left
  · have HG : Hid (G = (0, 0, 7)) := Lib.hid (by rw [HE.out]; simp [hw])
    have hw : wthn i 0 (P - 1) = false := by simpa using hw
    clear HE HCP
    go_enter Tryz.func64, Tryz.ntmps64
    go_wp2_with fail
    refine (H0.out _ (by (repeat first | with_reducible exact Below.refl _ _ | (with_reducible refine Below.alloc ?_ ?_ _; rotate_left; exact (by first | omega | (simp; done)))))).mono ?_
    rintro e w1 ⟨rfl, hb⟩
    have m0 : w1.cell? ⟨w.heap.size, 0, none⟩ = some (.string name) := by rw [hb.cell (p := ⟨w.heap.size, 0, none⟩) (by ((try simp only [World.size_alloc, World.size_setCell, size_drew, size_drewN]); omega))]; go_simp
    have m1 : w1.cell? ⟨w.heap.size, 1, none⟩ = some (.slice A la ca) := by rw [hb.cell (p := ⟨w.heap.size, 1, none⟩) (by ((try simp only [World.size_alloc, World.size_setCell, size_drew, size_drewN]); omega))]; go_simp
    have m2 : w1.cell? ⟨w.heap.size, 2, none⟩ = some (.slice B lb cb) := by rw [hb.cell (p := ⟨w.heap.size, 2, none⟩) (by ((try simp only [World.size_alloc, World.size_setCell, size_drew, size_drewN]); omega))]; go_simp
    have m3 : w1.cell? ⟨w.heap.size, 3, none⟩ = some (.slice C lc cc) := by rw [hb.cell (p := ⟨w.heap.size, 3, none⟩) (by ((try simp only [World.size_alloc, World.size_setCell, size_drew, size_drewN]); omega))]; go_simp
    have m4 : w1.cell? ⟨w.heap.size, 4, none⟩ = some (.int .i64 r) := by rw [hb.cell (p := ⟨w.heap.size, 4, none⟩) (by ((try simp only [World.size_alloc, World.size_setCell, size_drew, size_drewN]); omega))]; go_simp
    have m5 : w1.cell? ⟨w.heap.size, 5, none⟩ = some (.int .i64 z) := by rw [hb.cell (p := ⟨w.heap.size, 5, none⟩) (by ((try simp only [World.size_alloc, World.size_setCell, size_drew, size_drewN]); omega))]; go_simp
    have m6 : w1.cell? ⟨w.heap.size, 6, none⟩ = some (.int .i64 nr) := by rw [hb.cell (p := ⟨w.heap.size, 6, none⟩) (by ((try simp only [World.size_alloc, World.size_setCell, size_drew, size_drewN]); omega))]; go_simp
    have m7 : w1.cell? ⟨w.heap.size, 7, none⟩ = some (.int .i64 nz) := by rw [hb.cell (p := ⟨w.heap.size, 7, none⟩) (by ((try simp only [World.size_alloc, World.size_setCell, size_drew, size_drewN]); omega))]; go_simp
    have m8 : w1.cell? ⟨w.heap.size, 8, none⟩ = some (.int .i64 step) := by rw [hb.cell (p := ⟨w.heap.size, 8, none⟩) (by ((try simp only [World.size_alloc, World.size_setCell, size_drew, size_drewN]); omega))]; go_simp
    have m9 : w1.cell? ⟨w.heap.size, 9, none⟩ = some (.slice D ld cd) := by rw [hb.cell (p := ⟨w.heap.size, 9, none⟩) (by ((try simp only [World.size_alloc, World.size_setCell, size_drew, size_drewN]); omega))]; go_simp
    have mt0 : w1.cell? ⟨w.heap.size + 1, 0, none⟩ = some (.int .i64 0) := by rw [hb.cell (p := ⟨w.heap.size + 1, 0, none⟩) (by ((try simp only [World.size_alloc, World.size_setCell, size_drew, size_drewN]); omega))]; go_simp
    have mt1 : w1.cell? ⟨w.heap.size + 1, 1, none⟩ = some (.int .i64 0) := by rw [hb.cell (p := ⟨w.heap.size + 1, 1, none⟩) (by ((try simp only [World.size_alloc, World.size_setCell, size_drew, size_drewN]); omega))]; go_simp
    have mf0 : w1.frozen? ⟨w.heap.size + 1, 0, none⟩ = false := by rw [hb.frozen (p := ⟨w.heap.size + 1, 0, none⟩) (by ((try simp only [World.size_alloc, World.size_setCell, size_drew, size_drewN]); omega))]; go_simp
    have mf1 : w1.frozen? ⟨w.heap.size + 1, 1, none⟩ = false := by rw [hb.frozen (p := ⟨w.heap.size + 1, 1, none⟩) (by ((try simp only [World.size_alloc, World.size_setCell, size_drew, size_drewN]); omega))]; go_simp
    have hB1 : Below w.heap.size w w1 := Below.trans (by (repeat first | with_reducible exact Below.refl _ _ | (with_reducible refine Below.alloc ?_ ?_ _; rotate_left; exact (by first | omega | (simp; done))))) (hb.mono (by ((try simp only [World.size_alloc, World.size_setCell, size_drew, size_drewN]); omega)))
    have sz1 : w.heap.size + 1 < w1.heap.size := Nat.lt_of_lt_of_le (by ((try simp only [World.size_alloc, World.size_setCell, size_drew, size_drewN]); omega)) hb.size
    have sy1 : w.heap.size < w1.heap.size := by omega
    clear hb
    go_wp2_with fail
    refine (HCS.out _).mono ?_
    rintro e w2 ⟨rfl, hb⟩
    have n0 : w2.cell? ⟨w.heap.size, 0, none⟩ = some (.string name) := by rw [hb.cell (p := ⟨w.heap.size, 0, none⟩) (by omega)]; first | assumption | go_simp
    have n1 : w2.cell? ⟨w.heap.size, 1, none⟩ = some (.slice A la ca) := by rw [hb.cell (p := ⟨w.heap.size, 1, none⟩) (by omega)]; first | assumption | go_simp
    have n2 : w2.cell? ⟨w.heap.size, 2, none⟩ = some (.slice B lb cb) := by rw [hb.cell (p := ⟨w.heap.size, 2, none⟩) (by omega)]; first | assumption | go_simp
    have n3 : w2.cell? ⟨w.heap.size, 3, none⟩ = some (.slice C lc cc) := by rw [hb.cell (p := ⟨w.heap.size, 3, none⟩) (by omega)]; first | assumption | go_simp
    have n4 : w2.cell? ⟨w.heap.size, 4, none⟩ = some (.int .i64 r) := by rw [hb.cell (p := ⟨w.heap.size, 4, none⟩) (by omega)]; first | assumption | go_simp
    have n5 : w2.cell? ⟨w.heap.size, 5, none⟩ = some (.int .i64 z) := by rw [hb.cell (p := ⟨w.heap.size, 5, none⟩) (by omega)]; first | assumption | go_simp
    have n6 : w2.cell? ⟨w.heap.size, 6, none⟩ = some (.int .i64 nr) := by rw [hb.cell (p := ⟨w.heap.size, 6, none⟩) (by omega)]; first | assumption | go_simp
    have n7 : w2.cell? ⟨w.heap.size, 7, none⟩ = some (.int .i64 nz) := by rw [hb.cell (p := ⟨w.heap.size, 7, none⟩) (by omega)]; first | assumption | go_simp
    have n8 : w2.cell? ⟨w.heap.size, 8, none⟩ = some (.int .i64 step) := by rw [hb.cell (p := ⟨w.heap.size, 8, none⟩) (by omega)]; first | assumption | go_simp
    have n9 : w2.cell? ⟨w.heap.size, 9, none⟩ = some (.slice D ld cd) := by rw [hb.cell (p := ⟨w.heap.size, 9, none⟩) (by omega)]; first | assumption | go_simp
    have nt0 : w2.cell? ⟨w.heap.size + 1, 0, none⟩ = some (.int .i64 0) := by rw [hb.cell (p := ⟨w.heap.size + 1, 0, none⟩) (by omega)]; first | assumption | go_simp
    have nt1 : w2.cell? ⟨w.heap.size + 1, 1, none⟩ = some (.int .i64 0) := by rw [hb.cell (p := ⟨w.heap.size + 1, 1, none⟩) (by omega)]; first | assumption | go_simp
    have nf0 : w2.frozen? ⟨w.heap.size + 1, 0, none⟩ = false := by rw [hb.frozen (p := ⟨w.heap.size + 1, 0, none⟩) (by omega)]; first | assumption | go_simp
    have nf1 : w2.frozen? ⟨w.heap.size + 1, 1, none⟩ = false := by rw [hb.frozen (p := ⟨w.heap.size + 1, 1, none⟩) (by omega)]; first | assumption | go_simp
    have hB2 : Below w.heap.size w w2 := Below.trans (by (repeat with_reducible assumption)) (hb.mono (by omega))
    have sz2 : w.heap.size + 1 < w2.heap.size := Nat.lt_of_lt_of_le (by assumption) hb.size
    have sy2 : w.heap.size < w2.heap.size := by omega
    clear hb
    clear m0 m1 m2 m3 m4 m5 m6 m7 m8 m9 mt0 mt1 mf0 mf1
    go_wp2_with (go_at_call 101; refine (mwithin_any _ _ _ _).mono ?_; rintro e w3 ⟨rfl, rfl⟩)
    rw [HG.out]
    exact bodyPost_ret (res3P Tryz.results64 _ _ _ _ _ _ rfl rfl (by go_simp) (by go_simp)) rfl ⟨rfl, by (repeat first | with_reducible assumption | (with_reducible refine Below.setCell ?_ ?_ _; rotate_left; exact (by (simp; done))))⟩
  · have HG : Hid (G = (X, Y, 0)) := Lib.hid (by rw [HE.out]; simp [hw])
    obtain ⟨j0, j1⟩ := wthn_iff.1 hw
    have HCP := Lib.hid (HCP.out j0 (by omega))
    clear HE
    go_enter Tryz.func64, Tryz.ntmps64
    go_wp2_with fail
    refine (H0.out _ (by (repeat first | with_reducible exact Below.refl _ _ | (with_reducible refine Below.alloc ?_ ?_ _; rotate_left; exact (by first | omega | (simp; done)))))).mono ?_
    rintro e w1 ⟨rfl, hb⟩
    have m0 : w1.cell? ⟨w.heap.size, 0, none⟩ = some (.string name) := by rw [hb.cell (p := ⟨w.heap.size, 0, none⟩) (by ((try simp only [World.size_alloc, World.size_setCell, size_drew, size_drewN]); omega))]; go_simp
    have m1 : w1.cell? ⟨w.heap.size, 1, none⟩ = some (.slice A la ca) := by rw [hb.cell (p := ⟨w.heap.size, 1, none⟩) (by ((try simp only [World.size_alloc, World.size_setCell, size_drew, size_drewN]); omega))]; go_simp
    have m2 : w1.cell? ⟨w.heap.size, 2, none⟩ = some (.slice B lb cb) := by rw [hb.cell (p := ⟨w.heap.size, 2, none⟩) (by ((try simp only [World.size_alloc, World.size_setCell, size_drew, size_drewN]); omega))]; go_simp
    have m3 : w1.cell? ⟨w.heap.size, 3, none⟩ = some (.slice C lc cc) := by rw [hb.cell (p := ⟨w.heap.size, 3, none⟩) (by ((try simp only [World.size_alloc, World.size_setCell, size_drew, size_drewN]); omega))]; go_simp
    have m4 : w1.cell? ⟨w.heap.size, 4, none⟩ = some (.int .i64 r) := by rw [hb.cell (p := ⟨w.heap.size, 4, none⟩) (by ((try simp only [World.size_alloc, World.size_setCell, size_drew, size_drewN]); omega))]; go_simp
    have m5 : w1.cell? ⟨w.heap.size, 5, none⟩ = some (.int .i64 z) := by rw [hb.cell (p := ⟨w.heap.size, 5, none⟩) (by ((try simp only [World.size_alloc, World.size_setCell, size_drew, size_drewN]); omega))]; go_simp
    have m6 : w1.cell? ⟨w.heap.size, 6, none⟩ = some (.int .i64 nr) := by rw [hb.cell (p := ⟨w.heap.size, 6, none⟩) (by ((try simp only [World.size_alloc, World.size_setCell, size_drew, size_drewN]); omega))]; go_simp
    have m7 : w1.cell? ⟨w.heap.size, 7, none⟩ = some (.int .i64 nz) := by rw [hb.cell (p := ⟨w.heap.size, 7, none⟩) (by ((try simp only [World.size_alloc, World.size_setCell, size_drew, size_drewN]); omega))]; go_simp
    have m8 : w1.cell? ⟨w.heap.size, 8, none⟩ = some (.int .i64 step) := by rw [hb.cell (p := ⟨w.heap.size, 8, none⟩) (by ((try simp only [World.size_alloc, World.size_setCell, size_drew, size_drewN]); omega))]; go_simp
    have m9 : w1.cell? ⟨w.heap.size, 9, none⟩ = some (.slice D ld cd) := by rw [hb.cell (p := ⟨w.heap.size, 9, none⟩) (by ((try simp only [World.size_alloc, World.size_setCell, size_drew, size_drewN]); omega))]; go_simp
    have mt0 : w1.cell? ⟨w.heap.size + 1, 0, none⟩ = some (.int .i64 0) := by rw [hb.cell (p := ⟨w.heap.size + 1, 0, none⟩) (by ((try simp only [World.size_alloc, World.size_setCell, size_drew, size_drewN]); omega))]; go_simp
    have mt1 : w1.cell? ⟨w.heap.size + 1, 1, none⟩ = some (.int .i64 0) := by rw [hb.cell (p := ⟨w.heap.size + 1, 1, none⟩) (by ((try simp only [World.size_alloc, World.size_setCell, size_drew, size_drewN]); omega))]; go_simp
    have mf0 : w1.frozen? ⟨w.heap.size + 1, 0, none⟩ = false := by rw [hb.frozen (p := ⟨w.heap.size + 1, 0, none⟩) (by ((try simp only [World.size_alloc, World.size_setCell, size_drew, size_drewN]); omega))]; go_simp
    have mf1 : w1.frozen? ⟨w.heap.size + 1, 1, none⟩ = false := by rw [hb.frozen (p := ⟨w.heap.size + 1, 1, none⟩) (by ((try simp only [World.size_alloc, World.size_setCell, size_drew, size_drewN]); omega))]; go_simp
    have hB1 : Below w.heap.size w w1 := Below.trans (by (repeat first | with_reducible exact Below.refl _ _ | (with_reducible refine Below.alloc ?_ ?_ _; rotate_left; exact (by first | omega | (simp; done))))) (hb.mono (by ((try simp only [World.size_alloc, World.size_setCell, size_drew, size_drewN]); omega)))
    have sz1 : w.heap.size + 1 < w1.heap.size := Nat.lt_of_lt_of_le (by ((try simp only [World.size_alloc, World.size_setCell, size_drew, size_drewN]); omega)) hb.size
    have sy1 : w.heap.size < w1.heap.size := by omega
    clear hb
    go_wp2_with fail
    refine (HCS.out _).mono ?_
    rintro e w2 ⟨rfl, hb⟩
    have n0 : w2.cell? ⟨w.heap.size, 0, none⟩ = some (.string name) := by rw [hb.cell (p := ⟨w.heap.size, 0, none⟩) (by omega)]; first | assumption | go_simp
    have n1 : w2.cell? ⟨w.heap.size, 1, none⟩ = some (.slice A la ca) := by rw [hb.cell (p := ⟨w.heap.size, 1, none⟩) (by omega)]; first | assumption | go_simp
    have n2 : w2.cell? ⟨w.heap.size, 2, none⟩ = some (.slice B lb cb) := by rw [hb.cell (p := ⟨w.heap.size, 2, none⟩) (by omega)]; first | assumption | go_simp
    have n3 : w2.cell? ⟨w.heap.size, 3, none⟩ = some (.slice C lc cc) := by rw [hb.cell (p := ⟨w.heap.size, 3, none⟩) (by omega)]; first | assumption | go_simp
    have n4 : w2.cell? ⟨w.heap.size, 4, none⟩ = some (.int .i64 r) := by rw [hb.cell (p := ⟨w.heap.size, 4, none⟩) (by omega)]; first | assumption | go_simp
    have n5 : w2.cell? ⟨w.heap.size, 5, none⟩ = some (.int .i64 z) := by rw [hb.cell (p := ⟨w.heap.size, 5, none⟩) (by omega)]; first | assumption | go_simp
    have n6 : w2.cell? ⟨w.heap.size, 6, none⟩ = some (.int .i64 nr) := by rw [hb.cell (p := ⟨w.heap.size, 6, none⟩) (by omega)]; first | assumption | go_simp
    have n7 : w2.cell? ⟨w.heap.size, 7, none⟩ = some (.int .i64 nz) := by rw [hb.cell (p := ⟨w.heap.size, 7, none⟩) (by omega)]; first | assumption | go_simp
    have n8 : w2.cell? ⟨w.heap.size, 8, none⟩ = some (.int .i64 step) := by rw [hb.cell (p := ⟨w.heap.size, 8, none⟩) (by omega)]; first | assumption | go_simp
    have n9 : w2.cell? ⟨w.heap.size, 9, none⟩ = some (.slice D ld cd) := by rw [hb.cell (p := ⟨w.heap.size, 9, none⟩) (by omega)]; first | assumption | go_simp
    have nt0 : w2.cell? ⟨w.heap.size + 1, 0, none⟩ = some (.int .i64 0) := by rw [hb.cell (p := ⟨w.heap.size + 1, 0, none⟩) (by omega)]; first | assumption | go_simp
    have nt1 : w2.cell? ⟨w.heap.size + 1, 1, none⟩ = some (.int .i64 0) := by rw [hb.cell (p := ⟨w.heap.size + 1, 1, none⟩) (by omega)]; first | assumption | go_simp
    have nf0 : w2.frozen? ⟨w.heap.size + 1, 0, none⟩ = false := by rw [hb.frozen (p := ⟨w.heap.size + 1, 0, none⟩) (by omega)]; first | assumption | go_simp
    have nf1 : w2.frozen? ⟨w.heap.size + 1, 1, none⟩ = false := by rw [hb.frozen (p := ⟨w.heap.size + 1, 1, none⟩) (by omega)]; first | assumption | go_simp
    have hB2 : Below w.heap.size w w2 := Below.trans (by (repeat with_reducible assumption)) (hb.mono (by omega))
    have sz2 : w.heap.size + 1 < w2.heap.size := Nat.lt_of_lt_of_le (by assumption) hb.size
    have sy2 : w.heap.size < w2.heap.size := by omega
    clear hb
    clear m0 m1 m2 m3 m4 m5 m6 m7 m8 m9 mt0 mt1 mf0 mf1
    go_wp2_with (go_at_call 101; refine (mwithin_any _ _ _ _).mono ?_; rintro e w3 ⟨rfl, rfl⟩)
    refine (HCP.out _).mono ?_
    rintro e w3 ⟨rfl, hb⟩
    have o0 : w3.cell? ⟨w.heap.size, 0, none⟩ = some (.string name) := by rw [hb.cell (p := ⟨w.heap.size, 0, none⟩) (by omega)]; first | assumption | go_simp
    have o1 : w3.cell? ⟨w.heap.size, 1, none⟩ = some (.slice A la ca) := by rw [hb.cell (p := ⟨w.heap.size, 1, none⟩) (by omega)]; first | assumption | go_simp
    have o2 : w3.cell? ⟨w.heap.size, 2, none⟩ = some (.slice B lb cb) := by rw [hb.cell (p := ⟨w.heap.size, 2, none⟩) (by omega)]; first | assumption | go_simp
    have o3 : w3.cell? ⟨w.heap.size, 3, none⟩ = some (.slice C lc cc) := by rw [hb.cell (p := ⟨w.heap.size, 3, none⟩) (by omega)]; first | assumption | go_simp
    have o4 : w3.cell? ⟨w.heap.size, 4, none⟩ = some (.int .i64 r) := by rw [hb.cell (p := ⟨w.heap.size, 4, none⟩) (by omega)]; first | assumption | go_simp
    have o5 : w3.cell? ⟨w.heap.size, 5, none⟩ = some (.int .i64 z) := by rw [hb.cell (p := ⟨w.heap.size, 5, none⟩) (by omega)]; first | assumption | go_simp
    have o6 : w3.cell? ⟨w.heap.size, 6, none⟩ = some (.int .i64 nr) := by rw [hb.cell (p := ⟨w.heap.size, 6, none⟩) (by omega)]; first | assumption | go_simp
    have o7 : w3.cell? ⟨w.heap.size, 7, none⟩ = some (.int .i64 nz) := by rw [hb.cell (p := ⟨w.heap.size, 7, none⟩) (by omega)]; first | assumption | go_simp
    have o8 : w3.cell? ⟨w.heap.size, 8, none⟩ = some (.int .i64 step) := by rw [hb.cell (p := ⟨w.heap.size, 8, none⟩) (by omega)]; first | assumption | go_simp
    have o9 : w3.cell? ⟨w.heap.size, 9, none⟩ = some (.slice D ld cd) := by rw [hb.cell (p := ⟨w.heap.size, 9, none⟩) (by omega)]; first | assumption | go_simp
    have ot0 : w3.cell? ⟨w.heap.size + 1, 0, none⟩ = some (.int .i64 0) := by rw [hb.cell (p := ⟨w.heap.size + 1, 0, none⟩) (by omega)]; first | assumption | go_simp
    have ot1 : w3.cell? ⟨w.heap.size + 1, 1, none⟩ = some (.int .i64 0) := by rw [hb.cell (p := ⟨w.heap.size + 1, 1, none⟩) (by omega)]; first | assumption | go_simp
    have of0 : w3.frozen? ⟨w.heap.size + 1, 0, none⟩ = false := by rw [hb.frozen (p := ⟨w.heap.size + 1, 0, none⟩) (by omega)]; first | assumption | go_simp
    have of1 : w3.frozen? ⟨w.heap.size + 1, 1, none⟩ = false := by rw [hb.frozen (p := ⟨w.heap.size + 1, 1, none⟩) (by omega)]; first | assumption | go_simp
    have hB3 : Below w.heap.size w w3 := Below.trans (by (repeat with_reducible assumption)) (hb.mono (by omega))
    have sz3 : w.heap.size + 1 < w3.heap.size := Nat.lt_of_lt_of_le (by assumption) hb.size
    have sy3 : w.heap.size < w3.heap.size := by omega
    clear hb
    clear n0 n1 n2 n3 n4 n5 n6 n7 n8 n9 nt0 nt1 nf0 nf1
    go_wp2_with fail
    rw [HG.out]
    exact bodyPost_ret (res3P Tryz.results64 _ _ _ _ _ _ rfl rfl (by go_simp) (by go_simp)) rfl ⟨rfl, by (repeat first | with_reducible assumption | (with_reducible refine Below.setCell ?_ ?_ _; rotate_left; exact (by (simp; done))))⟩
end
end Go.Proofs.YtapldonpflgnfaaGreatDoor
