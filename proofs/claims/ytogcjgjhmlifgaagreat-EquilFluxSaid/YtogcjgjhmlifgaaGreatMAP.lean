import Derived.Test.YtogcjgjhmlifgaaGreatMAE
import Derived.Test.YtogcjgjhmlifgaaGreatMAO
namespace Go.Proofs.YtogcjgjhmlifgaaGreat
set_option linter.unusedVariables false
set_option linter.unusedSimpArgs false
section
open Go.RowKit Go.Shelf
theorem orL_zeroes {l : List Int} (h : orL l = 0) : ∀ x ∈ l, x = 0 := by
  induction l with
  | nil => intro x hx; cases hx
  | cons y r ih =>
    intro x hx
    unfold orL at h
    by_cases hy : y = 0
    · rw [if_pos hy] at h
      rcases List.mem_cons.1 hx with rfl | hx
      · exact hy
      · exact ih h x hx
    · rw [if_neg hy] at h; exact absurd h hy
theorem check_fine {M : MachD} (h : checkC M = 0) : M.grid.Fine := by
  have h5 := orL_zeroes h (gridC M.grid) (by simp)
  unfold gridC at h5
  by_cases a : (wthn M.grid.nr 1 8 && (wthn M.grid.nz 1 8 && wthn M.grid.step 1 10)) = true
  · rw [if_pos a] at h5
    by_cases b : nearB M.grid.r M.grid.z 60 = true
    · exact fine_of a b
    · rw [if_neg b] at h5; simp at h5
  · rw [if_neg a] at h5; simp at h5
theorem fine_cells {g : GridD} (h : g.Fine) : 1 ≤ g.nr * g.nz ∧ g.nr * g.nz ≤ 64 := by
  obtain ⟨r0, r1, z0, z1, n0, n1, k0, k1, s0, s1⟩ := h
  have h1 := Int.mul_le_mul n0 k0 (by omega) (by omega)
  have h2 := Int.mul_le_mul n1 k1 (by omega) (by omega)
  omega
def cellsC (M : MachD) : Int := if checkC M = 0 then M.grid.nr * M.grid.nz else 0
def cellL (M : MachD) (i : Int) : Int × Int × Int :=
  if checkC M = 0 then if wthn i 0 (M.grid.nr * M.grid.nz - 1) = true then (cellR M.grid i, cellZ M.grid i, 0) else (0, 0, 7) else (0, 0, 1)
set_option maxRecDepth 100000 in
set_option maxHeartbeats 4000000 in
theorem rcells2_any (R : MachR) (M : MachD) (w : World) (hM : IsM w R M) :
    Calls Tryz.prog 68 #[.agg (machCells R M)] w (Ret (.int .i64 (cellsC M)) w) := by
  have HE : Hid (cellsC M = if checkC M = 0 then M.grid.nr * M.grid.nz else 0) := Lib.hid rfl
  have HF := Lib.hid (fun h : checkC M = 0 => fine_cells (check_fine h))
  have H0 := Lib.hid (fun W (hb : Below w.heap.size w W) => rcheck_any R M W (hM.below hb))
  generalize cellsC M = G at *
  generalize checkC M = c at *
  clear hM
  obtain ⟨A, B, C, D, la, ca, lb, cb, lc, cc, ld, cd⟩ := R
  obtain ⟨name, coils, shells, limits, ⟨r, z, nr, nz, step⟩, sensors⟩ := M
  dsimp only at *
  have H0 := Lib.hid (show ∀ W, Below w.heap.size w W → Calls Tryz.prog 67 #[.agg #[.string name, .slice A la ca, .slice B lb cb, .slice C lc cc, .int .i64 r, .int .i64 z, .int .i64 nr, .int .i64 nz, .int .i64 step, .slice D ld cd]] W (Ret (.int .i64 c) W) from H0.out)
  show Calls Tryz.prog 68 #[.agg #[.string name, .slice A la ca, .slice B lb cb, .slice C lc cc, .int .i64 r, .int .i64 z, .int .i64 nr, .int .i64 nz, .int .i64 step, .slice D ld cd]] w _
  by_cases hc : c = 0
  · have HG : Hid (nr * nz = G) := Lib.hid (by rw [HE.out, if_pos hc])
    obtain ⟨b0, b1⟩ := HF.out hc
    subst hc
    have e5 : IntKind.i64.wrap (nr * nz) = nr * nz := IntWalk.i64_in _ (by omega)
    generalize hP : nr * nz = P at *
    clear HE HF
    go_enter Tryz.func68, Tryz.ntmps68
    go_wp2_with fail
    refine (H0.out _ (by (repeat first | with_reducible exact Below.refl _ _ | (with_reducible refine Below.alloc ?_ ?_ _; rotate_left; exact (by omega))))).mono ?_
    rintro e w1 ⟨rfl, hb⟩
    have q6 : w1.cell? ⟨w.heap.size, 6, none⟩ = some (.int .i64 nr) := by rw [hb.cell (p := ⟨w.heap.size, 6, none⟩) (by simp)]; go_simp
    have q7 : w1.cell? ⟨w.heap.size, 7, none⟩ = some (.int .i64 nz) := by rw [hb.cell (p := ⟨w.heap.size, 7, none⟩) (by simp)]; go_simp
    have hB1 : Below w.heap.size w w1 := Below.trans (by (repeat first | with_reducible exact Below.refl _ _ | (with_reducible refine Below.alloc ?_ ?_ _; rotate_left; exact (by omega)))) (hb.mono (by ((try simp only [World.size_alloc, World.size_setCell, size_drew, size_drewN]); omega)))
    clear hb
    go_wp2_with fail
    go_ret
    exact ⟨by rw [← HG.out]; rfl, by (repeat with_reducible assumption)⟩
  · have HG : Hid ((0 : Int) = G) := Lib.hid (by rw [HE.out, if_neg hc])
    have hcb : (c != 0) = true := by rw [bne_iff_ne]; exact hc
    clear HE HF hc
    go_enter Tryz.func68, Tryz.ntmps68
    go_wp2_with fail
    refine (H0.out _ (by (repeat first | with_reducible exact Below.refl _ _ | (with_reducible refine Below.alloc ?_ ?_ _; rotate_left; exact (by omega))))).mono ?_
    rintro e w1 ⟨rfl, hb⟩
    have hB1 : Below w.heap.size w w1 := Below.trans (by (repeat first | with_reducible exact Below.refl _ _ | (with_reducible refine Below.alloc ?_ ?_ _; rotate_left; exact (by omega)))) (hb.mono (by ((try simp only [World.size_alloc, World.size_setCell, size_drew, size_drewN]); omega)))
    clear hb
    go_wp2_with fail
    go_ret
    exact ⟨by rw [← HG.out]; rfl, by (repeat with_reducible assumption)⟩
end
end Go.Proofs.YtogcjgjhmlifgaaGreat
