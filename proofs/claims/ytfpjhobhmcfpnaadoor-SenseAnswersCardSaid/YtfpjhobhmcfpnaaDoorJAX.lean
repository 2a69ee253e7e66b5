import Derived.Test.YtfpjhobhmcfpnaaDoorJAQ
import Derived.Test.YtfpjhobhmcfpnaaDoorJAU
import Derived.Test.YtfpjhobhmcfpnaaDoorJAW
section
/- The specification of layer 2: Exact, whole, over this seat's translation (written by mk_exb.py). -/
namespace Go.Proofs.YtfpjhobhmcfpnaaDoor
set_option linter.unusedVariables false
set_option linter.unusedSimpArgs false
open Go.RowKit Go.Shelf

set_option maxRecDepth 100000 in
set_option maxHeartbeats 8000000 in
theorem rexact_any (R : MachR) (M : MachD) (Qr : CurR) (Cd : CurD) (i : Int) (w : World) (hM : IsM w R M) (hC : IsC w Qr Cd) :
    Calls Tryd.prog 28 #[.agg (machCells R M), Qr.v, .int .i64 i] w (Ret (.tuple #[.int .i64 (exactL M Cd i).1, .int .i64 (exactL M Cd i).2]) w) := by
  have hl := hM.sensors.1
  have hkd := hM.kd
  have HV := Lib.hid (fun W (hb : Below w.heap.size w W) => rvalid2_any R M Qr Cd W (hM.below hb) (hC.below hb))
  unfold exactL
  cases hv : validC M Cd
  · rw [hv] at HV
    rw [if_neg (by decide)]
    clear hM hC hv hl
    obtain ⟨A, B, Cl, D, la, ca, lb, cb, lc, cl, ld, cd⟩ := R
    obtain ⟨name, coils, shells, limits, ⟨r, z, nr, nz, step⟩, sensors⟩ := M
    obtain ⟨A1, B1, C1, na, qa, nb, qb, nc, qc⟩ := Qr
    dsimp only [machCells, CurR.v] at *
    show Calls Tryd.prog 28 #[.agg #[.string name, .slice A la ca, .slice B lb cb, .slice Cl lc cl, .int .i64 r, .int .i64 z, .int .i64 nr, .int .i64 nz, .int .i64 step, .slice D ld cd], .agg #[.slice A1 na qa, .slice B1 nb qb, .slice C1 nc qc], .int .i64 i] w _
    go_enter Tryd.func28, Tryd.ntmps28
    go_upto_region 1 with (fail)
    have m0 : (((w.alloc (.cells #[.string name, .slice A la ca, .slice B lb cb, .slice Cl lc cl, .int .i64 r, .int .i64 z, .int .i64 nr, .int .i64 nz, .int .i64 step, .slice D ld cd] 29)).alloc (.cells #[.slice A1 na qa, .slice B1 nb qb, .slice C1 nc qc] 32))).cell? ⟨w.heap.size, 0, none⟩ = some (.string name) := by go_simp
    have m1 : (((w.alloc (.cells #[.string name, .slice A la ca, .slice B lb cb, .slice Cl lc cl, .int .i64 r, .int .i64 z, .int .i64 nr, .int .i64 nz, .int .i64 step, .slice D ld cd] 29)).alloc (.cells #[.slice A1 na qa, .slice B1 nb qb, .slice C1 nc qc] 32))).cell? ⟨w.heap.size, 1, none⟩ = some (.slice A la ca) := by go_simp
    have m2 : (((w.alloc (.cells #[.string name, .slice A la ca, .slice B lb cb, .slice Cl lc cl, .int .i64 r, .int .i64 z, .int .i64 nr, .int .i64 nz, .int .i64 step, .slice D ld cd] 29)).alloc (.cells #[.slice A1 na qa, .slice B1 nb qb, .slice C1 nc qc] 32))).cell? ⟨w.heap.size, 2, none⟩ = some (.slice B lb cb) := by go_simp
    have m3 : (((w.alloc (.cells #[.string name, .slice A la ca, .slice B lb cb, .slice Cl lc cl, .int .i64 r, .int .i64 z, .int .i64 nr, .int .i64 nz, .int .i64 step, .slice D ld cd] 29)).alloc (.cells #[.slice A1 na qa, .slice B1 nb qb, .slice C1 nc qc] 32))).cell? ⟨w.heap.size, 3, none⟩ = some (.slice Cl lc cl) := by go_simp
    have m4 : (((w.alloc (.cells #[.string name, .slice A la ca, .slice B lb cb, .slice Cl lc cl, .int .i64 r, .int .i64 z, .int .i64 nr, .int .i64 nz, .int .i64 step, .slice D ld cd] 29)).alloc (.cells #[.slice A1 na qa, .slice B1 nb qb, .slice C1 nc qc] 32))).cell? ⟨w.heap.size, 4, none⟩ = some (.int .i64 r) := by go_simp
    have m5 : (((w.alloc (.cells #[.string name, .slice A la ca, .slice B lb cb, .slice Cl lc cl, .int .i64 r, .int .i64 z, .int .i64 nr, .int .i64 nz, .int .i64 step, .slice D ld cd] 29)).alloc (.cells #[.slice A1 na qa, .slice B1 nb qb, .slice C1 nc qc] 32))).cell? ⟨w.heap.size, 5, none⟩ = some (.int .i64 z) := by go_simp
    have m6 : (((w.alloc (.cells #[.string name, .slice A la ca, .slice B lb cb, .slice Cl lc cl, .int .i64 r, .int .i64 z, .int .i64 nr, .int .i64 nz, .int .i64 step, .slice D ld cd] 29)).alloc (.cells #[.slice A1 na qa, .slice B1 nb qb, .slice C1 nc qc] 32))).cell? ⟨w.heap.size, 6, none⟩ = some (.int .i64 nr) := by go_simp
    have m7 : (((w.alloc (.cells #[.string name, .slice A la ca, .slice B lb cb, .slice Cl lc cl, .int .i64 r, .int .i64 z, .int .i64 nr, .int .i64 nz, .int .i64 step, .slice D ld cd] 29)).alloc (.cells #[.slice A1 na qa, .slice B1 nb qb, .slice C1 nc qc] 32))).cell? ⟨w.heap.size, 7, none⟩ = some (.int .i64 nz) := by go_simp
    have m8 : (((w.alloc (.cells #[.string name, .slice A la ca, .slice B lb cb, .slice Cl lc cl, .int .i64 r, .int .i64 z, .int .i64 nr, .int .i64 nz, .int .i64 step, .slice D ld cd] 29)).alloc (.cells #[.slice A1 na qa, .slice B1 nb qb, .slice C1 nc qc] 32))).cell? ⟨w.heap.size, 8, none⟩ = some (.int .i64 step) := by go_simp
    have m9 : (((w.alloc (.cells #[.string name, .slice A la ca, .slice B lb cb, .slice Cl lc cl, .int .i64 r, .int .i64 z, .int .i64 nr, .int .i64 nz, .int .i64 step, .slice D ld cd] 29)).alloc (.cells #[.slice A1 na qa, .slice B1 nb qb, .slice C1 nc qc] 32))).cell? ⟨w.heap.size, 9, none⟩ = some (.slice D ld cd) := by go_simp
    have q0 : (((w.alloc (.cells #[.string name, .slice A la ca, .slice B lb cb, .slice Cl lc cl, .int .i64 r, .int .i64 z, .int .i64 nr, .int .i64 nz, .int .i64 step, .slice D ld cd] 29)).alloc (.cells #[.slice A1 na qa, .slice B1 nb qb, .slice C1 nc qc] 32))).cell? ⟨w.heap.size + 1, 0, none⟩ = some (.slice A1 na qa) := by go_simp
    have q1 : (((w.alloc (.cells #[.string name, .slice A la ca, .slice B lb cb, .slice Cl lc cl, .int .i64 r, .int .i64 z, .int .i64 nr, .int .i64 nz, .int .i64 step, .slice D ld cd] 29)).alloc (.cells #[.slice A1 na qa, .slice B1 nb qb, .slice C1 nc qc] 32))).cell? ⟨w.heap.size + 1, 1, none⟩ = some (.slice B1 nb qb) := by go_simp
    have q2 : (((w.alloc (.cells #[.string name, .slice A la ca, .slice B lb cb, .slice Cl lc cl, .int .i64 r, .int .i64 z, .int .i64 nr, .int .i64 nz, .int .i64 step, .slice D ld cd] 29)).alloc (.cells #[.slice A1 na qa, .slice B1 nb qb, .slice C1 nc qc] 32))).cell? ⟨w.heap.size + 1, 2, none⟩ = some (.slice C1 nc qc) := by go_simp
    have hB0 : Below w.heap.size w (((w.alloc (.cells #[.string name, .slice A la ca, .slice B lb cb, .slice Cl lc cl, .int .i64 r, .int .i64 z, .int .i64 nr, .int .i64 nz, .int .i64 step, .slice D ld cd] 29)).alloc (.cells #[.slice A1 na qa, .slice B1 nb qb, .slice C1 nc qc] 32))) := by (with_reducible repeat first | exact Below.refl _ _ | assumption | ((first | refine Below.setCell ?_ ?_ _ | refine Below.alloc ?_ ?_ _); rotate_left; exact (by first | omega | (simp; done) | (simp; omega))) | refine Below.drew ?_ | refine Below_drewN ?_ _)
    have hz : w.heap.size + 1 < (((w.alloc (.cells #[.string name, .slice A la ca, .slice B lb cb, .slice Cl lc cl, .int .i64 r, .int .i64 z, .int .i64 nr, .int .i64 nz, .int .i64 step, .slice D ld cd] 29)).alloc (.cells #[.slice A1 na qa, .slice B1 nb qb, .slice C1 nc qc] 32))).heap.size := by simp
    obtain ⟨W0, hW0⟩ : ∃ W, ((w.alloc (.cells #[.string name, .slice A la ca, .slice B lb cb, .slice Cl lc cl, .int .i64 r, .int .i64 z, .int .i64 nr, .int .i64 nz, .int .i64 step, .slice D ld cd] 29)).alloc (.cells #[.slice A1 na qa, .slice B1 nb qb, .slice C1 nc qc] 32)) = W := ⟨_, rfl⟩
    rw [hW0] at m0 m1 m2 m3 m4 m5 m6 m7 m8 m9 q0 q1 q2 hB0 hz ⊢
    clear hW0
    have FM := Lib.hid (BoxL.mk10 (W := W0) (by omega) m0 m1 m2 m3 m4 m5 m6 m7 m8 m9)
    have FC := Lib.hid (BoxL.mk3 (W := W0) hz q0 q1 q2)
    clear m0 m1 m2 m3 m4 m5 m6 m7 m8 m9 q0 q1 q2
    have HB : Hid (∀ w' : World, Below W0.heap.size W0 w' → Below w.heap.size w w') := Lib.hid (fun w' h => hB0.trans (h.mono (by omega)))
    have m0 := (FM.out.below (Below.refl _ _)).at 0 (.string name) rfl
    have m1 := (FM.out.below (Below.refl _ _)).at 1 (.slice A la ca) rfl
    have m2 := (FM.out.below (Below.refl _ _)).at 2 (.slice B lb cb) rfl
    have m3 := (FM.out.below (Below.refl _ _)).at 3 (.slice Cl lc cl) rfl
    have m4 := (FM.out.below (Below.refl _ _)).at 4 (.int .i64 r) rfl
    have m5 := (FM.out.below (Below.refl _ _)).at 5 (.int .i64 z) rfl
    have m6 := (FM.out.below (Below.refl _ _)).at 6 (.int .i64 nr) rfl
    have m7 := (FM.out.below (Below.refl _ _)).at 7 (.int .i64 nz) rfl
    have m8 := (FM.out.below (Below.refl _ _)).at 8 (.int .i64 step) rfl
    have m9 := (FM.out.below (Below.refl _ _)).at 9 (.slice D ld cd) rfl
    have q0 := (FC.out.below (Below.refl _ _)).at 0 (.slice A1 na qa) rfl
    have q1 := (FC.out.below (Below.refl _ _)).at 1 (.slice B1 nb qb) rfl
    have q2 := (FC.out.below (Below.refl _ _)).at 2 (.slice C1 nc qc) rfl
    go_wp2_with fail
    refine (HV.out _ (HB.out _ (by (repeat first | with_reducible exact Below.refl _ _ | with_reducible assumption | with_reducible exact (‹Below _ _ _ ∧ _›).1 | (with_reducible refine Below.alloc ?_ ?_ _; rotate_left; exact (by first | omega | (simp; done) | (simp; omega))) | with_reducible refine Below.drew ?_)))).mono ?_
    rintro e w1 ⟨rfl, hb⟩
    have hB1 : Below W0.heap.size W0 w1 := Below.trans (by (repeat first | with_reducible exact Below.refl _ _ | with_reducible assumption | with_reducible exact (‹Below _ _ _ ∧ _›).1 | (with_reducible refine Below.alloc ?_ ?_ _; rotate_left; exact (by first | omega | (simp; done) | (simp; omega))) | with_reducible refine Below.drew ?_)) (hb.mono (by (try simp only [World.size_alloc, World.size_setCell, size_drew]); omega))
    clear hb m0 m1 m2 m3 m4 m5 m6 m7 m8 m9 q0 q1 q2
    have sz1 := hB1.size
    have m0 := (FM.out.below hB1).at 0 (.string name) rfl
    have m1 := (FM.out.below hB1).at 1 (.slice A la ca) rfl
    have m2 := (FM.out.below hB1).at 2 (.slice B lb cb) rfl
    have m3 := (FM.out.below hB1).at 3 (.slice Cl lc cl) rfl
    have m4 := (FM.out.below hB1).at 4 (.int .i64 r) rfl
    have m5 := (FM.out.below hB1).at 5 (.int .i64 z) rfl
    have m6 := (FM.out.below hB1).at 6 (.int .i64 nr) rfl
    have m7 := (FM.out.below hB1).at 7 (.int .i64 nz) rfl
    have m8 := (FM.out.below hB1).at 8 (.int .i64 step) rfl
    have m9 := (FM.out.below hB1).at 9 (.slice D ld cd) rfl
    have q0 := (FC.out.below hB1).at 0 (.slice A1 na qa) rfl
    have q1 := (FC.out.below hB1).at 1 (.slice B1 nb qb) rfl
    have q2 := (FC.out.below hB1).at 2 (.slice C1 nc qc) rfl
    go_wp2_with fail
    go_ret2
    exact ⟨rfl, HB.out _ (by (repeat first | with_reducible exact Below.refl _ _ | with_reducible assumption | with_reducible exact (‹Below _ _ _ ∧ _›).1 | (with_reducible refine Below.alloc ?_ ?_ _; rotate_left; exact (by first | omega | (simp; done) | (simp; omega))) | with_reducible refine Below.drew ?_))⟩
  rw [if_pos rfl]
  cases hw : wthn i 0 ((M.sensors.length : Int) - 1)
  · rw [hv] at HV
    rw [if_neg (by decide)]
    rw [hl] at hw
    have HW := Lib.hid (fun U => rwithin2_any i 0 ((R.ld : Int) - 1) U)
    rw [hw] at HW
    have v0 : IntKind.i64.wrap ((R.ld : Int) - 1) = (R.ld : Int) - 1 := IntWalk.i64_in _ (by omega)
    clear hw
    clear hM hC hv hl
    obtain ⟨A, B, Cl, D, la, ca, lb, cb, lc, cl, ld, cd⟩ := R
    obtain ⟨name, coils, shells, limits, ⟨r, z, nr, nz, step⟩, sensors⟩ := M
    obtain ⟨A1, B1, C1, na, qa, nb, qb, nc, qc⟩ := Qr
    dsimp only [machCells, CurR.v] at *
    show Calls Tryd.prog 28 #[.agg #[.string name, .slice A la ca, .slice B lb cb, .slice Cl lc cl, .int .i64 r, .int .i64 z, .int .i64 nr, .int .i64 nz, .int .i64 step, .slice D ld cd], .agg #[.slice A1 na qa, .slice B1 nb qb, .slice C1 nc qc], .int .i64 i] w _
    go_enter Tryd.func28, Tryd.ntmps28
    go_upto_region 1 with (fail)
    have m0 : (((w.alloc (.cells #[.string name, .slice A la ca, .slice B lb cb, .slice Cl lc cl, .int .i64 r, .int .i64 z, .int .i64 nr, .int .i64 nz, .int .i64 step, .slice D ld cd] 29)).alloc (.cells #[.slice A1 na qa, .slice B1 nb qb, .slice C1 nc qc] 32))).cell? ⟨w.heap.size, 0, none⟩ = some (.string name) := by go_simp
    have m1 : (((w.alloc (.cells #[.string name, .slice A la ca, .slice B lb cb, .slice Cl lc cl, .int .i64 r, .int .i64 z, .int .i64 nr, .int .i64 nz, .int .i64 step, .slice D ld cd] 29)).alloc (.cells #[.slice A1 na qa, .slice B1 nb qb, .slice C1 nc qc] 32))).cell? ⟨w.heap.size, 1, none⟩ = some (.slice A la ca) := by go_simp
    have m2 : (((w.alloc (.cells #[.string name, .slice A la ca, .slice B lb cb, .slice Cl lc cl, .int .i64 r, .int .i64 z, .int .i64 nr, .int .i64 nz, .int .i64 step, .slice D ld cd] 29)).alloc (.cells #[.slice A1 na qa, .slice B1 nb qb, .slice C1 nc qc] 32))).cell? ⟨w.heap.size, 2, none⟩ = some (.slice B lb cb) := by go_simp
    have m3 : (((w.alloc (.cells #[.string name, .slice A la ca, .slice B lb cb, .slice Cl lc cl, .int .i64 r, .int .i64 z, .int .i64 nr, .int .i64 nz, .int .i64 step, .slice D ld cd] 29)).alloc (.cells #[.slice A1 na qa, .slice B1 nb qb, .slice C1 nc qc] 32))).cell? ⟨w.heap.size, 3, none⟩ = some (.slice Cl lc cl) := by go_simp
    have m4 : (((w.alloc (.cells #[.string name, .slice A la ca, .slice B lb cb, .slice Cl lc cl, .int .i64 r, .int .i64 z, .int .i64 nr, .int .i64 nz, .int .i64 step, .slice D ld cd] 29)).alloc (.cells #[.slice A1 na qa, .slice B1 nb qb, .slice C1 nc qc] 32))).cell? ⟨w.heap.size, 4, none⟩ = some (.int .i64 r) := by go_simp
    have m5 : (((w.alloc (.cells #[.string name, .slice A la ca, .slice B lb cb, .slice Cl lc cl, .int .i64 r, .int .i64 z, .int .i64 nr, .int .i64 nz, .int .i64 step, .slice D ld cd] 29)).alloc (.cells #[.slice A1 na qa, .slice B1 nb qb, .slice C1 nc qc] 32))).cell? ⟨w.heap.size, 5, none⟩ = some (.int .i64 z) := by go_simp
    have m6 : (((w.alloc (.cells #[.string name, .slice A la ca, .slice B lb cb, .slice Cl lc cl, .int .i64 r, .int .i64 z, .int .i64 nr, .int .i64 nz, .int .i64 step, .slice D ld cd] 29)).alloc (.cells #[.slice A1 na qa, .slice B1 nb qb, .slice C1 nc qc] 32))).cell? ⟨w.heap.size, 6, none⟩ = some (.int .i64 nr) := by go_simp
    have m7 : (((w.alloc (.cells #[.string name, .slice A la ca, .slice B lb cb, .slice Cl lc cl, .int .i64 r, .int .i64 z, .int .i64 nr, .int .i64 nz, .int .i64 step, .slice D ld cd] 29)).alloc (.cells #[.slice A1 na qa, .slice B1 nb qb, .slice C1 nc qc] 32))).cell? ⟨w.heap.size, 7, none⟩ = some (.int .i64 nz) := by go_simp
    have m8 : (((w.alloc (.cells #[.string name, .slice A la ca, .slice B lb cb, .slice Cl lc cl, .int .i64 r, .int .i64 z, .int .i64 nr, .int .i64 nz, .int .i64 step, .slice D ld cd] 29)).alloc (.cells #[.slice A1 na qa, .slice B1 nb qb, .slice C1 nc qc] 32))).cell? ⟨w.heap.size, 8, none⟩ = some (.int .i64 step) := by go_simp
    have m9 : (((w.alloc (.cells #[.string name, .slice A la ca, .slice B lb cb, .slice Cl lc cl, .int .i64 r, .int .i64 z, .int .i64 nr, .int .i64 nz, .int .i64 step, .slice D ld cd] 29)).alloc (.cells #[.slice A1 na qa, .slice B1 nb qb, .slice C1 nc qc] 32))).cell? ⟨w.heap.size, 9, none⟩ = some (.slice D ld cd) := by go_simp
    have q0 : (((w.alloc (.cells #[.string name, .slice A la ca, .slice B lb cb, .slice Cl lc cl, .int .i64 r, .int .i64 z, .int .i64 nr, .int .i64 nz, .int .i64 step, .slice D ld cd] 29)).alloc (.cells #[.slice A1 na qa, .slice B1 nb qb, .slice C1 nc qc] 32))).cell? ⟨w.heap.size + 1, 0, none⟩ = some (.slice A1 na qa) := by go_simp
    have q1 : (((w.alloc (.cells #[.string name, .slice A la ca, .slice B lb cb, .slice Cl lc cl, .int .i64 r, .int .i64 z, .int .i64 nr, .int .i64 nz, .int .i64 step, .slice D ld cd] 29)).alloc (.cells #[.slice A1 na qa, .slice B1 nb qb, .slice C1 nc qc] 32))).cell? ⟨w.heap.size + 1, 1, none⟩ = some (.slice B1 nb qb) := by go_simp
    have q2 : (((w.alloc (.cells #[.string name, .slice A la ca, .slice B lb cb, .slice Cl lc cl, .int .i64 r, .int .i64 z, .int .i64 nr, .int .i64 nz, .int .i64 step, .slice D ld cd] 29)).alloc (.cells #[.slice A1 na qa, .slice B1 nb qb, .slice C1 nc qc] 32))).cell? ⟨w.heap.size + 1, 2, none⟩ = some (.slice C1 nc qc) := by go_simp
    have hB0 : Below w.heap.size w (((w.alloc (.cells #[.string name, .slice A la ca, .slice B lb cb, .slice Cl lc cl, .int .i64 r, .int .i64 z, .int .i64 nr, .int .i64 nz, .int .i64 step, .slice D ld cd] 29)).alloc (.cells #[.slice A1 na qa, .slice B1 nb qb, .slice C1 nc qc] 32))) := by (with_reducible repeat first | exact Below.refl _ _ | assumption | ((first | refine Below.setCell ?_ ?_ _ | refine Below.alloc ?_ ?_ _); rotate_left; exact (by first | omega | (simp; done) | (simp; omega))) | refine Below.drew ?_ | refine Below_drewN ?_ _)
    have hz : w.heap.size + 1 < (((w.alloc (.cells #[.string name, .slice A la ca, .slice B lb cb, .slice Cl lc cl, .int .i64 r, .int .i64 z, .int .i64 nr, .int .i64 nz, .int .i64 step, .slice D ld cd] 29)).alloc (.cells #[.slice A1 na qa, .slice B1 nb qb, .slice C1 nc qc] 32))).heap.size := by simp
    obtain ⟨W0, hW0⟩ : ∃ W, ((w.alloc (.cells #[.string name, .slice A la ca, .slice B lb cb, .slice Cl lc cl, .int .i64 r, .int .i64 z, .int .i64 nr, .int .i64 nz, .int .i64 step, .slice D ld cd] 29)).alloc (.cells #[.slice A1 na qa, .slice B1 nb qb, .slice C1 nc qc] 32)) = W := ⟨_, rfl⟩
    rw [hW0] at m0 m1 m2 m3 m4 m5 m6 m7 m8 m9 q0 q1 q2 hB0 hz ⊢
    clear hW0
    have FM := Lib.hid (BoxL.mk10 (W := W0) (by omega) m0 m1 m2 m3 m4 m5 m6 m7 m8 m9)
    have FC := Lib.hid (BoxL.mk3 (W := W0) hz q0 q1 q2)
    clear m0 m1 m2 m3 m4 m5 m6 m7 m8 m9 q0 q1 q2
    have HB : Hid (∀ w' : World, Below W0.heap.size W0 w' → Below w.heap.size w w') := Lib.hid (fun w' h => hB0.trans (h.mono (by omega)))
    have m0 := (FM.out.below (Below.refl _ _)).at 0 (.string name) rfl
    have m1 := (FM.out.below (Below.refl _ _)).at 1 (.slice A la ca) rfl
    have m2 := (FM.out.below (Below.refl _ _)).at 2 (.slice B lb cb) rfl
    have m3 := (FM.out.below (Below.refl _ _)).at 3 (.slice Cl lc cl) rfl
    have m4 := (FM.out.below (Below.refl _ _)).at 4 (.int .i64 r) rfl
    have m5 := (FM.out.below (Below.refl _ _)).at 5 (.int .i64 z) rfl
    have m6 := (FM.out.below (Below.refl _ _)).at 6 (.int .i64 nr) rfl
    have m7 := (FM.out.below (Below.refl _ _)).at 7 (.int .i64 nz) rfl
    have m8 := (FM.out.below (Below.refl _ _)).at 8 (.int .i64 step) rfl
    have m9 := (FM.out.below (Below.refl _ _)).at 9 (.slice D ld cd) rfl
    have q0 := (FC.out.below (Below.refl _ _)).at 0 (.slice A1 na qa) rfl
    have q1 := (FC.out.below (Below.refl _ _)).at 1 (.slice B1 nb qb) rfl
    have q2 := (FC.out.below (Below.refl _ _)).at 2 (.slice C1 nc qc) rfl
    go_wp2_with fail
    refine (HV.out _ (HB.out _ (by (repeat first | with_reducible exact Below.refl _ _ | with_reducible assumption | with_reducible exact (‹Below _ _ _ ∧ _›).1 | (with_reducible refine Below.alloc ?_ ?_ _; rotate_left; exact (by first | omega | (simp; done) | (simp; omega))) | with_reducible refine Below.drew ?_)))).mono ?_
    rintro e w1 ⟨rfl, hb⟩
    have hB1 : Below W0.heap.size W0 w1 := Below.trans (by (repeat first | with_reducible exact Below.refl _ _ | with_reducible assumption | with_reducible exact (‹Below _ _ _ ∧ _›).1 | (with_reducible refine Below.alloc ?_ ?_ _; rotate_left; exact (by first | omega | (simp; done) | (simp; omega))) | with_reducible refine Below.drew ?_)) (hb.mono (by (try simp only [World.size_alloc, World.size_setCell, size_drew]); omega))
    clear hb m0 m1 m2 m3 m4 m5 m6 m7 m8 m9 q0 q1 q2
    have sz1 := hB1.size
    have m0 := (FM.out.below hB1).at 0 (.string name) rfl
    have m1 := (FM.out.below hB1).at 1 (.slice A la ca) rfl
    have m2 := (FM.out.below hB1).at 2 (.slice B lb cb) rfl
    have m3 := (FM.out.below hB1).at 3 (.slice Cl lc cl) rfl
    have m4 := (FM.out.below hB1).at 4 (.int .i64 r) rfl
    have m5 := (FM.out.below hB1).at 5 (.int .i64 z) rfl
    have m6 := (FM.out.below hB1).at 6 (.int .i64 nr) rfl
    have m7 := (FM.out.below hB1).at 7 (.int .i64 nz) rfl
    have m8 := (FM.out.below hB1).at 8 (.int .i64 step) rfl
    have m9 := (FM.out.below hB1).at 9 (.slice D ld cd) rfl
    have q0 := (FC.out.below hB1).at 0 (.slice A1 na qa) rfl
    have q1 := (FC.out.below hB1).at 1 (.slice B1 nb qb) rfl
    have q2 := (FC.out.below hB1).at 2 (.slice C1 nc qc) rfl
    go_wp2_with (go_at_call 63; refine (HW.out _).mono ?_; rintro e w7 ⟨rfl, rfl⟩)
    go_ret2
    exact ⟨rfl, HB.out _ (by (repeat first | with_reducible exact Below.refl _ _ | with_reducible assumption | with_reducible exact (‹Below _ _ _ ∧ _›).1 | (with_reducible refine Below.alloc ?_ ?_ _; rotate_left; exact (by first | omega | (simp; done) | (simp; omega))) | with_reducible refine Below.drew ?_))⟩
  · rw [if_pos rfl]
    have hi := wthn_iff.1 hw
    obtain ⟨x, hx⟩ : ∃ x, M.sensors[i.toNat]? = some x := ⟨_, List.getElem?_eq_getElem (by omega)⟩
    rw [hx]
    have h := rexact_val R M Qr Cd i.toNat x w hM hC (fit2_iff.1 hv) hx
    rw [Int.toNat_of_nonneg hi.1] at h
    exact h

end Go.Proofs.YtfpjhobhmcfpnaaDoor
end
section
/- The specification of layer 4: Background, over this seat's translation (written by mk_run.py). -/
namespace Go.Proofs.YtfpjhobhmcfpnaaDoor
set_option linter.unusedVariables false
set_option linter.unusedSimpArgs false
open Go.RowKit Go.Shelf

theorem rwithin4_any (n a b : Int) (w : World) :
    Calls Tryd.prog 27 #[.int .i64 n, .int .i64 a, .int .i64 b] w fun e w' => e = .returned (.bool (wthn n a b)) ∧ w = w' := by
  go_enter Tryd.func27, Tryd.ntmps27
  go_wp2
  all_goals go_ret
  all_goals (simp [wthn]; try omega)

theorem backL_eq {M : MachD} {C : CurD} {s : Int} (hv : validC M C = true) : backL M C s = if wthn s 0 ((M.sensors.length : Int) - 1) = true then exactL M (darkD C) s else (0, 7) := by
  unfold backL
  rw [hv, if_pos rfl]
  cases hw : wthn s 0 ((M.sensors.length : Int) - 1)
  · unfold exactL
    rw [fit2_iff.2 (dark_fit (fit2_iff.1 hv)), hw]; rfl
  · rfl

set_option maxRecDepth 100000 in
set_option maxHeartbeats 8000000 in
theorem rbackground_any (R : MachR) (M : MachD) (Qr : CurR) (Cd : CurD) (s : Int) (w : World) (hM : IsM w R M) (hC : IsC w Qr Cd) :
    Calls Tryd.prog 9 #[.agg (machCells R M), Qr.v, .int .i64 s] w (Ret (.tuple #[.int .i64 (backL M Cd s).1, .int .i64 (backL M Cd s).2]) w) := by
  have HV0 := Lib.hid (fun W (hb : Below w.heap.size w W) => rvalid2_any R M Qr Cd W (hM.below hb) (hC.below hb))
  cases hv : validC M Cd
  · unfold backL
    rw [hv] at HV0 ⊢
    rw [if_neg (by decide)]
    clear hM hC hv
    obtain ⟨A, B, Cl, D, la, ca, lb, cb, lc, cl, ld, cd⟩ := R
    obtain ⟨name, coils, shells, limits, ⟨r, z, nr, nz, step⟩, sensors⟩ := M
    obtain ⟨A1, B1, C1, na, qa, nb, qb, nc, qc⟩ := Qr
    dsimp only [CurR.v] at *
    have HV := Lib.hid (show ∀ W, Below w.heap.size w W → Calls Tryd.prog 26 #[.agg #[.string name, .slice A la ca, .slice B lb cb, .slice Cl lc cl, .int .i64 r, .int .i64 z, .int .i64 nr, .int .i64 nz, .int .i64 step, .slice D ld cd], .agg #[.slice A1 na qa, .slice B1 nb qb, .slice C1 nc qc]] W (Ret (.bool false) W) from HV0.out)
    clear HV0
    show Calls Tryd.prog 9 #[.agg #[.string name, .slice A la ca, .slice B lb cb, .slice Cl lc cl, .int .i64 r, .int .i64 z, .int .i64 nr, .int .i64 nz, .int .i64 step, .slice D ld cd], .agg #[.slice A1 na qa, .slice B1 nb qb, .slice C1 nc qc], .int .i64 s] w _
    go_enter Tryd.func9, Tryd.ntmps9
    go_upto_region 1 with (fail)
    have Fm : Hid (RowL (w.heap.size) [.string name, .slice A la ca, .slice B lb cb, .slice Cl lc cl, .int .i64 r, .int .i64 z, .int .i64 nr, .int .i64 nz, .int .i64 step, .slice D ld cd] ((w.alloc (.cells #[.string name, .slice A la ca, .slice B lb cb, .slice Cl lc cl, .int .i64 r, .int .i64 z, .int .i64 nr, .int .i64 nz, .int .i64 step, .slice D ld cd] 29)).alloc (.cells #[.slice A1 na qa, .slice B1 nb qb, .slice C1 nc qc] 32))) := Lib.hid (by have h := RowL.new w #[.string name, .slice A la ca, .slice B lb cb, .slice Cl lc cl, .int .i64 r, .int .i64 z, .int .i64 nr, .int .i64 nz, .int .i64 step, .slice D ld cd] 29; (try simp only [World.size_alloc] at h); exact (h.alloc _))
    have Fc : Hid (RowL (w.heap.size + 1) [.slice A1 na qa, .slice B1 nb qb, .slice C1 nc qc] ((w.alloc (.cells #[.string name, .slice A la ca, .slice B lb cb, .slice Cl lc cl, .int .i64 r, .int .i64 z, .int .i64 nr, .int .i64 nz, .int .i64 step, .slice D ld cd] 29)).alloc (.cells #[.slice A1 na qa, .slice B1 nb qb, .slice C1 nc qc] 32))) := Lib.hid (by have h := RowL.new (w.alloc (.cells #[.string name, .slice A la ca, .slice B lb cb, .slice Cl lc cl, .int .i64 r, .int .i64 z, .int .i64 nr, .int .i64 nz, .int .i64 step, .slice D ld cd] 29)) #[.slice A1 na qa, .slice B1 nb qb, .slice C1 nc qc] 32; (try simp only [World.size_alloc] at h); exact h)
    have hB0 : Below w.heap.size w ((w.alloc (.cells #[.string name, .slice A la ca, .slice B lb cb, .slice Cl lc cl, .int .i64 r, .int .i64 z, .int .i64 nr, .int .i64 nz, .int .i64 step, .slice D ld cd] 29)).alloc (.cells #[.slice A1 na qa, .slice B1 nb qb, .slice C1 nc qc] 32)) := by (with_reducible repeat first | exact Below.refl _ _ | assumption | ((first | refine Below.setCell ?_ ?_ _ | refine Below.alloc ?_ ?_ _); rotate_left; exact (by first | omega | (simp; done) | (simp; omega))) | refine Below.drew ?_ | refine Below_drewN ?_ _)
    have sW0 : w.heap.size + 1 < ((w.alloc (.cells #[.string name, .slice A la ca, .slice B lb cb, .slice Cl lc cl, .int .i64 r, .int .i64 z, .int .i64 nr, .int .i64 nz, .int .i64 step, .slice D ld cd] 29)).alloc (.cells #[.slice A1 na qa, .slice B1 nb qb, .slice C1 nc qc] 32)).heap.size := by simp only [World.size_alloc]; omega
    obtain ⟨W0, hW0⟩ : ∃ W, ((w.alloc (.cells #[.string name, .slice A la ca, .slice B lb cb, .slice Cl lc cl, .int .i64 r, .int .i64 z, .int .i64 nr, .int .i64 nz, .int .i64 step, .slice D ld cd] 29)).alloc (.cells #[.slice A1 na qa, .slice B1 nb qb, .slice C1 nc qc] 32)) = W := ⟨_, rfl⟩
    rw [hW0] at Fm Fc hB0 sW0 ⊢
    clear hW0
    have m0 := Fm.out.cell 0 (.string name) rfl
    have m1 := Fm.out.cell 1 (.slice A la ca) rfl
    have m2 := Fm.out.cell 2 (.slice B lb cb) rfl
    have m3 := Fm.out.cell 3 (.slice Cl lc cl) rfl
    have m4 := Fm.out.cell 4 (.int .i64 r) rfl
    have m5 := Fm.out.cell 5 (.int .i64 z) rfl
    have m6 := Fm.out.cell 6 (.int .i64 nr) rfl
    have m7 := Fm.out.cell 7 (.int .i64 nz) rfl
    have m8 := Fm.out.cell 8 (.int .i64 step) rfl
    have m9 := Fm.out.cell 9 (.slice D ld cd) rfl
    have c0 := Fc.out.cell 0 (.slice A1 na qa) rfl
    have c1 := Fc.out.cell 1 (.slice B1 nb qb) rfl
    have c2 := Fc.out.cell 2 (.slice C1 nc qc) rfl
    go_wp2_with fail
    refine (HV.out _ hB0).mono ?_
    rintro e w1 ⟨rfl, hb⟩
    clear m0 m1 m2 m3 m4 m5 m6 m7 m8 m9 c0 c1 c2
    have Gm := Lib.hid (Fm.out.below hb)
    clear Fm
    have Fm := Lib.hid Gm.out
    clear Gm
    have Gc := Lib.hid (Fc.out.below hb)
    clear Fc
    have Fc := Lib.hid Gc.out
    clear Gc
    have m0 := Fm.out.cell 0 (.string name) rfl
    have m1 := Fm.out.cell 1 (.slice A la ca) rfl
    have m2 := Fm.out.cell 2 (.slice B lb cb) rfl
    have m3 := Fm.out.cell 3 (.slice Cl lc cl) rfl
    have m4 := Fm.out.cell 4 (.int .i64 r) rfl
    have m5 := Fm.out.cell 5 (.int .i64 z) rfl
    have m6 := Fm.out.cell 6 (.int .i64 nr) rfl
    have m7 := Fm.out.cell 7 (.int .i64 nz) rfl
    have m8 := Fm.out.cell 8 (.int .i64 step) rfl
    have m9 := Fm.out.cell 9 (.slice D ld cd) rfl
    have c0 := Fc.out.cell 0 (.slice A1 na qa) rfl
    have c1 := Fc.out.cell 1 (.slice B1 nb qb) rfl
    have c2 := Fc.out.cell 2 (.slice C1 nc qc) rfl
    have hB1 := hB0.trans (hb.mono hB0.size)
    have hz1 : w.heap.size + 1 < w1.heap.size := Nat.lt_of_lt_of_le sW0 hb.size
    clear hb hB0 sW0
    go_wp2_with fail
    go_ret2
    exact ⟨rfl, by (with_reducible repeat first | exact Below.refl _ _ | assumption | ((first | refine Below.setCell ?_ ?_ _ | refine Below.alloc ?_ ?_ _); rotate_left; exact (by first | omega | (simp; done) | (simp; omega))) | refine Below.drew ?_ | refine Below_drewN ?_ _)⟩
  have hl := hM.sensors.1
  have hkd := hM.kd
  rw [hv] at HV0
  rw [backL_eq hv]
  cases hw : wthn s 0 ((M.sensors.length : Int) - 1)
  · rw [if_neg (by decide)]
    rw [hl] at hw
    have HW := Lib.hid (fun U => rwithin4_any s 0 ((R.ld : Int) - 1) U)
    rw [hw] at HW
    have v0 : IntKind.i64.wrap ((R.ld : Int) - 1) = (R.ld : Int) - 1 := IntWalk.i64_in _ (by omega)
    clear hw hl
    clear hM hC hv
    obtain ⟨A, B, Cl, D, la, ca, lb, cb, lc, cl, ld, cd⟩ := R
    obtain ⟨name, coils, shells, limits, ⟨r, z, nr, nz, step⟩, sensors⟩ := M
    obtain ⟨A1, B1, C1, na, qa, nb, qb, nc, qc⟩ := Qr
    dsimp only [CurR.v] at *
    have HV := Lib.hid (show ∀ W, Below w.heap.size w W → Calls Tryd.prog 26 #[.agg #[.string name, .slice A la ca, .slice B lb cb, .slice Cl lc cl, .int .i64 r, .int .i64 z, .int .i64 nr, .int .i64 nz, .int .i64 step, .slice D ld cd], .agg #[.slice A1 na qa, .slice B1 nb qb, .slice C1 nc qc]] W (Ret (.bool true) W) from HV0.out)
    clear HV0
    show Calls Tryd.prog 9 #[.agg #[.string name, .slice A la ca, .slice B lb cb, .slice Cl lc cl, .int .i64 r, .int .i64 z, .int .i64 nr, .int .i64 nz, .int .i64 step, .slice D ld cd], .agg #[.slice A1 na qa, .slice B1 nb qb, .slice C1 nc qc], .int .i64 s] w _
    go_enter Tryd.func9, Tryd.ntmps9
    go_upto_region 1 with (fail)
    have Fm : Hid (RowL (w.heap.size) [.string name, .slice A la ca, .slice B lb cb, .slice Cl lc cl, .int .i64 r, .int .i64 z, .int .i64 nr, .int .i64 nz, .int .i64 step, .slice D ld cd] ((w.alloc (.cells #[.string name, .slice A la ca, .slice B lb cb, .slice Cl lc cl, .int .i64 r, .int .i64 z, .int .i64 nr, .int .i64 nz, .int .i64 step, .slice D ld cd] 29)).alloc (.cells #[.slice A1 na qa, .slice B1 nb qb, .slice C1 nc qc] 32))) := Lib.hid (by have h := RowL.new w #[.string name, .slice A la ca, .slice B lb cb, .slice Cl lc cl, .int .i64 r, .int .i64 z, .int .i64 nr, .int .i64 nz, .int .i64 step, .slice D ld cd] 29; (try simp only [World.size_alloc] at h); exact (h.alloc _))
    have Fc : Hid (RowL (w.heap.size + 1) [.slice A1 na qa, .slice B1 nb qb, .slice C1 nc qc] ((w.alloc (.cells #[.string name, .slice A la ca, .slice B lb cb, .slice Cl lc cl, .int .i64 r, .int .i64 z, .int .i64 nr, .int .i64 nz, .int .i64 step, .slice D ld cd] 29)).alloc (.cells #[.slice A1 na qa, .slice B1 nb qb, .slice C1 nc qc] 32))) := Lib.hid (by have h := RowL.new (w.alloc (.cells #[.string name, .slice A la ca, .slice B lb cb, .slice Cl lc cl, .int .i64 r, .int .i64 z, .int .i64 nr, .int .i64 nz, .int .i64 step, .slice D ld cd] 29)) #[.slice A1 na qa, .slice B1 nb qb, .slice C1 nc qc] 32; (try simp only [World.size_alloc] at h); exact h)
    have hB0 : Below w.heap.size w ((w.alloc (.cells #[.string name, .slice A la ca, .slice B lb cb, .slice Cl lc cl, .int .i64 r, .int .i64 z, .int .i64 nr, .int .i64 nz, .int .i64 step, .slice D ld cd] 29)).alloc (.cells #[.slice A1 na qa, .slice B1 nb qb, .slice C1 nc qc] 32)) := by (with_reducible repeat first | exact Below.refl _ _ | assumption | ((first | refine Below.setCell ?_ ?_ _ | refine Below.alloc ?_ ?_ _); rotate_left; exact (by first | omega | (simp; done) | (simp; omega))) | refine Below.drew ?_ | refine Below_drewN ?_ _)
    have sW0 : w.heap.size + 1 < ((w.alloc (.cells #[.string name, .slice A la ca, .slice B lb cb, .slice Cl lc cl, .int .i64 r, .int .i64 z, .int .i64 nr, .int .i64 nz, .int .i64 step, .slice D ld cd] 29)).alloc (.cells #[.slice A1 na qa, .slice B1 nb qb, .slice C1 nc qc] 32)).heap.size := by simp only [World.size_alloc]; omega
    obtain ⟨W0, hW0⟩ : ∃ W, ((w.alloc (.cells #[.string name, .slice A la ca, .slice B lb cb, .slice Cl lc cl, .int .i64 r, .int .i64 z, .int .i64 nr, .int .i64 nz, .int .i64 step, .slice D ld cd] 29)).alloc (.cells #[.slice A1 na qa, .slice B1 nb qb, .slice C1 nc qc] 32)) = W := ⟨_, rfl⟩
    rw [hW0] at Fm Fc hB0 sW0 ⊢
    clear hW0
    have m0 := Fm.out.cell 0 (.string name) rfl
    have m1 := Fm.out.cell 1 (.slice A la ca) rfl
    have m2 := Fm.out.cell 2 (.slice B lb cb) rfl
    have m3 := Fm.out.cell 3 (.slice Cl lc cl) rfl
    have m4 := Fm.out.cell 4 (.int .i64 r) rfl
    have m5 := Fm.out.cell 5 (.int .i64 z) rfl
    have m6 := Fm.out.cell 6 (.int .i64 nr) rfl
    have m7 := Fm.out.cell 7 (.int .i64 nz) rfl
    have m8 := Fm.out.cell 8 (.int .i64 step) rfl
    have m9 := Fm.out.cell 9 (.slice D ld cd) rfl
    have c0 := Fc.out.cell 0 (.slice A1 na qa) rfl
    have c1 := Fc.out.cell 1 (.slice B1 nb qb) rfl
    have c2 := Fc.out.cell 2 (.slice C1 nc qc) rfl
    go_wp2_with fail
    refine (HV.out _ hB0).mono ?_
    rintro e w1 ⟨rfl, hb⟩
    clear m0 m1 m2 m3 m4 m5 m6 m7 m8 m9 c0 c1 c2
    have Gm := Lib.hid (Fm.out.below hb)
    clear Fm
    have Fm := Lib.hid Gm.out
    clear Gm
    have Gc := Lib.hid (Fc.out.below hb)
    clear Fc
    have Fc := Lib.hid Gc.out
    clear Gc
    have m0 := Fm.out.cell 0 (.string name) rfl
    have m1 := Fm.out.cell 1 (.slice A la ca) rfl
    have m2 := Fm.out.cell 2 (.slice B lb cb) rfl
    have m3 := Fm.out.cell 3 (.slice Cl lc cl) rfl
    have m4 := Fm.out.cell 4 (.int .i64 r) rfl
    have m5 := Fm.out.cell 5 (.int .i64 z) rfl
    have m6 := Fm.out.cell 6 (.int .i64 nr) rfl
    have m7 := Fm.out.cell 7 (.int .i64 nz) rfl
    have m8 := Fm.out.cell 8 (.int .i64 step) rfl
    have m9 := Fm.out.cell 9 (.slice D ld cd) rfl
    have c0 := Fc.out.cell 0 (.slice A1 na qa) rfl
    have c1 := Fc.out.cell 1 (.slice B1 nb qb) rfl
    have c2 := Fc.out.cell 2 (.slice C1 nc qc) rfl
    have hB1 := hB0.trans (hb.mono hB0.size)
    have hz1 : w.heap.size + 1 < w1.heap.size := Nat.lt_of_lt_of_le sW0 hb.size
    clear hb hB0 sW0
    go_wp2_with (go_at_call 27; refine (HW.out _).mono ?_; rintro e w7 ⟨rfl, rfl⟩)
    go_ret2
    exact ⟨rfl, by (with_reducible repeat first | exact Below.refl _ _ | assumption | ((first | refine Below.setCell ?_ ?_ _ | refine Below.alloc ?_ ?_ _); rotate_left; exact (by first | omega | (simp; done) | (simp; omega))) | refine Below.drew ?_ | refine Below_drewN ?_ _)⟩
  · rw [if_pos rfl]
    rw [hl] at hw
    have HW := Lib.hid (fun U => rwithin4_any s 0 ((R.ld : Int) - 1) U)
    rw [hw] at HW
    have v0 : IntKind.i64.wrap ((R.ld : Int) - 1) = (R.ld : Int) - 1 := IntWalk.i64_in _ (by omega)
    have hf := fit2_iff.1 hv
    have hs := sound_of hf.check
    have hfc := cells_fine hs.grid
    have e1 := hC.coils.1
    have e2 := hC.shells.1
    have e3 := hC.plasma.1
    have e4 := hf.coils.1
    have e5 := hf.shells.1
    have e6 := hf.plasma.1
    have e7 := hs.coils.1
    have e8 := hs.shells.1
    have l1 : Qr.la ≤ 1000 := by omega
    have l2 : Qr.lb ≤ 1000 := by omega
    have l3 : Qr.lc ≤ 1000 := by omega
    have HD0 := Lib.hid (fun W (hb : Below w.heap.size w W) => rdark_any R M Qr.A Qr.B Qr.C Qr.la Qr.ca Qr.lb Qr.cb Qr.lc Qr.cc Cd.coils Cd.shells W (hC.below hb).coils (hC.below hb).shells l1 l2 l3)
    have HX0 := Lib.hid (fun (Q2 : CurR) W (hb : Below w.heap.size w W) (hc : IsC W Q2 (darkD Cd)) => rexact_any R M Q2 (darkD Cd) s W (hM.below hb) hc)
    have HDD : Hid (darkD Cd = ⟨Cd.coils, Cd.shells, List.replicate Qr.lc 0⟩) := Lib.hid (by unfold darkD; rw [e3])
    clear hw hl hf hs hfc e1 e2 e3 e4 e5 e6 e7 e8
    generalize exactL M (darkD Cd) s = G at *
    obtain ⟨G1, G2⟩ := G
    generalize darkD Cd = DD at *
    have HDD2 := HDD.out
    subst HDD2
    clear HDD
    clear hM hC hv
    obtain ⟨A, B, Cl, D, la, ca, lb, cb, lc, cl, ld, cd⟩ := R
    obtain ⟨name, coils, shells, limits, ⟨r, z, nr, nz, step⟩, sensors⟩ := M
    obtain ⟨A1, B1, C1, na, qa, nb, qb, nc, qc⟩ := Qr
    dsimp only [CurR.v] at *
    have HV := Lib.hid (show ∀ W, Below w.heap.size w W → Calls Tryd.prog 26 #[.agg #[.string name, .slice A la ca, .slice B lb cb, .slice Cl lc cl, .int .i64 r, .int .i64 z, .int .i64 nr, .int .i64 nz, .int .i64 step, .slice D ld cd], .agg #[.slice A1 na qa, .slice B1 nb qb, .slice C1 nc qc]] W (Ret (.bool true) W) from HV0.out)
    clear HV0
    have HD := Lib.hid (show ∀ W, Below w.heap.size w W → Calls Tryd.prog 29 #[.agg #[.string name, .slice A la ca, .slice B lb cb, .slice Cl lc cl, .int .i64 r, .int .i64 z, .int .i64 nr, .int .i64 nz, .int .i64 step, .slice D ld cd], .agg #[.slice A1 na qa, .slice B1 nb qb, .slice C1 nc qc]] W (Dark na nb nc Cd.coils Cd.shells W) from HD0.out)
    have HX := Lib.hid (show ∀ (Q2 : CurR) W, Below w.heap.size w W → IsC W Q2 ⟨Cd.coils, Cd.shells, List.replicate nc 0⟩ → Calls Tryd.prog 28 #[.agg #[.string name, .slice A la ca, .slice B lb cb, .slice Cl lc cl, .int .i64 r, .int .i64 z, .int .i64 nr, .int .i64 nz, .int .i64 step, .slice D ld cd], .agg #[.slice Q2.A Q2.la Q2.ca, .slice Q2.B Q2.lb Q2.cb, .slice Q2.C Q2.lc Q2.cc], .int .i64 s] W (Ret (.tuple #[.int .i64 G1, .int .i64 G2]) W) from HX0.out)
    clear HD0 HX0
    show Calls Tryd.prog 9 #[.agg #[.string name, .slice A la ca, .slice B lb cb, .slice Cl lc cl, .int .i64 r, .int .i64 z, .int .i64 nr, .int .i64 nz, .int .i64 step, .slice D ld cd], .agg #[.slice A1 na qa, .slice B1 nb qb, .slice C1 nc qc], .int .i64 s] w _
    go_enter Tryd.func9, Tryd.ntmps9
    go_upto_region 1 with (fail)
    have Fm : Hid (RowL (w.heap.size) [.string name, .slice A la ca, .slice B lb cb, .slice Cl lc cl, .int .i64 r, .int .i64 z, .int .i64 nr, .int .i64 nz, .int .i64 step, .slice D ld cd] ((w.alloc (.cells #[.string name, .slice A la ca, .slice B lb cb, .slice Cl lc cl, .int .i64 r, .int .i64 z, .int .i64 nr, .int .i64 nz, .int .i64 step, .slice D ld cd] 29)).alloc (.cells #[.slice A1 na qa, .slice B1 nb qb, .slice C1 nc qc] 32))) := Lib.hid (by have h := RowL.new w #[.string name, .slice A la ca, .slice B lb cb, .slice Cl lc cl, .int .i64 r, .int .i64 z, .int .i64 nr, .int .i64 nz, .int .i64 step, .slice D ld cd] 29; (try simp only [World.size_alloc] at h); exact (h.alloc _))
    have Fc : Hid (RowL (w.heap.size + 1) [.slice A1 na qa, .slice B1 nb qb, .slice C1 nc qc] ((w.alloc (.cells #[.string name, .slice A la ca, .slice B lb cb, .slice Cl lc cl, .int .i64 r, .int .i64 z, .int .i64 nr, .int .i64 nz, .int .i64 step, .slice D ld cd] 29)).alloc (.cells #[.slice A1 na qa, .slice B1 nb qb, .slice C1 nc qc] 32))) := Lib.hid (by have h := RowL.new (w.alloc (.cells #[.string name, .slice A la ca, .slice B lb cb, .slice Cl lc cl, .int .i64 r, .int .i64 z, .int .i64 nr, .int .i64 nz, .int .i64 step, .slice D ld cd] 29)) #[.slice A1 na qa, .slice B1 nb qb, .slice C1 nc qc] 32; (try simp only [World.size_alloc] at h); exact h)
    have hB0 : Below w.heap.size w ((w.alloc (.cells #[.string name, .slice A la ca, .slice B lb cb, .slice Cl lc cl, .int .i64 r, .int .i64 z, .int .i64 nr, .int .i64 nz, .int .i64 step, .slice D ld cd] 29)).alloc (.cells #[.slice A1 na qa, .slice B1 nb qb, .slice C1 nc qc] 32)) := by (with_reducible repeat first | exact Below.refl _ _ | assumption | ((first | refine Below.setCell ?_ ?_ _ | refine Below.alloc ?_ ?_ _); rotate_left; exact (by first | omega | (simp; done) | (simp; omega))) | refine Below.drew ?_ | refine Below_drewN ?_ _)
    have sW0 : w.heap.size + 1 < ((w.alloc (.cells #[.string name, .slice A la ca, .slice B lb cb, .slice Cl lc cl, .int .i64 r, .int .i64 z, .int .i64 nr, .int .i64 nz, .int .i64 step, .slice D ld cd] 29)).alloc (.cells #[.slice A1 na qa, .slice B1 nb qb, .slice C1 nc qc] 32)).heap.size := by simp only [World.size_alloc]; omega
    obtain ⟨W0, hW0⟩ : ∃ W, ((w.alloc (.cells #[.string name, .slice A la ca, .slice B lb cb, .slice Cl lc cl, .int .i64 r, .int .i64 z, .int .i64 nr, .int .i64 nz, .int .i64 step, .slice D ld cd] 29)).alloc (.cells #[.slice A1 na qa, .slice B1 nb qb, .slice C1 nc qc] 32)) = W := ⟨_, rfl⟩
    rw [hW0] at Fm Fc hB0 sW0 ⊢
    clear hW0
    have m0 := Fm.out.cell 0 (.string name) rfl
    have m1 := Fm.out.cell 1 (.slice A la ca) rfl
    have m2 := Fm.out.cell 2 (.slice B lb cb) rfl
    have m3 := Fm.out.cell 3 (.slice Cl lc cl) rfl
    have m4 := Fm.out.cell 4 (.int .i64 r) rfl
    have m5 := Fm.out.cell 5 (.int .i64 z) rfl
    have m6 := Fm.out.cell 6 (.int .i64 nr) rfl
    have m7 := Fm.out.cell 7 (.int .i64 nz) rfl
    have m8 := Fm.out.cell 8 (.int .i64 step) rfl
    have m9 := Fm.out.cell 9 (.slice D ld cd) rfl
    have c0 := Fc.out.cell 0 (.slice A1 na qa) rfl
    have c1 := Fc.out.cell 1 (.slice B1 nb qb) rfl
    have c2 := Fc.out.cell 2 (.slice C1 nc qc) rfl
    go_wp2_with fail
    refine (HV.out _ hB0).mono ?_
    rintro e w1 ⟨rfl, hb⟩
    clear m0 m1 m2 m3 m4 m5 m6 m7 m8 m9 c0 c1 c2
    have Gm := Lib.hid (Fm.out.below hb)
    clear Fm
    have Fm := Lib.hid Gm.out
    clear Gm
    have Gc := Lib.hid (Fc.out.below hb)
    clear Fc
    have Fc := Lib.hid Gc.out
    clear Gc
    have m0 := Fm.out.cell 0 (.string name) rfl
    have m1 := Fm.out.cell 1 (.slice A la ca) rfl
    have m2 := Fm.out.cell 2 (.slice B lb cb) rfl
    have m3 := Fm.out.cell 3 (.slice Cl lc cl) rfl
    have m4 := Fm.out.cell 4 (.int .i64 r) rfl
    have m5 := Fm.out.cell 5 (.int .i64 z) rfl
    have m6 := Fm.out.cell 6 (.int .i64 nr) rfl
    have m7 := Fm.out.cell 7 (.int .i64 nz) rfl
    have m8 := Fm.out.cell 8 (.int .i64 step) rfl
    have m9 := Fm.out.cell 9 (.slice D ld cd) rfl
    have c0 := Fc.out.cell 0 (.slice A1 na qa) rfl
    have c1 := Fc.out.cell 1 (.slice B1 nb qb) rfl
    have c2 := Fc.out.cell 2 (.slice C1 nc qc) rfl
    have hB1 := hB0.trans (hb.mono hB0.size)
    have hz1 : w.heap.size + 1 < w1.heap.size := Nat.lt_of_lt_of_le sW0 hb.size
    clear hb hB0 sW0
    go_wp2_with (go_at_call 27; refine (HW.out _).mono ?_; rintro e w7 ⟨rfl, rfl⟩)
    have HS : Hid (∀ w' : World, Reg (w1.heap.size) (w1) w' → (Reg (w1.heap.size) (w1) w' ∧ w'.cell? ⟨w.heap.size, 0, none⟩ = some (.string name) ∧ w'.cell? ⟨w.heap.size, 1, none⟩ = some (.slice A la ca) ∧ w'.cell? ⟨w.heap.size, 2, none⟩ = some (.slice B lb cb) ∧ w'.cell? ⟨w.heap.size, 3, none⟩ = some (.slice Cl lc cl) ∧ w'.cell? ⟨w.heap.size, 4, none⟩ = some (.int .i64 r) ∧ w'.cell? ⟨w.heap.size, 5, none⟩ = some (.int .i64 z) ∧ w'.cell? ⟨w.heap.size, 6, none⟩ = some (.int .i64 nr) ∧ w'.cell? ⟨w.heap.size, 7, none⟩ = some (.int .i64 nz) ∧ w'.cell? ⟨w.heap.size, 8, none⟩ = some (.int .i64 step) ∧ w'.cell? ⟨w.heap.size, 9, none⟩ = some (.slice D ld cd) ∧ w'.cell? ⟨w.heap.size + 1, 0, none⟩ = some (.slice A1 na qa) ∧ w'.cell? ⟨w.heap.size + 1, 1, none⟩ = some (.slice B1 nb qb) ∧ w'.cell? ⟨w.heap.size + 1, 2, none⟩ = some (.slice C1 nc qc))) := (fun w' h => by (have hc := h.cells; have hs := h.some; have hf := h.frozen; refine ⟨h, ?_⟩; (try simp only [World.size_alloc, World.size_setCell, size_drew, size_drewN] at hc hs hf); first | (simp (disch := omega) only [hc, hs, hf, cur_iff]; (try go_simp); done) | (simp (disch := first | omega | (simp; done)) only [hc, hs, hf, cur_iff]; (try go_simp); done) | (simp (maxDischargeDepth := 4) [hc, hs, hf, cur_iff, go_sem]; done) | (go_simp; done) | (simp (maxDischargeDepth := 4) [hc, hs, hf, cur_iff, go_sem]; go_simp))); go_region_held3 (fun w' => Reg (w1.heap.size) (w1) w' ∧ w'.cell? ⟨w.heap.size, 0, none⟩ = some (.string name) ∧ w'.cell? ⟨w.heap.size, 1, none⟩ = some (.slice A la ca) ∧ w'.cell? ⟨w.heap.size, 2, none⟩ = some (.slice B lb cb) ∧ w'.cell? ⟨w.heap.size, 3, none⟩ = some (.slice Cl lc cl) ∧ w'.cell? ⟨w.heap.size, 4, none⟩ = some (.int .i64 r) ∧ w'.cell? ⟨w.heap.size, 5, none⟩ = some (.int .i64 z) ∧ w'.cell? ⟨w.heap.size, 6, none⟩ = some (.int .i64 nr) ∧ w'.cell? ⟨w.heap.size, 7, none⟩ = some (.int .i64 nz) ∧ w'.cell? ⟨w.heap.size, 8, none⟩ = some (.int .i64 step) ∧ w'.cell? ⟨w.heap.size, 9, none⟩ = some (.slice D ld cd) ∧ w'.cell? ⟨w.heap.size + 1, 0, none⟩ = some (.slice A1 na qa) ∧ w'.cell? ⟨w.heap.size + 1, 1, none⟩ = some (.slice B1 nb qb) ∧ w'.cell? ⟨w.heap.size + 1, 2, none⟩ = some (.slice C1 nc qc)) (exact HS.out _ (by (repeat first | with_reducible exact Reg.refl _ _ | with_reducible exact Reg.drewN2 _ _ _ _ | with_reducible exact (‹Reg _ _ _ ∧ _›).1 | (with_reducible refine Reg.setCell ?_ ?_ _; rotate_left; exact (by first | omega | ((try simp only [World.size_alloc, World.size_setCell, size_drew, size_drewN]); omega) | (simp; done) | (simp; omega))) | with_reducible refine Reg.alloc ?_ _ | with_reducible refine Reg.drew ?_ | with_reducible refine Reg.drewN ?_ _ | (with_reducible apply Reg.call; rotate_left; with_reducible assumption)))) (first | (go_at_call 29; (with_reducible refine (HD.out _ (Reg.out (‹Reg _ _ _ ∧ _›).1 (by (with_reducible repeat first | exact Below.refl _ _ | assumption | ((first | refine Below.setCell ?_ ?_ _ | refine Below.alloc ?_ ?_ _); rotate_left; exact (by first | omega | (simp; done) | (simp; omega))) | refine Below.drew ?_ | refine Below_drewN ?_ _)) (by first | omega | (simp; done) | (simp; omega)))).mono ?_); rintro e w8 ⟨A', ca', A2', cb', pb, rfl, hd0, hb⟩; have hd := dark_isC hd0 l1 l2 l3; clear hd0; (first | (with_reducible have hk := Nat.lt_of_lt_of_le (size_alloc_lt _ _) hb.size) | (with_reducible have hk := Nat.lt_of_lt_of_le (size_alloc_drew_lt _ _) hb.size) | (with_reducible have hk := Nat.lt_of_lt_of_le hk hb.size) | skip); (try simp only [World.size_alloc, World.size_setCell, size_drew, size_drewN] at hk); obtain ⟨hc, hf⟩ := bcell hb; have hs := hb.size; (try simp only [World.size_alloc, World.size_setCell, size_drew, size_drewN] at hs)) | (go_at_call 28; (with_reducible refine (HX.out ⟨A', A2', some ⟨pb, 0, none⟩, na, ca', nb, cb', nc, nc⟩ _ (Reg.out (‹Reg _ _ _ ∧ _›).1 (by (with_reducible repeat first | exact Below.refl _ _ | assumption | ((first | refine Below.setCell ?_ ?_ _ | refine Below.alloc ?_ ?_ _); rotate_left; exact (by first | omega | (simp; done) | (simp; omega))) | refine Below.drew ?_ | refine Below_drewN ?_ _)) (by first | omega | (simp; done) | (simp; omega))) (by assumption)).mono ?_); rintro e w9 ⟨rfl, hb⟩; (first | (with_reducible have hk := Nat.lt_of_lt_of_le (size_alloc_lt _ _) hb.size) | (with_reducible have hk := Nat.lt_of_lt_of_le (size_alloc_drew_lt _ _) hb.size) | (with_reducible have hk := Nat.lt_of_lt_of_le hk hb.size) | skip); (try simp only [World.size_alloc, World.size_setCell, size_drew, size_drewN] at hk); obtain ⟨hc, hf⟩ := bcell hb; have hs := hb.size; (try simp only [World.size_alloc, World.size_setCell, size_drew, size_drewN] at hs)))
    all_goals go_wp2_with fail
    all_goals go_ret2
    all_goals exact ⟨rfl, (Reg.out (‹Reg _ _ _ ∧ _›).1 (by (with_reducible repeat first | exact Below.refl _ _ | assumption | ((first | refine Below.setCell ?_ ?_ _ | refine Below.alloc ?_ ?_ _); rotate_left; exact (by first | omega | (simp; done) | (simp; omega))) | refine Below.drew ?_ | refine Below_drewN ?_ _)) (by first | omega | (simp; done) | (simp; omega)))⟩

end Go.Proofs.YtfpjhobhmcfpnaaDoor
end
