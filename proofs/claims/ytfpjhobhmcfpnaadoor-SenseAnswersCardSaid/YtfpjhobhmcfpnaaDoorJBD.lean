import Derived.Test.YtfpjhobhmcfpnaaDoorJAA
import Derived.Test.YtfpjhobhmcfpnaaDoorJAE
import Derived.Test.YtfpjhobhmcfpnaaDoorJAZ
import Derived.Test.YtfpjhobhmcfpnaaDoorJBA
import Derived.Test.YtfpjhobhmcfpnaaDoorJBC
import Derived.ProofKit
import Derived.OpenShut
import Derived.Lib.SmallJoins
import Derived.Deep.Slices
import Derived.Carry
section
/- The law SenseAnswers: its walk, over this seat's translation (written by mk_ana.py). -/
namespace Go.Proofs.YtfpjhobhmcfpnaaDoor
set_option linter.unusedVariables false
set_option linter.unusedSimpArgs false
open Go.RowKit Go.Shelf

/-- What Filament answers: currents and an error. -/
def FilaAny (D : CurD) (E : Int) (w : World) (e : Ending) (w' : World) : Prop :=
  ∃ Q : CurR, e = .returned (.tuple #[.agg #[.slice Q.A Q.la Q.ca, .slice Q.B Q.lb Q.cb, .slice Q.C Q.lc Q.cc], .int .i64 E]) ∧ IsC w' Q D ∧ Below w.heap.size w w'
theorem isC_nil (W : World) : IsC W ⟨none, none, none, 0, 0, 0, 0, 0, 0⟩ ⟨[], [], []⟩ :=
  ⟨IsT.nil _ _ _ _, IsT.nil _ _ _ _, IsT.nil _ _ _ _, by dsimp only; omega, by dsimp only; omega, by dsimp only; omega, by dsimp only; omega, by dsimp only; omega, by dsimp only; omega, by dsimp only; omega, by dsimp only; omega, by dsimp only; omega⟩
def filaZ (M : MachD) (C : CurD) (cell cur : Int) : CurD := if filaE M C cell cur = 0 then filaD C cell cur else ⟨[], [], []⟩
theorem fila_any (R : MachR) (M : MachD) (Qr : CurR) (Cd : CurD) (cell cur : Int) (w : World) (hM : IsM w R M) (hC : IsC w Qr Cd) :
    Calls Tryd.prog 12 #[.agg (machCells R M), Qr.v, .int .i64 cell, .int .i64 cur] w (FilaAny (filaZ M Cd cell cur) (filaE M Cd cell cur) w) := by
  unfold filaZ
  by_cases h : filaE M Cd cell cur = 0
  · rw [if_pos h]
    refine (filament_ok R M Qr Cd cell cur w hM hC h).mono ?_
    rintro e w1 ⟨A, ca, A2, cb, pb, rfl, hi, hb⟩
    rw [h]
    exact ⟨_, rfl, hi, hb⟩
  · rw [if_neg h]
    refine (filament_bad R M Qr Cd cell cur w hM hC h).mono ?_
    rintro e w1 ⟨rfl, hb⟩
    exact ⟨_, rfl, isC_nil _, hb⟩
theorem rfila_any (R : MachR) (M : MachD) (Qr : CurR) (Cd : CurD) (cell cur : Int) (w : World) (hM : IsM w R M) (hC : IsC w Qr Cd) :
    Calls Tryd.prog 13 #[.agg (machCells R M), Qr.v, .int .i64 cell, .int .i64 cur] w (FilaAny (filaZ M Cd cell cur) (filaE M Cd cell cur) w) := by
  unfold filaZ
  by_cases h : filaE M Cd cell cur = 0
  · rw [if_pos h]
    refine (rfilament_ok R M Qr Cd cell cur w hM hC h).mono ?_
    rintro e w1 ⟨A, ca, A2, cb, pb, rfl, hi, hb⟩
    rw [h]
    exact ⟨_, rfl, hi, hb⟩
  · rw [if_neg h]
    refine (rfilament_bad R M Qr Cd cell cur w hM hC h).mono ?_
    rintro e w1 ⟨rfl, hb⟩
    exact ⟨_, rfl, isC_nil _, hb⟩

set_option maxRecDepth 100000 in
set_option maxHeartbeats 16000000 in
theorem answers_walk (R : MachR) (M : MachD) (Qr : CurR) (Cd : CurD) (s cell cur : Int) (w : World) (hs : -9223372036854775808 ≤ s ∧ s ≤ 9223372036854775807)
    (hM : R.la ≤ 1000000000000000 → R.lb ≤ 1000000000000000 → R.lc ≤ 1000000000000000 → R.ld ≤ 1000000000000000 → IsM w R M) (hC : Qr.la ≤ 1000000000000000 → Qr.lb ≤ 1000000000000000 → Qr.lc ≤ 1000000000000000 → IsC w Qr Cd) :
    Calls Tryd.prog 3 #[.agg (machCells R M), Qr.v, .agg #[.int .i64 s, .int .i64 cell, .int .i64 cur]] w (Ret (.bool true) w) := by
  have HBr := Lib.hid (fun W => brief_any M.name R.A R.B R.C R.D R.la R.ca R.lb R.cb R.lc R.cc R.ld R.cd M.grid.r M.grid.z M.grid.nr M.grid.nz M.grid.step Qr.A Qr.B Qr.C none Qr.la Qr.ca Qr.lb Qr.cb Qr.lc Qr.cc 0 0 W)
  cases hbr : briefB R.la R.lb R.lc R.ld Qr.la Qr.lb Qr.lc 0
  · rw [hbr] at HBr
    clear hM hC hbr hs
    obtain ⟨A, B, Cl, D, la, ca, lb, cb, lc, cl, ld, cd⟩ := R
    obtain ⟨name, coils, shells, limits, ⟨r, z, nr, nz, step⟩, sensors⟩ := M
    obtain ⟨A1, B1, C1, na, qa, nb, qb, nc, qc⟩ := Qr
    dsimp only at HBr
    show Calls Tryd.prog 3 #[.agg #[.string name, .slice A la ca, .slice B lb cb, .slice Cl lc cl, .int .i64 r, .int .i64 z, .int .i64 nr, .int .i64 nz, .int .i64 step, .slice D ld cd], .agg #[.slice A1 na qa, .slice B1 nb qb, .slice C1 nc qc], .agg #[.int .i64 s, .int .i64 cell, .int .i64 cur]] w _
    go_enter Tryd.func3, Tryd.ntmps3
    go_wp2_with fail
    refine (HBr.out _).mono ?_
    rintro e w1 ⟨rfl, hb⟩
    have hB1 : Below w.heap.size w w1 := Below.trans (by (with_reducible repeat first | exact Below.refl _ _ | assumption | ((first | refine Below.setCell ?_ ?_ _ | refine Below.alloc ?_ ?_ _); rotate_left; exact (by first | omega | (simp; done) | (simp; omega))) | refine Below.drew ?_ | refine Below_drewN ?_ _)) (hb.mono (by first | omega | ((try simp only [World.size_alloc, World.size_setCell, size_drew, size_drewN]); omega) | (simp; done) | (simp; omega)))
    have sz1 := hB1.size
    clear hb
    go_wp2_with fail
    refine (awake_any _).mono ?_
    rintro e w2 ⟨rfl, hb⟩
    have hB2 := hB1.trans (hb.mono hB1.size)
    clear hb
    go_wp2_with fail
    go_ret
    exact ⟨rfl, by (with_reducible repeat first | exact Below.refl _ _ | assumption | ((first | refine Below.setCell ?_ ?_ _ | refine Below.alloc ?_ ?_ _); rotate_left; exact (by first | omega | (simp; done) | (simp; omega))) | refine Below.drew ?_ | refine Below_drewN ?_ _)⟩
  rw [hbr] at HBr
  obtain ⟨ka, kb, kc, kd, pa, pb, pc, -⟩ := brief_bd hbr
  have hM := hM (by omega) (by omega) (by omega) (by omega)
  have hC := hC (by omega) (by omega) (by omega)
  clear hbr ka kb kc kd pa pb pc
  have HF1 := Lib.hid (fun W (hb : Below w.heap.size w W) => fila_any R M Qr Cd cell cur W (hM.below hb) (hC.below hb))
  have HF2 := Lib.hid (fun W (hb : Below w.heap.size w W) => rfila_any R M Qr Cd cell cur W (hM.below hb) (hC.below hb))
  have HB1 := Lib.hid (fun W (hb : Below w.heap.size w W) => background_any R M Qr Cd s W (hM.below hb) (hC.below hb) hs.1 hs.2)
  have HB2 := Lib.hid (fun W (hb : Below w.heap.size w W) => rbackground_any R M Qr Cd s W (hM.below hb) (hC.below hb))
  have HR1 := Lib.hid (fun W (hb : Below w.heap.size w W) => response_any R M s cell W (hM.below hb))
  have HR2 := Lib.hid (fun W (hb : Below w.heap.size w W) => rresponse_any R M s cell W (hM.below hb))
  clear hM hC hs
  generalize filaE M Cd cell cur = E at *
  generalize filaZ M Cd cell cur = DD at *
  generalize backL M Cd s = GB at *
  generalize respL M s cell = GR at *
  obtain ⟨b1, b2⟩ := GB
  obtain ⟨n1, n2⟩ := GR
  obtain ⟨A, B, Cl, D, la, ca, lb, cb, lc, cl, ld, cd⟩ := R
  obtain ⟨name, coils, shells, limits, ⟨r, z, nr, nz, step⟩, sensors⟩ := M
  obtain ⟨A1, B1, C1, na, qa, nb, qb, nc, qc⟩ := Qr
  dsimp only [CurR.v] at *
  have JB1 := Lib.hid (show ∀ W, Below w.heap.size w W → Calls Tryd.prog 8 #[.agg #[.string name, .slice A la ca, .slice B lb cb, .slice Cl lc cl, .int .i64 r, .int .i64 z, .int .i64 nr, .int .i64 nz, .int .i64 step, .slice D ld cd], .agg #[.slice A1 na qa, .slice B1 nb qb, .slice C1 nc qc], .int .i64 s] W (Ret (.tuple #[.int .i64 b1, .int .i64 b2]) W) from HB1.out)
  have JB2 := Lib.hid (show ∀ W, Below w.heap.size w W → Calls Tryd.prog 9 #[.agg #[.string name, .slice A la ca, .slice B lb cb, .slice Cl lc cl, .int .i64 r, .int .i64 z, .int .i64 nr, .int .i64 nz, .int .i64 step, .slice D ld cd], .agg #[.slice A1 na qa, .slice B1 nb qb, .slice C1 nc qc], .int .i64 s] W (Ret (.tuple #[.int .i64 b1, .int .i64 b2]) W) from HB2.out)
  have JR1 := Lib.hid (show ∀ W, Below w.heap.size w W → Calls Tryd.prog 10 #[.agg #[.string name, .slice A la ca, .slice B lb cb, .slice Cl lc cl, .int .i64 r, .int .i64 z, .int .i64 nr, .int .i64 nz, .int .i64 step, .slice D ld cd], .int .i64 s, .int .i64 cell] W (Ret (.tuple #[.int .i64 n1, .int .i64 n2]) W) from HR1.out)
  have JR2 := Lib.hid (show ∀ W, Below w.heap.size w W → Calls Tryd.prog 11 #[.agg #[.string name, .slice A la ca, .slice B lb cb, .slice Cl lc cl, .int .i64 r, .int .i64 z, .int .i64 nr, .int .i64 nz, .int .i64 step, .slice D ld cd], .int .i64 s, .int .i64 cell] W (Ret (.tuple #[.int .i64 n1, .int .i64 n2]) W) from HR2.out)
  have JF1 := Lib.hid (show ∀ W, Below w.heap.size w W → Calls Tryd.prog 12 #[.agg #[.string name, .slice A la ca, .slice B lb cb, .slice Cl lc cl, .int .i64 r, .int .i64 z, .int .i64 nr, .int .i64 nz, .int .i64 step, .slice D ld cd], .agg #[.slice A1 na qa, .slice B1 nb qb, .slice C1 nc qc], .int .i64 cell, .int .i64 cur] W (FilaAny DD E W) from HF1.out)
  have JF2 := Lib.hid (show ∀ W, Below w.heap.size w W → Calls Tryd.prog 13 #[.agg #[.string name, .slice A la ca, .slice B lb cb, .slice Cl lc cl, .int .i64 r, .int .i64 z, .int .i64 nr, .int .i64 nz, .int .i64 step, .slice D ld cd], .agg #[.slice A1 na qa, .slice B1 nb qb, .slice C1 nc qc], .int .i64 cell, .int .i64 cur] W (FilaAny DD E W) from HF2.out)
  clear HB1 HB2 HR1 HR2 HF1 HF2
  show Calls Tryd.prog 3 #[.agg #[.string name, .slice A la ca, .slice B lb cb, .slice Cl lc cl, .int .i64 r, .int .i64 z, .int .i64 nr, .int .i64 nz, .int .i64 step, .slice D ld cd], .agg #[.slice A1 na qa, .slice B1 nb qb, .slice C1 nc qc], .agg #[.int .i64 s, .int .i64 cell, .int .i64 cur]] w _
  go_enter Tryd.func3, Tryd.ntmps3
  go_upto_region 1 with (fail)
  have Fm : Hid (RowL (w.heap.size) [.string name, .slice A la ca, .slice B lb cb, .slice Cl lc cl, .int .i64 r, .int .i64 z, .int .i64 nr, .int .i64 nz, .int .i64 step, .slice D ld cd] (((w.alloc (.cells #[.string name, .slice A la ca, .slice B lb cb, .slice Cl lc cl, .int .i64 r, .int .i64 z, .int .i64 nr, .int .i64 nz, .int .i64 step, .slice D ld cd] 29)).alloc (.cells #[.slice A1 na qa, .slice B1 nb qb, .slice C1 nc qc] 32)).alloc (.cells #[.int .i64 s, .int .i64 cell, .int .i64 cur] 34))) := Lib.hid (by have h := RowL.new w #[.string name, .slice A la ca, .slice B lb cb, .slice Cl lc cl, .int .i64 r, .int .i64 z, .int .i64 nr, .int .i64 nz, .int .i64 step, .slice D ld cd] 29; (try simp only [World.size_alloc] at h); exact ((h.alloc _).alloc _))
  have Fc : Hid (RowL (w.heap.size + 1) [.slice A1 na qa, .slice B1 nb qb, .slice C1 nc qc] (((w.alloc (.cells #[.string name, .slice A la ca, .slice B lb cb, .slice Cl lc cl, .int .i64 r, .int .i64 z, .int .i64 nr, .int .i64 nz, .int .i64 step, .slice D ld cd] 29)).alloc (.cells #[.slice A1 na qa, .slice B1 nb qb, .slice C1 nc qc] 32)).alloc (.cells #[.int .i64 s, .int .i64 cell, .int .i64 cur] 34))) := Lib.hid (by have h := RowL.new (w.alloc (.cells #[.string name, .slice A la ca, .slice B lb cb, .slice Cl lc cl, .int .i64 r, .int .i64 z, .int .i64 nr, .int .i64 nz, .int .i64 step, .slice D ld cd] 29)) #[.slice A1 na qa, .slice B1 nb qb, .slice C1 nc qc] 32; (try simp only [World.size_alloc] at h); exact (h.alloc _))
  have Fx : Hid (RowL (w.heap.size + 1 + 1) [.int .i64 s, .int .i64 cell, .int .i64 cur] (((w.alloc (.cells #[.string name, .slice A la ca, .slice B lb cb, .slice Cl lc cl, .int .i64 r, .int .i64 z, .int .i64 nr, .int .i64 nz, .int .i64 step, .slice D ld cd] 29)).alloc (.cells #[.slice A1 na qa, .slice B1 nb qb, .slice C1 nc qc] 32)).alloc (.cells #[.int .i64 s, .int .i64 cell, .int .i64 cur] 34))) := Lib.hid (by have h := RowL.new ((w.alloc (.cells #[.string name, .slice A la ca, .slice B lb cb, .slice Cl lc cl, .int .i64 r, .int .i64 z, .int .i64 nr, .int .i64 nz, .int .i64 step, .slice D ld cd] 29)).alloc (.cells #[.slice A1 na qa, .slice B1 nb qb, .slice C1 nc qc] 32)) #[.int .i64 s, .int .i64 cell, .int .i64 cur] 34; (try simp only [World.size_alloc] at h); exact h)
  have hB0 : Below w.heap.size w (((w.alloc (.cells #[.string name, .slice A la ca, .slice B lb cb, .slice Cl lc cl, .int .i64 r, .int .i64 z, .int .i64 nr, .int .i64 nz, .int .i64 step, .slice D ld cd] 29)).alloc (.cells #[.slice A1 na qa, .slice B1 nb qb, .slice C1 nc qc] 32)).alloc (.cells #[.int .i64 s, .int .i64 cell, .int .i64 cur] 34)) := by (with_reducible repeat first | exact Below.refl _ _ | assumption | ((first | refine Below.setCell ?_ ?_ _ | refine Below.alloc ?_ ?_ _); rotate_left; exact (by first | omega | (simp; done) | (simp; omega))) | refine Below.drew ?_ | refine Below_drewN ?_ _)
  have sW0 : w.heap.size + 1 + 1 < (((w.alloc (.cells #[.string name, .slice A la ca, .slice B lb cb, .slice Cl lc cl, .int .i64 r, .int .i64 z, .int .i64 nr, .int .i64 nz, .int .i64 step, .slice D ld cd] 29)).alloc (.cells #[.slice A1 na qa, .slice B1 nb qb, .slice C1 nc qc] 32)).alloc (.cells #[.int .i64 s, .int .i64 cell, .int .i64 cur] 34)).heap.size := by simp only [World.size_alloc]; omega
  obtain ⟨W0, hW0⟩ : ∃ W, (((w.alloc (.cells #[.string name, .slice A la ca, .slice B lb cb, .slice Cl lc cl, .int .i64 r, .int .i64 z, .int .i64 nr, .int .i64 nz, .int .i64 step, .slice D ld cd] 29)).alloc (.cells #[.slice A1 na qa, .slice B1 nb qb, .slice C1 nc qc] 32)).alloc (.cells #[.int .i64 s, .int .i64 cell, .int .i64 cur] 34)) = W := ⟨_, rfl⟩
  rw [hW0] at Fm Fc Fx hB0 sW0 ⊢
  clear hW0
  have m0 := Fm.out.cell 0 (.string name) rfl
  have m1 := Fm.out.cell 1 (.slice A la ca) rfl
  have m2 := Fm.out.cell 2 (.slice B lb cb) rfl
  have m3 := Fm.out.cell 3 (.slice Cl lc cl) rfl
  have m4 := Fm.out.cell 4 (.int .i64 r) rfl
  have m5 := Fm.out.cell 5 (.int .i64 z) rfl
  have m6 := Fm.out.cell 6 (.int .i64 nr) rfl
  have m7 := Fm.out.cell 7 (.int .i64 nz) rfl
  have m8 := Fm.out.cell 8 (.int .i64 step) rfl
  have m9 := Fm.out.cell 9 (.slice D ld cd) rfl
  have c0 := Fc.out.cell 0 (.slice A1 na qa) rfl
  have c1 := Fc.out.cell 1 (.slice B1 nb qb) rfl
  have c2 := Fc.out.cell 2 (.slice C1 nc qc) rfl
  have x0 := Fx.out.cell 0 (.int .i64 s) rfl
  have x1 := Fx.out.cell 1 (.int .i64 cell) rfl
  have x2 := Fx.out.cell 2 (.int .i64 cur) rfl
  go_wp2_with fail
  refine (HBr.out _).mono ?_
  rintro e w1 ⟨rfl, hb⟩
  clear m0 m1 m2 m3 m4 m5 m6 m7 m8 m9 c0 c1 c2 x0 x1 x2
  have Gm := Lib.hid (Fm.out.below hb)
  clear Fm
  have Fm := Lib.hid Gm.out
  clear Gm
  have Gc := Lib.hid (Fc.out.below hb)
  clear Fc
  have Fc := Lib.hid Gc.out
  clear Gc
  have Gx := Lib.hid (Fx.out.below hb)
  clear Fx
  have Fx := Lib.hid Gx.out
  clear Gx
  have m0 := Fm.out.cell 0 (.string name) rfl
  have m1 := Fm.out.cell 1 (.slice A la ca) rfl
  have m2 := Fm.out.cell 2 (.slice B lb cb) rfl
  have m3 := Fm.out.cell 3 (.slice Cl lc cl) rfl
  have m4 := Fm.out.cell 4 (.int .i64 r) rfl
  have m5 := Fm.out.cell 5 (.int .i64 z) rfl
  have m6 := Fm.out.cell 6 (.int .i64 nr) rfl
  have m7 := Fm.out.cell 7 (.int .i64 nz) rfl
  have m8 := Fm.out.cell 8 (.int .i64 step) rfl
  have m9 := Fm.out.cell 9 (.slice D ld cd) rfl
  have c0 := Fc.out.cell 0 (.slice A1 na qa) rfl
  have c1 := Fc.out.cell 1 (.slice B1 nb qb) rfl
  have c2 := Fc.out.cell 2 (.slice C1 nc qc) rfl
  have x0 := Fx.out.cell 0 (.int .i64 s) rfl
  have x1 := Fx.out.cell 1 (.int .i64 cell) rfl
  have x2 := Fx.out.cell 2 (.int .i64 cur) rfl
  have hBw1 := hB0.trans (hb.mono hB0.size)
  have szw1 := hb.size
  clear hb HBr
  go_wp2_with fail
  refine (JB1.out _ (by (with_reducible repeat first | exact Below.refl _ _ | assumption | ((first | refine Below.setCell ?_ ?_ _ | refine Below.alloc ?_ ?_ _); rotate_left; exact (by first | omega | (simp; done) | (simp; omega))) | refine Below.drew ?_ | refine Below_drewN ?_ _))).mono ?_
  rintro e w2 ⟨rfl, hb⟩
  clear m0 m1 m2 m3 m4 m5 m6 m7 m8 m9 c0 c1 c2 x0 x1 x2
  have Gm := Lib.hid (Fm.out.below hb)
  clear Fm
  have Fm := Lib.hid Gm.out
  clear Gm
  have Gc := Lib.hid (Fc.out.below hb)
  clear Fc
  have Fc := Lib.hid Gc.out
  clear Gc
  have Gx := Lib.hid (Fx.out.below hb)
  clear Fx
  have Fx := Lib.hid Gx.out
  clear Gx
  have m0 := Fm.out.cell 0 (.string name) rfl
  have m1 := Fm.out.cell 1 (.slice A la ca) rfl
  have m2 := Fm.out.cell 2 (.slice B lb cb) rfl
  have m3 := Fm.out.cell 3 (.slice Cl lc cl) rfl
  have m4 := Fm.out.cell 4 (.int .i64 r) rfl
  have m5 := Fm.out.cell 5 (.int .i64 z) rfl
  have m6 := Fm.out.cell 6 (.int .i64 nr) rfl
  have m7 := Fm.out.cell 7 (.int .i64 nz) rfl
  have m8 := Fm.out.cell 8 (.int .i64 step) rfl
  have m9 := Fm.out.cell 9 (.slice D ld cd) rfl
  have c0 := Fc.out.cell 0 (.slice A1 na qa) rfl
  have c1 := Fc.out.cell 1 (.slice B1 nb qb) rfl
  have c2 := Fc.out.cell 2 (.slice C1 nc qc) rfl
  have x0 := Fx.out.cell 0 (.int .i64 s) rfl
  have x1 := Fx.out.cell 1 (.int .i64 cell) rfl
  have x2 := Fx.out.cell 2 (.int .i64 cur) rfl
  have hBw2 := hBw1.trans (hb.mono hBw1.size)
  have szw2 := hb.size
  clear hb JB1
  go_wp2_with fail
  refine (JB2.out _ (by (with_reducible repeat first | exact Below.refl _ _ | assumption | ((first | refine Below.setCell ?_ ?_ _ | refine Below.alloc ?_ ?_ _); rotate_left; exact (by first | omega | (simp; done) | (simp; omega))) | refine Below.drew ?_ | refine Below_drewN ?_ _))).mono ?_
  rintro e w3 ⟨rfl, hb⟩
  clear m0 m1 m2 m3 m4 m5 m6 m7 m8 m9 c0 c1 c2 x0 x1 x2
  have Gm := Lib.hid (Fm.out.below hb)
  clear Fm
  have Fm := Lib.hid Gm.out
  clear Gm
  have Gc := Lib.hid (Fc.out.below hb)
  clear Fc
  have Fc := Lib.hid Gc.out
  clear Gc
  have Gx := Lib.hid (Fx.out.below hb)
  clear Fx
  have Fx := Lib.hid Gx.out
  clear Gx
  have m0 := Fm.out.cell 0 (.string name) rfl
  have m1 := Fm.out.cell 1 (.slice A la ca) rfl
  have m2 := Fm.out.cell 2 (.slice B lb cb) rfl
  have m3 := Fm.out.cell 3 (.slice Cl lc cl) rfl
  have m4 := Fm.out.cell 4 (.int .i64 r) rfl
  have m5 := Fm.out.cell 5 (.int .i64 z) rfl
  have m6 := Fm.out.cell 6 (.int .i64 nr) rfl
  have m7 := Fm.out.cell 7 (.int .i64 nz) rfl
  have m8 := Fm.out.cell 8 (.int .i64 step) rfl
  have m9 := Fm.out.cell 9 (.slice D ld cd) rfl
  have c0 := Fc.out.cell 0 (.slice A1 na qa) rfl
  have c1 := Fc.out.cell 1 (.slice B1 nb qb) rfl
  have c2 := Fc.out.cell 2 (.slice C1 nc qc) rfl
  have x0 := Fx.out.cell 0 (.int .i64 s) rfl
  have x1 := Fx.out.cell 1 (.int .i64 cell) rfl
  have x2 := Fx.out.cell 2 (.int .i64 cur) rfl
  have hBw3 := hBw2.trans (hb.mono hBw2.size)
  have szw3 := hb.size
  clear hb JB2
  go_wp2_with fail
  refine (JR1.out _ (by (with_reducible repeat first | exact Below.refl _ _ | assumption | ((first | refine Below.setCell ?_ ?_ _ | refine Below.alloc ?_ ?_ _); rotate_left; exact (by first | omega | (simp; done) | (simp; omega))) | refine Below.drew ?_ | refine Below_drewN ?_ _))).mono ?_
  rintro e w4 ⟨rfl, hb⟩
  clear m0 m1 m2 m3 m4 m5 m6 m7 m8 m9 c0 c1 c2 x0 x1 x2
  have Gm := Lib.hid (Fm.out.below hb)
  clear Fm
  have Fm := Lib.hid Gm.out
  clear Gm
  have Gc := Lib.hid (Fc.out.below hb)
  clear Fc
  have Fc := Lib.hid Gc.out
  clear Gc
  have Gx := Lib.hid (Fx.out.below hb)
  clear Fx
  have Fx := Lib.hid Gx.out
  clear Gx
  have m0 := Fm.out.cell 0 (.string name) rfl
  have m1 := Fm.out.cell 1 (.slice A la ca) rfl
  have m2 := Fm.out.cell 2 (.slice B lb cb) rfl
  have m3 := Fm.out.cell 3 (.slice Cl lc cl) rfl
  have m4 := Fm.out.cell 4 (.int .i64 r) rfl
  have m5 := Fm.out.cell 5 (.int .i64 z) rfl
  have m6 := Fm.out.cell 6 (.int .i64 nr) rfl
  have m7 := Fm.out.cell 7 (.int .i64 nz) rfl
  have m8 := Fm.out.cell 8 (.int .i64 step) rfl
  have m9 := Fm.out.cell 9 (.slice D ld cd) rfl
  have c0 := Fc.out.cell 0 (.slice A1 na qa) rfl
  have c1 := Fc.out.cell 1 (.slice B1 nb qb) rfl
  have c2 := Fc.out.cell 2 (.slice C1 nc qc) rfl
  have x0 := Fx.out.cell 0 (.int .i64 s) rfl
  have x1 := Fx.out.cell 1 (.int .i64 cell) rfl
  have x2 := Fx.out.cell 2 (.int .i64 cur) rfl
  have hBw4 := hBw3.trans (hb.mono hBw3.size)
  have szw4 := hb.size
  clear hb JR1
  go_wp2_with fail
  refine (JR2.out _ (by (with_reducible repeat first | exact Below.refl _ _ | assumption | ((first | refine Below.setCell ?_ ?_ _ | refine Below.alloc ?_ ?_ _); rotate_left; exact (by first | omega | (simp; done) | (simp; omega))) | refine Below.drew ?_ | refine Below_drewN ?_ _))).mono ?_
  rintro e w5 ⟨rfl, hb⟩
  clear m0 m1 m2 m3 m4 m5 m6 m7 m8 m9 c0 c1 c2 x0 x1 x2
  have Gm := Lib.hid (Fm.out.below hb)
  clear Fm
  have Fm := Lib.hid Gm.out
  clear Gm
  have Gc := Lib.hid (Fc.out.below hb)
  clear Fc
  have Fc := Lib.hid Gc.out
  clear Gc
  have Gx := Lib.hid (Fx.out.below hb)
  clear Fx
  have Fx := Lib.hid Gx.out
  clear Gx
  have m0 := Fm.out.cell 0 (.string name) rfl
  have m1 := Fm.out.cell 1 (.slice A la ca) rfl
  have m2 := Fm.out.cell 2 (.slice B lb cb) rfl
  have m3 := Fm.out.cell 3 (.slice Cl lc cl) rfl
  have m4 := Fm.out.cell 4 (.int .i64 r) rfl
  have m5 := Fm.out.cell 5 (.int .i64 z) rfl
  have m6 := Fm.out.cell 6 (.int .i64 nr) rfl
  have m7 := Fm.out.cell 7 (.int .i64 nz) rfl
  have m8 := Fm.out.cell 8 (.int .i64 step) rfl
  have m9 := Fm.out.cell 9 (.slice D ld cd) rfl
  have c0 := Fc.out.cell 0 (.slice A1 na qa) rfl
  have c1 := Fc.out.cell 1 (.slice B1 nb qb) rfl
  have c2 := Fc.out.cell 2 (.slice C1 nc qc) rfl
  have x0 := Fx.out.cell 0 (.int .i64 s) rfl
  have x1 := Fx.out.cell 1 (.int .i64 cell) rfl
  have x2 := Fx.out.cell 2 (.int .i64 cur) rfl
  have hBw5 := hBw4.trans (hb.mono hBw4.size)
  have szw5 := hb.size
  clear hb JR2
  go_wp2_with fail
  refine (JF1.out _ (by (with_reducible repeat first | exact Below.refl _ _ | assumption | ((first | refine Below.setCell ?_ ?_ _ | refine Below.alloc ?_ ?_ _); rotate_left; exact (by first | omega | (simp; done) | (simp; omega))) | refine Below.drew ?_ | refine Below_drewN ?_ _))).mono ?_
  rintro e w6 ⟨⟨dA, dB, dC, da, ea, db, eb, dc, ec⟩, rfl, hd, hb⟩
  clear m0 m1 m2 m3 m4 m5 m6 m7 m8 m9 c0 c1 c2 x0 x1 x2
  have Gm := Lib.hid (Fm.out.below hb)
  clear Fm
  have Fm := Lib.hid Gm.out
  clear Gm
  have Gc := Lib.hid (Fc.out.below hb)
  clear Fc
  have Fc := Lib.hid Gc.out
  clear Gc
  have Gx := Lib.hid (Fx.out.below hb)
  clear Fx
  have Fx := Lib.hid Gx.out
  clear Gx
  have m0 := Fm.out.cell 0 (.string name) rfl
  have m1 := Fm.out.cell 1 (.slice A la ca) rfl
  have m2 := Fm.out.cell 2 (.slice B lb cb) rfl
  have m3 := Fm.out.cell 3 (.slice Cl lc cl) rfl
  have m4 := Fm.out.cell 4 (.int .i64 r) rfl
  have m5 := Fm.out.cell 5 (.int .i64 z) rfl
  have m6 := Fm.out.cell 6 (.int .i64 nr) rfl
  have m7 := Fm.out.cell 7 (.int .i64 nz) rfl
  have m8 := Fm.out.cell 8 (.int .i64 step) rfl
  have m9 := Fm.out.cell 9 (.slice D ld cd) rfl
  have c0 := Fc.out.cell 0 (.slice A1 na qa) rfl
  have c1 := Fc.out.cell 1 (.slice B1 nb qb) rfl
  have c2 := Fc.out.cell 2 (.slice C1 nc qc) rfl
  have x0 := Fx.out.cell 0 (.int .i64 s) rfl
  have x1 := Fx.out.cell 1 (.int .i64 cell) rfl
  have x2 := Fx.out.cell 2 (.int .i64 cur) rfl
  have hBw6 := hBw5.trans (hb.mono hBw5.size)
  have szw6 := hb.size
  have Hd := Lib.hid hd
  clear hb hd JF1
  go_upto_region 12 with (fail)
  have Fd : Hid (RowL (w6.heap.size) [.slice dA da ea, .slice dB db eb, .slice dC dc ec] (w6.alloc (.cells #[.slice dA da ea, .slice dB db eb, .slice dC dc ec] 32))) := Lib.hid (by have h := RowL.new w6 #[.slice dA da ea, .slice dB db eb, .slice dC dc ec] 32; (try simp only [World.size_alloc] at h); exact h)
  have hb7 : Below w6.heap.size w6 (w6.alloc (.cells #[.slice dA da ea, .slice dB db eb, .slice dC dc ec] 32)) := by (with_reducible repeat first | exact Below.refl _ _ | assumption | ((first | refine Below.setCell ?_ ?_ _ | refine Below.alloc ?_ ?_ _); rotate_left; exact (by first | omega | (simp; done) | (simp; omega))) | refine Below.drew ?_ | refine Below_drewN ?_ _)
  have sW7 : w6.heap.size < (w6.alloc (.cells #[.slice dA da ea, .slice dB db eb, .slice dC dc ec] 32)).heap.size := by simp only [World.size_alloc]; omega
  obtain ⟨W7, hW7⟩ : ∃ W, (w6.alloc (.cells #[.slice dA da ea, .slice dB db eb, .slice dC dc ec] 32)) = W := ⟨_, rfl⟩
  rw [hW7] at Fd hb7 sW7 ⊢
  clear hW7
  clear m0 m1 m2 m3 m4 m5 m6 m7 m8 m9 c0 c1 c2 x0 x1 x2
  have Gm := Lib.hid (Fm.out.below hb7)
  clear Fm
  have Fm := Lib.hid Gm.out
  clear Gm
  have Gc := Lib.hid (Fc.out.below hb7)
  clear Fc
  have Fc := Lib.hid Gc.out
  clear Gc
  have Gx := Lib.hid (Fx.out.below hb7)
  clear Fx
  have Fx := Lib.hid Gx.out
  clear Gx
  have m0 := Fm.out.cell 0 (.string name) rfl
  have m1 := Fm.out.cell 1 (.slice A la ca) rfl
  have m2 := Fm.out.cell 2 (.slice B lb cb) rfl
  have m3 := Fm.out.cell 3 (.slice Cl lc cl) rfl
  have m4 := Fm.out.cell 4 (.int .i64 r) rfl
  have m5 := Fm.out.cell 5 (.int .i64 z) rfl
  have m6 := Fm.out.cell 6 (.int .i64 nr) rfl
  have m7 := Fm.out.cell 7 (.int .i64 nz) rfl
  have m8 := Fm.out.cell 8 (.int .i64 step) rfl
  have m9 := Fm.out.cell 9 (.slice D ld cd) rfl
  have c0 := Fc.out.cell 0 (.slice A1 na qa) rfl
  have c1 := Fc.out.cell 1 (.slice B1 nb qb) rfl
  have c2 := Fc.out.cell 2 (.slice C1 nc qc) rfl
  have x0 := Fx.out.cell 0 (.int .i64 s) rfl
  have x1 := Fx.out.cell 1 (.int .i64 cell) rfl
  have x2 := Fx.out.cell 2 (.int .i64 cur) rfl
  have d0 := Fd.out.cell 0 (.slice dA da ea) rfl
  have d1 := Fd.out.cell 1 (.slice dB db eb) rfl
  have d2 := Fd.out.cell 2 (.slice dC dc ec) rfl
  have hBW7 := hBw6.trans (hb7.mono hBw6.size)
  have hd7 := Hd.out.below hb7
  have Hd7 := Lib.hid hd7
  have sz7 := hb7.size
  clear hb7 hd7 Hd
  go_wp2_with fail
  refine (JF2.out _ (by (with_reducible repeat first | exact Below.refl _ _ | assumption | ((first | refine Below.setCell ?_ ?_ _ | refine Below.alloc ?_ ?_ _); rotate_left; exact (by first | omega | (simp; done) | (simp; omega))) | refine Below.drew ?_ | refine Below_drewN ?_ _))).mono ?_
  rintro e w8 ⟨⟨kA, kB, kC, ka, fa, kb, fb, kc, fc⟩, rfl, hk, hb⟩
  clear m0 m1 m2 m3 m4 m5 m6 m7 m8 m9 c0 c1 c2 x0 x1 x2 d0 d1 d2
  have Gm := Lib.hid (Fm.out.below hb)
  clear Fm
  have Fm := Lib.hid Gm.out
  clear Gm
  have Gc := Lib.hid (Fc.out.below hb)
  clear Fc
  have Fc := Lib.hid Gc.out
  clear Gc
  have Gx := Lib.hid (Fx.out.below hb)
  clear Fx
  have Fx := Lib.hid Gx.out
  clear Gx
  have Gd := Lib.hid (Fd.out.below hb)
  clear Fd
  have Fd := Lib.hid Gd.out
  clear Gd
  have m0 := Fm.out.cell 0 (.string name) rfl
  have m1 := Fm.out.cell 1 (.slice A la ca) rfl
  have m2 := Fm.out.cell 2 (.slice B lb cb) rfl
  have m3 := Fm.out.cell 3 (.slice Cl lc cl) rfl
  have m4 := Fm.out.cell 4 (.int .i64 r) rfl
  have m5 := Fm.out.cell 5 (.int .i64 z) rfl
  have m6 := Fm.out.cell 6 (.int .i64 nr) rfl
  have m7 := Fm.out.cell 7 (.int .i64 nz) rfl
  have m8 := Fm.out.cell 8 (.int .i64 step) rfl
  have m9 := Fm.out.cell 9 (.slice D ld cd) rfl
  have c0 := Fc.out.cell 0 (.slice A1 na qa) rfl
  have c1 := Fc.out.cell 1 (.slice B1 nb qb) rfl
  have c2 := Fc.out.cell 2 (.slice C1 nc qc) rfl
  have x0 := Fx.out.cell 0 (.int .i64 s) rfl
  have x1 := Fx.out.cell 1 (.int .i64 cell) rfl
  have x2 := Fx.out.cell 2 (.int .i64 cur) rfl
  have d0 := Fd.out.cell 0 (.slice dA da ea) rfl
  have d1 := Fd.out.cell 1 (.slice dB db eb) rfl
  have d2 := Fd.out.cell 2 (.slice dC dc ec) rfl
  have hBw8 := hBW7.trans (hb.mono hBW7.size)
  have szw8 := hb.size
  have hd8 := Hd7.out.below hb
  have Hd8 := Lib.hid hd8
  have Hk := Lib.hid hk
  clear hb hk hd8 Hd7 JF2
  go_upto_region 13 with (fail)
  have Fk : Hid (RowL (w8.heap.size) [.slice kA ka fa, .slice kB kb fb, .slice kC kc fc] (w8.alloc (.cells #[.slice kA ka fa, .slice kB kb fb, .slice kC kc fc] 32))) := Lib.hid (by have h := RowL.new w8 #[.slice kA ka fa, .slice kB kb fb, .slice kC kc fc] 32; (try simp only [World.size_alloc] at h); exact h)
  have hb9 : Below w8.heap.size w8 (w8.alloc (.cells #[.slice kA ka fa, .slice kB kb fb, .slice kC kc fc] 32)) := by (with_reducible repeat first | exact Below.refl _ _ | assumption | ((first | refine Below.setCell ?_ ?_ _ | refine Below.alloc ?_ ?_ _); rotate_left; exact (by first | omega | (simp; done) | (simp; omega))) | refine Below.drew ?_ | refine Below_drewN ?_ _)
  have sW9 : w8.heap.size < (w8.alloc (.cells #[.slice kA ka fa, .slice kB kb fb, .slice kC kc fc] 32)).heap.size := by simp only [World.size_alloc]; omega
  obtain ⟨W9, hW9⟩ : ∃ W, (w8.alloc (.cells #[.slice kA ka fa, .slice kB kb fb, .slice kC kc fc] 32)) = W := ⟨_, rfl⟩
  rw [hW9] at Fk hb9 sW9 ⊢
  clear hW9
  clear m0 m1 m2 m3 m4 m5 m6 m7 m8 m9 c0 c1 c2 x0 x1 x2 d0 d1 d2
  have Gd := Lib.hid (Fd.out.below hb9)
  clear Fd
  have Fd := Lib.hid Gd.out
  clear Gd
  have d0 := Fd.out.cell 0 (.slice dA da ea) rfl
  have d1 := Fd.out.cell 1 (.slice dB db eb) rfl
  have d2 := Fd.out.cell 2 (.slice dC dc ec) rfl
  have k0 := Fk.out.cell 0 (.slice kA ka fa) rfl
  have k1 := Fk.out.cell 1 (.slice kB kb fb) rfl
  have k2 := Fk.out.cell 2 (.slice kC kc fc) rfl
  have hBW9 := hBw8.trans (hb9.mono hBw8.size)
  have hd9 := Hd8.out.below hb9
  have hk9 := Hk.out.below hb9
  have HSC := Lib.hid (show Calls Tryd.prog 14 #[.agg #[.slice dA da ea, .slice dB db eb, .slice dC dc ec], .agg #[.slice kA ka fa, .slice kB kb fb, .slice kC kc fc]] W9 (Ret (.bool (decide (DD.coils = DD.coils) && (decide (DD.shells = DD.shells) && decide (DD.plasma = DD.plasma)))) W9) from rsameC_any ⟨dA, dB, dC, da, ea, db, eb, dc, ec⟩ ⟨kA, kB, kC, ka, fa, kb, fb, kc, fc⟩ DD DD W9 hd9 hk9)
  simp only [decide_true, Bool.and_self] at HSC
  have sz9 := hb9.size
  clear hb9 hd9 hk9 Hd8 Hk
  go_wp2_with fail
  refine HSC.out.mono ?_
  rintro e w10 ⟨rfl, hb⟩
  have hB10 := hBW9.trans (hb.mono hBW9.size)
  clear hb
  go_wp2_with fail
  refine (awake_any _).mono ?_
  rintro e w11 ⟨rfl, hb⟩
  have hB11 := hB10.trans (hb.mono hB10.size)
  clear hb
  go_wp2_with fail
  go_ret
  exact ⟨rfl, by (with_reducible repeat first | exact Below.refl _ _ | assumption | ((first | refine Below.setCell ?_ ?_ _ | refine Below.alloc ?_ ?_ _); rotate_left; exact (by first | omega | (simp; done) | (simp; omega))) | refine Below.drew ?_ | refine Below_drewN ?_ _)⟩

end Go.Proofs.YtfpjhobhmcfpnaaDoor
end
section
/- The frame of the laws over spans: how an argument that is a span or a Pair is opened and shut, over this seat's translation. -/
namespace Go.Proofs.YtfpjhobhmcfpnaaDoor
set_option linter.unusedVariables false
set_option linter.unusedSimpArgs false
set_option maxRecDepth 100000
open Go.ChangeShapes Go.WideShapes Go.ChangeAt Go.RowKit Go.Joins

theorem own : ownKnob Tryd.prog.godebug = none := by kernel_rfl
theorem cells_int : Tryd.prog.cellsOf 3 = 1 := by kernel_rfl

section
variable {H : Type} {enc : TypeId × Value → H}

end
end Go.Proofs.YtfpjhobhmcfpnaaDoor
end
section
/- The frame of the laws over pairs: how an argument that is a list of items of n cells is opened, over this seat's translation. -/
namespace Go.Proofs.YtfpjhobhmcfpnaaDoor
set_option linter.unusedVariables false
set_option linter.unusedSimpArgs false
set_option maxRecDepth 100000
open Go.ChangeShapes Go.WideShapes Go.ChangeAt Go.RowKit Go.Joins Go.Deep

section
variable {H : Type} {enc : TypeId × Value → H}

/-- A list that reads is a list of items, where each item that reads is one. -/
theorem open_isT {α : Type} {E : α → List Value} {n : Nat} (h0 : ∀ x, (E x).length = n) {t e : TypeId} {W : World} {b0 : Nat} {r : Reach} {v : Value} {d : DataW H} {p : List MemPlace}
    (ht : Tryd.prog.underlying t = some (.slice e)) (hc : Tryd.prog.cellsOf e = n) (hn : 0 < n)
    (dec : ∀ (fuel : Nat) (cs : List Value) (y : DataW H × List MemPlace), DataW.trod enc Tryd.prog W 0 (fun _ => true) true fuel e cs = some y → ∃ x : α, cs = E x)
    (hv : Value.okWide Tryd.prog W r b0 t v) (h : DataW.Trod enc Tryd.prog W 0 (fun _ => true) true t v d p) :
    ∃ (A : Option Addr) (len cap : Nat) (zs : List α), v = .slice A len cap ∧ IsT n E W A len zs ∧ len ≤ maxLen ∧ len ≤ cap ∧ cap ≤ maxLen := by
  obtain ⟨a, len, cap, rfl⟩ := okWide_slice ht hv
  obtain ⟨fuel, hf⟩ := h
  rcases open_slice ht hf with ⟨hcs, hx⟩ | ⟨a', len', cap', m, k, D, Pl, hcs, hb, hl, hm, hmm, hx, hi⟩
  · have hcs : [Value.slice a len cap] = [Value.slice none 0 0] := hcs
    injection hcs with hcs _
    injection hcs with e1 e2 e3
    subst e1 e2 e3
    exact ⟨_, _, _, [], rfl, IsT.nil _ _ _ _, Nat.zero_le _, Nat.zero_le _, Nat.zero_le _⟩
  · have hcs : [Value.slice a len cap] = [Value.slice (some a') len' cap'] := hcs
    injection hcs with hcs _
    injection hcs with e1 e2 e3
    subst e1 e2 e3
    simp only [if_true] at hmm
    subst hmm
    have each : ∀ i, i < len → ∃ x : α, ∀ j, j < n → W.cell? (a'.add (i * n + j)) = (E x)[j]? := fun i hil => by
      obtain ⟨cs', h1, h2⟩ := hi i (by omega)
      obtain ⟨x, rfl⟩ := dec _ _ _ h2
      rw [hc] at h1
      obtain ⟨_, _, hcell⟩ := World.cells?_some h1
      refine ⟨x, fun j hj => ?_⟩
      have := hcell j hj
      rwa [add_add] at this
    by_cases hz : len = 0
    · subst hz
      exact ⟨_, _, _, [], rfl, IsT.nil _ _ _ _, Nat.zero_le _, Nat.zero_le _, hm⟩
    · obtain ⟨x0, _⟩ := each 0 (by omega)
      haveI : Inhabited α := ⟨x0⟩
      obtain ⟨z, hz'⟩ := choose_lt each
      refine ⟨_, _, _, (List.range len).map z, rfl, ⟨by simp, fun _ => ?_⟩, Nat.le_trans hl hm, hl, hm⟩
      have c0 := hz' 0 (by omega) 0 hn
      obtain ⟨v0, hv0⟩ : ∃ v0, (E (z 0))[0]? = some v0 := ⟨_, List.getElem?_eq_getElem (by rw [h0]; exact hn)⟩
      rw [hv0] at c0
      have hlt := World.block_lt_of_cell? W _ c0
      have hsp := World.cell?_spot c0
      obtain ⟨b, off, spot⟩ := a'
      have hspot : spot = none := by simpa [Addr.add] using hsp
      subst hspot
      rw [block_add] at hlt
      refine ⟨b, off, rfl, hlt, fun j x hx i v hv => ?_⟩
      have hj : j < len := by
        have := (List.getElem?_eq_some_iff.1 hx).1
        simpa using this
      have hx' : x = z j := by
        rw [List.getElem?_map, List.getElem?_range hj] at hx
        simpa using hx.symm
      subst hx'
      have hin : i < n := by
        have := (List.getElem?_eq_some_iff.1 hv).1
        rwa [h0] at this
      have := hz' j hj i hin
      rw [add_plain, hv] at this
      rw [← this]
      congr 2
      omega

end
end Go.Proofs.YtfpjhobhmcfpnaaDoor
end
section
/- The frame of the laws over machines: how arguments that are a machine, a list of faults, a list of spans are opened and shut, over this seat's translation (written by mk_opn.py). -/
namespace Go.Proofs.YtfpjhobhmcfpnaaDoor
set_option linter.unusedVariables false
set_option linter.unusedSimpArgs false
set_option maxRecDepth 100000
open Go.ChangeShapes Go.WideShapes Go.ChangeAt Go.RowKit Go.Joins Go.Deep

theorem cells_string : Tryd.prog.cellsOf 9 = 1 := by kernel_rfl

section
variable {H : Type} {enc : TypeId × Value → H}

/-- open_isT, from a reading of cells. -/
theorem open_isTc {α : Type} {E : α → List Value} {n : Nat} (h0 : ∀ x, (E x).length = n) {t e : TypeId} {W : World} {fuel : Nat} {cs : List Value} {y : DataW H × List MemPlace}
    (ht : Tryd.prog.underlying t = some (.slice e)) (hc : Tryd.prog.cellsOf e = n) (hn : 0 < n)
    (dec : ∀ (fuel : Nat) (cs : List Value) (y : DataW H × List MemPlace), DataW.trod enc Tryd.prog W 0 (fun _ => true) true fuel e cs = some y → ∃ x : α, cs = E x)
    (hf : DataW.trod enc Tryd.prog W 0 (fun _ => true) true fuel t cs = some y) :
    ∃ (A : Option Addr) (len cap : Nat) (zs : List α), cs = [.slice A len cap] ∧ IsT n E W A len zs ∧ len ≤ cap ∧ cap ≤ maxLen := by
  rcases open_slice ht hf with ⟨hcs, hx⟩ | ⟨a', len, cap, m, k, D, Pl, hcs, hb, hl, hm, hmm, hx, hi⟩
  · exact ⟨_, _, _, [], hcs, IsT.nil _ _ _ _, Nat.zero_le _, Nat.zero_le _⟩
  · simp only [if_true] at hmm
    subst hmm
    subst hcs
    have each : ∀ i, i < len → ∃ x : α, ∀ j, j < n → W.cell? (a'.add (i * n + j)) = (E x)[j]? := fun i hil => by
      obtain ⟨cs', h1, h2⟩ := hi i (by omega)
      obtain ⟨x, rfl⟩ := dec _ _ _ h2
      rw [hc] at h1
      obtain ⟨_, _, hcell⟩ := World.cells?_some h1
      refine ⟨x, fun j hj => ?_⟩
      have := hcell j hj
      rwa [add_add] at this
    by_cases hz : len = 0
    · subst hz
      exact ⟨_, _, _, [], rfl, IsT.nil _ _ _ _, Nat.zero_le _, hm⟩
    · obtain ⟨x0, _⟩ := each 0 (by omega)
      haveI : Inhabited α := ⟨x0⟩
      obtain ⟨z, hz'⟩ := choose_lt each
      refine ⟨_, _, _, (List.range len).map z, rfl, ⟨by simp, fun _ => ?_⟩, hl, hm⟩
      have c0 := hz' 0 (by omega) 0 hn
      obtain ⟨v0, hv0⟩ : ∃ v0, (E (z 0))[0]? = some v0 := ⟨_, List.getElem?_eq_getElem (by rw [h0]; exact hn)⟩
      rw [hv0] at c0
      have hlt := World.block_lt_of_cell? W _ c0
      have hsp := World.cell?_spot c0
      obtain ⟨b, off, spot⟩ := a'
      have hspot : spot = none := by simpa [Addr.add] using hsp
      subst hspot
      rw [block_add] at hlt
      refine ⟨b, off, rfl, hlt, fun j x hx i v hv => ?_⟩
      have hj : j < len := by
        have := (List.getElem?_eq_some_iff.1 hx).1
        simpa using this
      have hx' : x = z j := by
        rw [List.getElem?_map, List.getElem?_range hj] at hx
        simpa using hx.symm
      subst hx'
      have hin : i < n := by
        have := (List.getElem?_eq_some_iff.1 hv).1
        rwa [h0] at this
      have := hz' j hj i hin
      rw [add_plain, hv] at this
      rw [← this]
      congr 2
      omega

theorem dec_Coil {W : World} {base : Nat} {spare : Nat → Bool} {held : Bool} (fuel : Nat) (cs : List Value) (y : DataW H × List MemPlace)
    (h : DataW.trod enc Tryd.prog W base spare held fuel 151 cs = some y) : ∃ x : CoilD, cs = x.cells := by
  obtain ⟨xs, n, -, -, hl, hlen, hf⟩ := DataW.trod_struct Tryd.underlying151 h
  rw [show Tryd.prog.cellsOf 151 = 8 by kernel_rfl] at hl
  match xs, hlen with
  | [y0, y1, y2, y3, y4, y5, y6, y7], _ =>
    match cs, hl with
    | [c0, c1, c2, c3, c4, c5, c6, c7], _ =>
      obtain ⟨a0, e0, -, -⟩ := DataW.trod_string Tryd.underlying9 ((hf 0 _ rfl).trans (rfl : _ = some y0))
      obtain ⟨a1, e1, -, -⟩ := DataW.trod_int Tryd.underlying3 ((hf 1 _ rfl).trans (rfl : _ = some y1))
      obtain ⟨a2, e2, -, -⟩ := DataW.trod_int Tryd.underlying3 ((hf 2 _ rfl).trans (rfl : _ = some y2))
      obtain ⟨a3, e3, -, -⟩ := DataW.trod_int Tryd.underlying3 ((hf 3 _ rfl).trans (rfl : _ = some y3))
      obtain ⟨a4, e4, -, -⟩ := DataW.trod_int Tryd.underlying3 ((hf 4 _ rfl).trans (rfl : _ = some y4))
      obtain ⟨a5, e5, -, -⟩ := DataW.trod_int Tryd.underlying3 ((hf 5 _ rfl).trans (rfl : _ = some y5))
      obtain ⟨a6, e6, -, -⟩ := DataW.trod_int Tryd.underlying3 ((hf 6 _ rfl).trans (rfl : _ = some y6))
      obtain ⟨a7, e7, -, -⟩ := DataW.trod_int Tryd.underlying3 ((hf 7 _ rfl).trans (rfl : _ = some y7))
      simp [cells_int, cells_string] at e0
      simp [cells_int, cells_string] at e1
      simp [cells_int, cells_string] at e2
      simp [cells_int, cells_string] at e3
      simp [cells_int, cells_string] at e4
      simp [cells_int, cells_string] at e5
      simp [cells_int, cells_string] at e6
      simp [cells_int, cells_string] at e7
      subst e0 e1 e2 e3 e4 e5 e6 e7
      exact ⟨⟨a0, a1, a2, a3, a4, a5, a6, a7⟩, rfl⟩

theorem dec_Shell {W : World} {base : Nat} {spare : Nat → Bool} {held : Bool} (fuel : Nat) (cs : List Value) (y : DataW H × List MemPlace)
    (h : DataW.trod enc Tryd.prog W base spare held fuel 155 cs = some y) : ∃ x : ShellD, cs = x.cells := by
  obtain ⟨xs, n, -, -, hl, hlen, hf⟩ := DataW.trod_struct Tryd.underlying155 h
  rw [show Tryd.prog.cellsOf 155 = 4 by kernel_rfl] at hl
  match xs, hlen with
  | [y0, y1, y2, y3], _ =>
    match cs, hl with
    | [c0, c1, c2, c3], _ =>
      obtain ⟨a0, e0, -, -⟩ := DataW.trod_int Tryd.underlying3 ((hf 0 _ rfl).trans (rfl : _ = some y0))
      obtain ⟨a1, e1, -, -⟩ := DataW.trod_int Tryd.underlying3 ((hf 1 _ rfl).trans (rfl : _ = some y1))
      obtain ⟨a2, e2, -, -⟩ := DataW.trod_int Tryd.underlying3 ((hf 2 _ rfl).trans (rfl : _ = some y2))
      obtain ⟨a3, e3, -, -⟩ := DataW.trod_int Tryd.underlying3 ((hf 3 _ rfl).trans (rfl : _ = some y3))
      simp [cells_int, cells_string] at e0
      simp [cells_int, cells_string] at e1
      simp [cells_int, cells_string] at e2
      simp [cells_int, cells_string] at e3
      subst e0 e1 e2 e3
      exact ⟨⟨a0, a1, a2, a3⟩, rfl⟩

theorem dec_Point {W : World} {base : Nat} {spare : Nat → Bool} {held : Bool} (fuel : Nat) (cs : List Value) (y : DataW H × List MemPlace)
    (h : DataW.trod enc Tryd.prog W base spare held fuel 76 cs = some y) : ∃ x : PointD, cs = x.cells := by
  obtain ⟨xs, n, -, -, hl, hlen, hf⟩ := DataW.trod_struct Tryd.underlying76 h
  rw [show Tryd.prog.cellsOf 76 = 2 by kernel_rfl] at hl
  match xs, hlen with
  | [y0, y1], _ =>
    match cs, hl with
    | [c0, c1], _ =>
      obtain ⟨a0, e0, -, -⟩ := DataW.trod_int Tryd.underlying3 ((hf 0 _ rfl).trans (rfl : _ = some y0))
      obtain ⟨a1, e1, -, -⟩ := DataW.trod_int Tryd.underlying3 ((hf 1 _ rfl).trans (rfl : _ = some y1))
      simp [cells_int, cells_string] at e0
      simp [cells_int, cells_string] at e1
      subst e0 e1
      exact ⟨⟨a0, a1⟩, rfl⟩

theorem dec_Sensor {W : World} {base : Nat} {spare : Nat → Bool} {held : Bool} (fuel : Nat) (cs : List Value) (y : DataW H × List MemPlace)
    (h : DataW.trod enc Tryd.prog W base spare held fuel 78 cs = some y) : ∃ x : SensorD, cs = x.cells := by
  obtain ⟨xs, n, -, -, hl, hlen, hf⟩ := DataW.trod_struct Tryd.underlying78 h
  rw [show Tryd.prog.cellsOf 78 = 5 by kernel_rfl] at hl
  match xs, hlen with
  | [y0, y1, y2, y3, y4], _ =>
    match cs, hl with
    | [c0, c1, c2, c3, c4], _ =>
      obtain ⟨a0, e0, -, -⟩ := DataW.trod_string Tryd.underlying9 ((hf 0 _ rfl).trans (rfl : _ = some y0))
      obtain ⟨a1, e1, -, -⟩ := DataW.trod_int Tryd.underlying3 ((hf 1 _ rfl).trans (rfl : _ = some y1))
      obtain ⟨a2, e2, -, -⟩ := DataW.trod_int Tryd.underlying3 ((hf 2 _ rfl).trans (rfl : _ = some y2))
      obtain ⟨a3, e3, -, -⟩ := DataW.trod_int Tryd.underlying3 ((hf 3 _ rfl).trans (rfl : _ = some y3))
      obtain ⟨a4, e4, -, -⟩ := DataW.trod_int Tryd.underlying3 ((hf 4 _ rfl).trans (rfl : _ = some y4))
      simp [cells_int, cells_string] at e0
      simp [cells_int, cells_string] at e1
      simp [cells_int, cells_string] at e2
      simp [cells_int, cells_string] at e3
      simp [cells_int, cells_string] at e4
      subst e0 e1 e2 e3 e4
      exact ⟨⟨a0, a1, a2, a3, a4⟩, rfl⟩

/-- A machine that reads: its lists, whatever their lengths. -/
structure OpM (w : World) (R : MachR) (M : MachD) : Prop where
  coils : IsT 8 CoilD.cells w R.A R.la M.coils
  shells : IsT 4 ShellD.cells w R.B R.lb M.shells
  limits : IsT 2 PointD.cells w R.C R.lc M.limits
  sensors : IsT 5 SensorD.cells w R.D R.ld M.sensors
  la : R.la ≤ R.ca
  lb : R.lb ≤ R.cb
  lc : R.lc ≤ R.cc
  ld : R.ld ≤ R.cd
  ca : R.ca ≤ 9223372036854775807
  cb : R.cb ≤ 9223372036854775807
  cc : R.cc ≤ 9223372036854775807
  cd : R.cd ≤ 9223372036854775807
theorem OpM.isM {w : World} {R : MachR} {M : MachD} (h : OpM w R M) (ka : R.la ≤ 1000000000000000) (kb : R.lb ≤ 1000000000000000) (kc : R.lc ≤ 1000000000000000) (kd : R.ld ≤ 1000000000000000) : IsM w R M :=
  ⟨h.coils, h.shells, h.limits, h.sensors, h.la, h.lb, h.lc, h.ld, h.ca, h.cb, h.cc, h.cd, ka, kb, kc, kd⟩

theorem open_machine {W : World} {b0 : Nat} {r : Reach} {v : Value} {d : DataW H} {p : List MemPlace}
    (hv : Value.okWide Tryd.prog W r b0 29 v) (h : DataW.Trod enc Tryd.prog W 0 (fun _ => true) true 29 v d p) :
    ∃ (R : MachR) (M : MachD), v = .agg (machCells R M) ∧ OpM W R M := by
  obtain ⟨⟨cs⟩, rfl, hsz⟩ := okWide_struct Tryd.underlying29 hv
  obtain ⟨fuel, hf0⟩ := h
  have hf1 : DataW.trod enc Tryd.prog W 0 (fun _ => true) true fuel 29 cs = some (d, p) := hf0
  obtain ⟨xs, n, -, -, hl, hlen, hf⟩ := DataW.trod_struct Tryd.underlying29 hf1
  rw [show Tryd.prog.cellsOf 29 = 10 by kernel_rfl] at hl
  match xs, hlen with
  | [y0, y1, y2, y3, y4, y5], _ =>
    match cs, hl with
    | [c0, c1, c2, c3, c4, c5, c6, c7, c8, c9], _ =>
      obtain ⟨name, e0, -, -⟩ := DataW.trod_string Tryd.underlying9 ((hf 0 _ rfl).trans (rfl : _ = some y0))
      obtain ⟨A, la, ca, coils, e1, h1, k1, m1⟩ := open_isTc (n := 8) (E := CoilD.cells) (fun _ => rfl) Tryd.underlying22 (by kernel_rfl) (by decide) dec_Coil ((hf 1 _ rfl).trans (rfl : _ = some y1))
      obtain ⟨B, lb, cb, shells, e2, h2, k2, m2⟩ := open_isTc (n := 4) (E := ShellD.cells) (fun _ => rfl) Tryd.underlying23 (by kernel_rfl) (by decide) dec_Shell ((hf 2 _ rfl).trans (rfl : _ = some y2))
      obtain ⟨C, lc, cc, limits, e3, h3, k3, m3⟩ := open_isTc (n := 2) (E := PointD.cells) (fun _ => rfl) Tryd.underlying24 (by kernel_rfl) (by decide) dec_Point ((hf 3 _ rfl).trans (rfl : _ = some y3))
      obtain ⟨D, ld, cd, sensors, e5, h5, k5, m5⟩ := open_isTc (n := 5) (E := SensorD.cells) (fun _ => rfl) Tryd.underlying27 (by kernel_rfl) (by decide) dec_Sensor ((hf 5 _ rfl).trans (rfl : _ = some y5))
      obtain ⟨gs, gn, -, -, gl, glen, gf⟩ := DataW.trod_struct Tryd.underlying26 ((hf 4 _ rfl).trans (rfl : _ = some y4))
      match gs, glen with
      | [z0, z1, z2, z3, z4], _ =>
        obtain ⟨a0, f0, -, -⟩ := DataW.trod_int Tryd.underlying3 ((gf 0 _ rfl).trans (rfl : _ = some z0))
        obtain ⟨a1, f1, -, -⟩ := DataW.trod_int Tryd.underlying3 ((gf 1 _ rfl).trans (rfl : _ = some z1))
        obtain ⟨a2, f2, -, -⟩ := DataW.trod_int Tryd.underlying3 ((gf 2 _ rfl).trans (rfl : _ = some z2))
        obtain ⟨a3, f3, -, -⟩ := DataW.trod_int Tryd.underlying3 ((gf 3 _ rfl).trans (rfl : _ = some z3))
        obtain ⟨a4, f4, -, -⟩ := DataW.trod_int Tryd.underlying3 ((gf 4 _ rfl).trans (rfl : _ = some z4))
        have cg : Tryd.prog.cellsOf 26 = 5 := by kernel_rfl
        have cs1 : Tryd.prog.cellsOf 22 = 1 := by kernel_rfl
        have cs2 : Tryd.prog.cellsOf 23 = 1 := by kernel_rfl
        have cs3 : Tryd.prog.cellsOf 24 = 1 := by kernel_rfl
        have cs5 : Tryd.prog.cellsOf 27 = 1 := by kernel_rfl
        simp [cells_int, cells_string, cg, cs1, cs2, cs3, cs5] at e0 e1 e2 e3 e5 f0 f1 f2 f3 f4
        subst e0 e1 e2 e3 e5 f0 f1 f2 f3 f4
        unfold maxLen at m1 m2 m3 m5
        exact ⟨⟨A, B, C, D, la, ca, lb, cb, lc, cc, ld, cd⟩, ⟨name, coils, shells, limits, ⟨a0, a1, a2, a3, a4⟩, sensors⟩, rfl, h1, h2, h3, h5, k1, k2, k3, k5, m1, m2, m3, m5⟩

theorem shut_machine {W W' : World} {v : Value} {d : DataW H} {p : List MemPlace} (h : DataW.Trod enc Tryd.prog W 0 (fun _ => true) true 29 v d p) (hb : Below W.heap.size W W') (hlt : ∀ x ∈ p, x.block < W.heap.size) :
    DataW.Trod enc Tryd.prog W' 0 (fun b => decide (b < W.heap.size)) true 29 v d p :=
  Below.trod (by kernel_rfl) (by kernel_rfl) (of_decide_eq_true (by kernel_rfl)) h hb hlt
end
end Go.Proofs.YtfpjhobhmcfpnaaDoor
end
section
/- The frame of the laws over currents and spots: how such arguments are opened and shut, over this seat's translation. -/
namespace Go.Proofs.YtfpjhobhmcfpnaaDoor
set_option linter.unusedVariables false
set_option linter.unusedSimpArgs false
set_option maxRecDepth 100000
open Go.ChangeShapes Go.WideShapes Go.ChangeAt Go.RowKit Go.Joins Go.Deep

section
variable {H : Type} {enc : TypeId × Value → H}

theorem dec_intI {W : World} {base : Nat} {spare : Nat → Bool} {held : Bool} (fuel : Nat) (cs : List Value) (y : DataW H × List MemPlace)
    (h : DataW.trod enc Tryd.prog W base spare held fuel 3 cs = some y) : ∃ x : Int, cs = intCells x := by
  obtain ⟨a, e, _, _⟩ := DataW.trod_int Tryd.underlying3 h
  exact ⟨a, e⟩

/-- Currents that read: their lists, whatever their lengths. -/
structure OpC (w : World) (Q : CurR) (C : CurD) : Prop where
  coils : IsT 1 intCells w Q.A Q.la C.coils
  shells : IsT 1 intCells w Q.B Q.lb C.shells
  plasma : IsT 1 intCells w Q.C Q.lc C.plasma
  la : Q.la ≤ Q.ca
  lb : Q.lb ≤ Q.cb
  lc : Q.lc ≤ Q.cc
  ca : Q.ca ≤ 9223372036854775807
  cb : Q.cb ≤ 9223372036854775807
  cc : Q.cc ≤ 9223372036854775807
theorem OpC.isC {w : World} {Q : CurR} {C : CurD} (h : OpC w Q C) (ka : Q.la ≤ 1000000000000000) (kb : Q.lb ≤ 1000000000000000) (kc : Q.lc ≤ 1000000000000000) : IsC w Q C :=
  ⟨h.coils, h.shells, h.plasma, h.la, h.lb, h.lc, h.ca, h.cb, h.cc, ka, kb, kc⟩

theorem open_currents {W : World} {b0 : Nat} {r : Reach} {v : Value} {d : DataW H} {p : List MemPlace}
    (hv : Value.okWide Tryd.prog W r b0 32 v) (h : DataW.Trod enc Tryd.prog W 0 (fun _ => true) true 32 v d p) :
    ∃ (Q : CurR) (C : CurD), v = Q.v ∧ OpC W Q C := by
  obtain ⟨⟨cs⟩, rfl, hsz⟩ := okWide_struct Tryd.underlying32 hv
  obtain ⟨fuel, hf0⟩ := h
  have hf1 : DataW.trod enc Tryd.prog W 0 (fun _ => true) true fuel 32 cs = some (d, p) := hf0
  obtain ⟨xs, n, -, -, hl, hlen, hf⟩ := DataW.trod_struct Tryd.underlying32 hf1
  rw [show Tryd.prog.cellsOf 32 = 3 by kernel_rfl] at hl
  match xs, hlen with
  | [y0, y1, y2], _ =>
    match cs, hl with
    | [c0, c1, c2], _ =>
      obtain ⟨A, la, ca, z1, e0, h0, k0, m0⟩ := open_isTc (n := 1) (E := intCells) (fun _ => rfl) Tryd.underlying30 (by kernel_rfl) (by decide) dec_intI ((hf 0 _ rfl).trans (rfl : _ = some y0))
      obtain ⟨B, lb, cb, z2, e1, h1, k1, m1⟩ := open_isTc (n := 1) (E := intCells) (fun _ => rfl) Tryd.underlying30 (by kernel_rfl) (by decide) dec_intI ((hf 1 _ rfl).trans (rfl : _ = some y1))
      obtain ⟨C, lc, cc, z3, e2, h2, k2, m2⟩ := open_isTc (n := 1) (E := intCells) (fun _ => rfl) Tryd.underlying30 (by kernel_rfl) (by decide) dec_intI ((hf 2 _ rfl).trans (rfl : _ = some y2))
      have cs1 : Tryd.prog.cellsOf 30 = 1 := by kernel_rfl
      simp [cs1] at e0 e1 e2
      subst e0 e1 e2
      unfold maxLen at m0 m1 m2
      exact ⟨⟨A, B, C, la, ca, lb, cb, lc, cc⟩, ⟨z1, z2, z3⟩, rfl, h0, h1, h2, k0, k1, k2, m0, m1, m2⟩

theorem shut_currents {W W' : World} {v : Value} {d : DataW H} {p : List MemPlace} (h : DataW.Trod enc Tryd.prog W 0 (fun _ => true) true 32 v d p) (hb : Below W.heap.size W W') (hlt : ∀ x ∈ p, x.block < W.heap.size) :
    DataW.Trod enc Tryd.prog W' 0 (fun b => decide (b < W.heap.size)) true 32 v d p :=
  Below.trod (by kernel_rfl) (by kernel_rfl) (of_decide_eq_true (by kernel_rfl)) h hb hlt

theorem open_spot {W : World} {b0 : Nat} {r : Reach} {v : Value} {d : DataW H} {p : List MemPlace}
    (hv : Value.okWide Tryd.prog W r b0 34 v) (h : DataW.Trod enc Tryd.prog W 0 (fun _ => true) true 34 v d p) :
    ∃ s c i : Int, v = .agg #[.int .i64 s, .int .i64 c, .int .i64 i] ∧ (-9223372036854775808 ≤ s ∧ s ≤ 9223372036854775807) ∧ (-9223372036854775808 ≤ c ∧ c ≤ 9223372036854775807) ∧ (-9223372036854775808 ≤ i ∧ i ≤ 9223372036854775807) := by
  obtain ⟨⟨cs⟩, rfl, hsz⟩ := okWide_struct Tryd.underlying34 hv
  obtain ⟨fuel, hf0⟩ := h
  have hf1 : DataW.trod enc Tryd.prog W 0 (fun _ => true) true fuel 34 cs = some (d, p) := hf0
  obtain ⟨xs, n, -, -, hl, hlen, hf⟩ := DataW.trod_struct Tryd.underlying34 hf1
  rw [show Tryd.prog.cellsOf 34 = 3 by kernel_rfl] at hl
  match xs, hlen with
  | [y0, y1, y2], _ =>
    match cs, hl with
    | [c0, c1, c2], _ =>
      obtain ⟨a0, e0, -, w0⟩ := DataW.trod_int Tryd.underlying3 ((hf 0 _ rfl).trans (rfl : _ = some y0))
      obtain ⟨a1, e1, -, w1⟩ := DataW.trod_int Tryd.underlying3 ((hf 1 _ rfl).trans (rfl : _ = some y1))
      obtain ⟨a2, e2, -, w2⟩ := DataW.trod_int Tryd.underlying3 ((hf 2 _ rfl).trans (rfl : _ = some y2))
      simp [cells_int] at e0 e1 e2
      subst e0 e1 e2
      have bd : ∀ n : Int, (Lit.int .i64 n).wf = true → -9223372036854775808 ≤ n ∧ n ≤ 9223372036854775807 := fun n hn => by
        have h1 : IntKind.i64.min = -9223372036854775808 := by rfl
        have h2 : IntKind.i64.max = 9223372036854775807 := by rfl
        simp [Lit.wf] at hn
        omega
      exact ⟨a0, a1, a2, rfl, bd _ w0, bd _ w1, bd _ w2⟩

theorem shut_spot {W W' : World} {v : Value} {d : DataW H} {p : List MemPlace} (h : DataW.Trod enc Tryd.prog W 0 (fun _ => true) true 34 v d p) (hb : Below W.heap.size W W') (hlt : ∀ x ∈ p, x.block < W.heap.size) :
    DataW.Trod enc Tryd.prog W' 0 (fun b => decide (b < W.heap.size)) true 34 v d p :=
  Below.trod (by kernel_rfl) (by kernel_rfl) (of_decide_eq_true (by kernel_rfl)) h hb hlt

end
end Go.Proofs.YtfpjhobhmcfpnaaDoor
end
