import Derived.Test.YtpnoinkiblnplaaDoorJAA
import Derived.Test.YtpnoinkiblnplaaDoorJAD
import Derived.Test.YtpnoinkiblnplaaDoorJAU
import Derived.Test.YtpnoinkiblnplaaDoorJAX
import Derived.ProofKit
import Derived.OpenShut
import Derived.Lib.SmallJoins
import Derived.Deep.Slices
import Derived.Carry
section
/- The law SenseLinear: its walk, over this seat's translation (written by mk_lil.py). -/
namespace Go.Proofs.YtpnoinkiblnplaaDoor
set_option linter.unusedVariables false
set_option linter.unusedSimpArgs false
open Go.RowKit Go.Shelf

theorem mul_bd2 {a b : Int} (a0 : -250000 ≤ a) (a1 : a ≤ 250000) (b0 : 0 ≤ b) (b1 : b ≤ 1000000) : -250000000000 ≤ a * b ∧ a * b ≤ 250000000000 := by
  have := mul_bd (a := b) (b := a) (A := 1000000) (B := 250000) b0 b1 a0 a1
  rw [Int.mul_comm b a] at this
  omega

set_option maxRecDepth 100000 in
set_option maxHeartbeats 16000000 in
theorem linear_walk (R : MachR) (M : MachD) (Qr : CurR) (Cd : CurD) (s cell cur : Int) (w : World) (hs : -9223372036854775808 ≤ s ∧ s ≤ 9223372036854775807)
    (hM : R.la ≤ 1000000000000000 → R.lb ≤ 1000000000000000 → R.lc ≤ 1000000000000000 → R.ld ≤ 1000000000000000 → IsM w R M) (hC : Qr.la ≤ 1000000000000000 → Qr.lb ≤ 1000000000000000 → Qr.lc ≤ 1000000000000000 → IsC w Qr Cd) :
    Calls Tryd.prog 4 #[.agg (machCells R M), Qr.v, .agg #[.int .i64 s, .int .i64 cell, .int .i64 cur]] w (Ret (.bool true) w) := by
  have HBr := Lib.hid (fun W => brief_any M.name R.A R.B R.C R.D R.la R.ca R.lb R.cb R.lc R.cc R.ld R.cd M.grid.r M.grid.z M.grid.nr M.grid.nz M.grid.step Qr.A Qr.B Qr.C none Qr.la Qr.ca Qr.lb Qr.cb Qr.lc Qr.cc 0 0 W)
  cases hbr : briefB R.la R.lb R.lc R.ld Qr.la Qr.lb Qr.lc 0
  · rw [hbr] at HBr
    clear hM hC hbr hs
    obtain ⟨A, B, Cl, D, la, ca, lb, cb, lc, cl, ld, cd⟩ := R
    obtain ⟨name, coils, shells, limits, ⟨r, z, nr, nz, step⟩, sensors⟩ := M
    obtain ⟨A1, B1, C1, na, qa, nb, qb, nc, qc⟩ := Qr
    dsimp only at HBr
    show Calls Tryd.prog 4 #[.agg #[.string name, .slice A la ca, .slice B lb cb, .slice Cl lc cl, .int .i64 r, .int .i64 z, .int .i64 nr, .int .i64 nz, .int .i64 step, .slice D ld cd], .agg #[.slice A1 na qa, .slice B1 nb qb, .slice C1 nc qc], .agg #[.int .i64 s, .int .i64 cell, .int .i64 cur]] w _
    go_enter Tryd.func4, Tryd.ntmps4
    go_wp2_with fail
    refine (HBr.out _).mono ?_
    rintro e w1 ⟨rfl, hb⟩
    have hB1 : Below w.heap.size w w1 := Below.trans (by (repeat first | with_reducible exact Below.refl _ _ | with_reducible assumption | (with_reducible refine Below.setCell ?_ ?_ _; rotate_left; exact (by first | omega | (simp; done) | (simp; omega))) | (with_reducible refine Below.alloc ?_ ?_ _; rotate_left; exact (by first | omega | (simp; done) | (simp; omega))) | with_reducible refine Below.drew ?_ | with_reducible refine Below_drewN ?_ _)) (hb.mono (by first | omega | ((try simp only [World.size_alloc, World.size_setCell, size_drew, size_drewN]); omega) | (simp; done) | (simp; omega)))
    have sz1 := hB1.size
    clear hb
    go_wp2_with fail
    refine (awake_any _).mono ?_
    rintro e w2 ⟨rfl, hb⟩
    have hB2 := hB1.trans (hb.mono hB1.size)
    clear hb
    go_wp2_with fail
    go_ret
    exact ⟨rfl, by (repeat first | with_reducible exact Below.refl _ _ | with_reducible assumption | (with_reducible refine Below.setCell ?_ ?_ _; rotate_left; exact (by first | omega | (simp; done) | (simp; omega))) | (with_reducible refine Below.alloc ?_ ?_ _; rotate_left; exact (by first | omega | (simp; done) | (simp; omega))) | with_reducible refine Below.drew ?_ | with_reducible refine Below_drewN ?_ _)⟩
  rw [hbr] at HBr
  obtain ⟨ka, kb, kc, kd, pa, pb, pc, -⟩ := brief_bd hbr
  have hM := hM (by omega) (by omega) (by omega) (by omega)
  have hC := hC (by omega) (by omega) (by omega)
  clear hbr
  have HLN := Lib.hid (fun h1 h2 h3 => linear (M := M) (C := Cd) (s := s) (cell := cell) (cur := cur) h1 h2 h3)
  have HFB := Lib.hid (fun (he : filaE M Cd cell cur ≠ 0) W (hb : Below w.heap.size w W) => filament_bad R M Qr Cd cell cur W (hM.below hb) (hC.below hb) he)
  have HFO := Lib.hid (fun (he : filaE M Cd cell cur = 0) W (hb : Below w.heap.size w W) => filament_ok R M Qr Cd cell cur W (hM.below hb) (hC.below hb) he)
  have HBA := Lib.hid (fun W (hb : Below w.heap.size w W) => background_any R M Qr Cd s W (hM.below hb) (hC.below hb) hs.1 hs.2)
  have HRS := Lib.hid (fun W (hb : Below w.heap.size w W) => response_any R M s cell W (hM.below hb))
  have HEX := Lib.hid (fun (Q2 : CurR) W (hb : Below w.heap.size w W) (hc : IsC W Q2 (filaD Cd cell cur)) => exact_any R M Q2 (filaD Cd cell cur) s W (hM.below hb) hc hs.1 hs.2)
  clear hM hC hs
  generalize filaE M Cd cell cur = E at *
  generalize filaD Cd cell cur = DD at *
  generalize backL M Cd s = GB at *
  generalize respL M s cell = GR at *
  generalize exactL M DD s = GX at *
  obtain ⟨b1, b2⟩ := GB
  obtain ⟨n1, n2⟩ := GR
  obtain ⟨v1, v2⟩ := GX
  obtain ⟨A, B, Cl, D, la, ca, lb, cb, lc, cl, ld, cd⟩ := R
  obtain ⟨name, coils, shells, limits, ⟨r, z, nr, nz, step⟩, sensors⟩ := M
  obtain ⟨A1, B1, C1, na, qa, nb, qb, nc, qc⟩ := Qr
  dsimp only at *
  have HB0 := Lib.hid (show ∀ W, Below w.heap.size w W → Calls Tryd.prog 8 #[.agg #[.string name, .slice A la ca, .slice B lb cb, .slice Cl lc cl, .int .i64 r, .int .i64 z, .int .i64 nr, .int .i64 nz, .int .i64 step, .slice D ld cd], .agg #[.slice A1 na qa, .slice B1 nb qb, .slice C1 nc qc], .int .i64 s] W (Ret (.tuple #[.int .i64 b1, .int .i64 b2]) W) from HBA.out)
  have HR0 := Lib.hid (show ∀ W, Below w.heap.size w W → Calls Tryd.prog 10 #[.agg #[.string name, .slice A la ca, .slice B lb cb, .slice Cl lc cl, .int .i64 r, .int .i64 z, .int .i64 nr, .int .i64 nz, .int .i64 step, .slice D ld cd], .int .i64 s, .int .i64 cell] W (Ret (.tuple #[.int .i64 n1, .int .i64 n2]) W) from HRS.out)
  have HX0 := Lib.hid (show ∀ (Q2 : CurR) W, Below w.heap.size w W → IsC W Q2 DD → Calls Tryd.prog 15 #[.agg #[.string name, .slice A la ca, .slice B lb cb, .slice Cl lc cl, .int .i64 r, .int .i64 z, .int .i64 nr, .int .i64 nz, .int .i64 step, .slice D ld cd], .agg #[.slice Q2.A Q2.la Q2.ca, .slice Q2.B Q2.lb Q2.cb, .slice Q2.C Q2.lc Q2.cc], .int .i64 s] W (Ret (.tuple #[.int .i64 v1, .int .i64 v2]) W) from HEX.out)
  have HF1 := Lib.hid (show E ≠ 0 → ∀ W, Below w.heap.size w W → Calls Tryd.prog 12 #[.agg #[.string name, .slice A la ca, .slice B lb cb, .slice Cl lc cl, .int .i64 r, .int .i64 z, .int .i64 nr, .int .i64 nz, .int .i64 step, .slice D ld cd], .agg #[.slice A1 na qa, .slice B1 nb qb, .slice C1 nc qc], .int .i64 cell, .int .i64 cur] W (Ret (.tuple #[nilC, .int .i64 E]) W) from HFB.out)
  have HF2 := Lib.hid (show E = 0 → ∀ W, Below w.heap.size w W → Calls Tryd.prog 12 #[.agg #[.string name, .slice A la ca, .slice B lb cb, .slice Cl lc cl, .int .i64 r, .int .i64 z, .int .i64 nr, .int .i64 nz, .int .i64 step, .slice D ld cd], .agg #[.slice A1 na qa, .slice B1 nb qb, .slice C1 nc qc], .int .i64 cell, .int .i64 cur] W (FilaAt na nb nc DD W) from HFO.out)
  clear HBA HRS HEX HFB HFO
  show Calls Tryd.prog 4 #[.agg #[.string name, .slice A la ca, .slice B lb cb, .slice Cl lc cl, .int .i64 r, .int .i64 z, .int .i64 nr, .int .i64 nz, .int .i64 step, .slice D ld cd], .agg #[.slice A1 na qa, .slice B1 nb qb, .slice C1 nc qc], .agg #[.int .i64 s, .int .i64 cell, .int .i64 cur]] w _
  go_enter Tryd.func4, Tryd.ntmps4
  go_wp2_with fail
  refine (HBr.out _).mono ?_
  rintro e w1 ⟨rfl, hb⟩
  have m0 : w1.cell? ⟨w.heap.size, 0, none⟩ = some (.string name) := by rw [hb.cell (p := ⟨w.heap.size, 0, none⟩) (by first | omega | ((try simp only [World.size_alloc, World.size_setCell, size_drew, size_drewN]); omega) | (simp; done) | (simp; omega))]; go_simp
  have m1 : w1.cell? ⟨w.heap.size, 1, none⟩ = some (.slice A la ca) := by rw [hb.cell (p := ⟨w.heap.size, 1, none⟩) (by first | omega | ((try simp only [World.size_alloc, World.size_setCell, size_drew, size_drewN]); omega) | (simp; done) | (simp; omega))]; go_simp
  have m2 : w1.cell? ⟨w.heap.size, 2, none⟩ = some (.slice B lb cb) := by rw [hb.cell (p := ⟨w.heap.size, 2, none⟩) (by first | omega | ((try simp only [World.size_alloc, World.size_setCell, size_drew, size_drewN]); omega) | (simp; done) | (simp; omega))]; go_simp
  have m3 : w1.cell? ⟨w.heap.size, 3, none⟩ = some (.slice Cl lc cl) := by rw [hb.cell (p := ⟨w.heap.size, 3, none⟩) (by first | omega | ((try simp only [World.size_alloc, World.size_setCell, size_drew, size_drewN]); omega) | (simp; done) | (simp; omega))]; go_simp
  have m4 : w1.cell? ⟨w.heap.size, 4, none⟩ = some (.int .i64 r) := by rw [hb.cell (p := ⟨w.heap.size, 4, none⟩) (by first | omega | ((try simp only [World.size_alloc, World.size_setCell, size_drew, size_drewN]); omega) | (simp; done) | (simp; omega))]; go_simp
  have m5 : w1.cell? ⟨w.heap.size, 5, none⟩ = some (.int .i64 z) := by rw [hb.cell (p := ⟨w.heap.size, 5, none⟩) (by first | omega | ((try simp only [World.size_alloc, World.size_setCell, size_drew, size_drewN]); omega) | (simp; done) | (simp; omega))]; go_simp
  have m6 : w1.cell? ⟨w.heap.size, 6, none⟩ = some (.int .i64 nr) := by rw [hb.cell (p := ⟨w.heap.size, 6, none⟩) (by first | omega | ((try simp only [World.size_alloc, World.size_setCell, size_drew, size_drewN]); omega) | (simp; done) | (simp; omega))]; go_simp
  have m7 : w1.cell? ⟨w.heap.size, 7, none⟩ = some (.int .i64 nz) := by rw [hb.cell (p := ⟨w.heap.size, 7, none⟩) (by first | omega | ((try simp only [World.size_alloc, World.size_setCell, size_drew, size_drewN]); omega) | (simp; done) | (simp; omega))]; go_simp
  have m8 : w1.cell? ⟨w.heap.size, 8, none⟩ = some (.int .i64 step) := by rw [hb.cell (p := ⟨w.heap.size, 8, none⟩) (by first | omega | ((try simp only [World.size_alloc, World.size_setCell, size_drew, size_drewN]); omega) | (simp; done) | (simp; omega))]; go_simp
  have m9 : w1.cell? ⟨w.heap.size, 9, none⟩ = some (.slice D ld cd) := by rw [hb.cell (p := ⟨w.heap.size, 9, none⟩) (by first | omega | ((try simp only [World.size_alloc, World.size_setCell, size_drew, size_drewN]); omega) | (simp; done) | (simp; omega))]; go_simp
  have c0 : w1.cell? ⟨w.heap.size + 1, 0, none⟩ = some (.slice A1 na qa) := by rw [hb.cell (p := ⟨w.heap.size + 1, 0, none⟩) (by first | omega | ((try simp only [World.size_alloc, World.size_setCell, size_drew, size_drewN]); omega) | (simp; done) | (simp; omega))]; go_simp
  have c1 : w1.cell? ⟨w.heap.size + 1, 1, none⟩ = some (.slice B1 nb qb) := by rw [hb.cell (p := ⟨w.heap.size + 1, 1, none⟩) (by first | omega | ((try simp only [World.size_alloc, World.size_setCell, size_drew, size_drewN]); omega) | (simp; done) | (simp; omega))]; go_simp
  have c2 : w1.cell? ⟨w.heap.size + 1, 2, none⟩ = some (.slice C1 nc qc) := by rw [hb.cell (p := ⟨w.heap.size + 1, 2, none⟩) (by first | omega | ((try simp only [World.size_alloc, World.size_setCell, size_drew, size_drewN]); omega) | (simp; done) | (simp; omega))]; go_simp
  have x0 : w1.cell? ⟨w.heap.size + 1 + 1, 0, none⟩ = some (.int .i64 s) := by rw [hb.cell (p := ⟨w.heap.size + 1 + 1, 0, none⟩) (by first | omega | ((try simp only [World.size_alloc, World.size_setCell, size_drew, size_drewN]); omega) | (simp; done) | (simp; omega))]; go_simp
  have x1 : w1.cell? ⟨w.heap.size + 1 + 1, 1, none⟩ = some (.int .i64 cell) := by rw [hb.cell (p := ⟨w.heap.size + 1 + 1, 1, none⟩) (by first | omega | ((try simp only [World.size_alloc, World.size_setCell, size_drew, size_drewN]); omega) | (simp; done) | (simp; omega))]; go_simp
  have x2 : w1.cell? ⟨w.heap.size + 1 + 1, 2, none⟩ = some (.int .i64 cur) := by rw [hb.cell (p := ⟨w.heap.size + 1 + 1, 2, none⟩) (by first | omega | ((try simp only [World.size_alloc, World.size_setCell, size_drew, size_drewN]); omega) | (simp; done) | (simp; omega))]; go_simp
  have hw1 : Below w.heap.size w w1 := Below.trans (by (repeat first | with_reducible exact Below.refl _ _ | with_reducible assumption | (with_reducible refine Below.setCell ?_ ?_ _; rotate_left; exact (by first | omega | (simp; done) | (simp; omega))) | (with_reducible refine Below.alloc ?_ ?_ _; rotate_left; exact (by first | omega | (simp; done) | (simp; omega))) | with_reducible refine Below.drew ?_ | with_reducible refine Below_drewN ?_ _)) (hb.mono (by first | omega | ((try simp only [World.size_alloc, World.size_setCell, size_drew, size_drewN]); omega) | (simp; done) | (simp; omega)))
  have kz : w.heap.size + 1 + 1 < w1.heap.size := Nat.lt_of_lt_of_le (by first | omega | ((try simp only [World.size_alloc, World.size_setCell, size_drew, size_drewN]); omega) | (simp; done) | (simp; omega)) hb.size
  have ky : w.heap.size + 1 < w1.heap.size := by omega
  have kx : w.heap.size < w1.heap.size := by omega
  clear hb
  by_cases hE : E = 0
  rotate_left
  · have HF := Lib.hid (HF1.out hE)
    have hEb : (E != 0) = true := by rw [bne_iff_ne]; exact hE
    clear HF1 HF2 hE HX0 HLN
    have FM := Lib.hid (BoxL.mk10 kx m0 m1 m2 m3 m4 m5 m6 m7 m8 m9)
    have FC := Lib.hid (BoxL.mk3 ky c0 c1 c2)
    have FX := Lib.hid (BoxL.mk3 kz x0 x1 x2)
    go_wp2_with fail
    refine (HF.out _ (by (repeat first | with_reducible exact Below.refl _ _ | with_reducible assumption | (with_reducible refine Below.setCell ?_ ?_ _; rotate_left; exact (by first | omega | (simp; done) | (simp; omega))) | (with_reducible refine Below.alloc ?_ ?_ _; rotate_left; exact (by first | omega | (simp; done) | (simp; omega))) | with_reducible refine Below.drew ?_ | with_reducible refine Below_drewN ?_ _))).mono ?_
    rintro e w2 ⟨rfl, hb⟩
    clear m0 m1 m2 m3 m4 m5 m6 m7 m8 m9 c0 c1 c2 x0 x1 x2
    have m0 := (FM.out.below hb).at 0 (.string name) rfl
    have m1 := (FM.out.below hb).at 1 (.slice A la ca) rfl
    have m2 := (FM.out.below hb).at 2 (.slice B lb cb) rfl
    have m3 := (FM.out.below hb).at 3 (.slice Cl lc cl) rfl
    have m4 := (FM.out.below hb).at 4 (.int .i64 r) rfl
    have m5 := (FM.out.below hb).at 5 (.int .i64 z) rfl
    have m6 := (FM.out.below hb).at 6 (.int .i64 nr) rfl
    have m7 := (FM.out.below hb).at 7 (.int .i64 nz) rfl
    have m8 := (FM.out.below hb).at 8 (.int .i64 step) rfl
    have m9 := (FM.out.below hb).at 9 (.slice D ld cd) rfl
    have c0 := (FC.out.below hb).at 0 (.slice A1 na qa) rfl
    have c1 := (FC.out.below hb).at 1 (.slice B1 nb qb) rfl
    have c2 := (FC.out.below hb).at 2 (.slice C1 nc qc) rfl
    have x0 := (FX.out.below hb).at 0 (.int .i64 s) rfl
    have x1 := (FX.out.below hb).at 1 (.int .i64 cell) rfl
    have x2 := (FX.out.below hb).at 2 (.int .i64 cur) rfl
    have hB2 := hw1.trans (hb.mono hw1.size)
    have sz2 := hb.size
    have kx2 : w.heap.size < w2.heap.size := by omega
    have ky2 : w.heap.size + 1 < w2.heap.size := by omega
    have kz2 : w.heap.size + 1 + 1 < w2.heap.size := by omega
    have Hb := Lib.hid hb
    clear hb
    go_upto_region 4 with (fail)
    obtain ⟨W3, hW3⟩ : ∃ W, w2.alloc (.cells #[.slice none 0 0, .slice none 0 0, .slice none 0 0] 32) = W := ⟨_, rfl⟩
    have hbW : Below w2.heap.size w2 W3 := by rw [← hW3]; (repeat first | with_reducible exact Below.refl _ _ | with_reducible assumption | (with_reducible refine Below.setCell ?_ ?_ _; rotate_left; exact (by first | omega | (simp; done) | (simp; omega))) | (with_reducible refine Below.alloc ?_ ?_ _; rotate_left; exact (by first | omega | (simp; done) | (simp; omega))) | with_reducible refine Below.drew ?_ | with_reducible refine Below_drewN ?_ _)
    rw [hW3]
    clear hW3 m0 m1 m2 m3 m4 m5 m6 m7 m8 m9 c0 c1 c2 x0 x1 x2
    have hb3 := Hb.out.trans (hbW.mono Hb.out.size)
    have m0 := (FM.out.below hb3).at 0 (.string name) rfl
    have m1 := (FM.out.below hb3).at 1 (.slice A la ca) rfl
    have m2 := (FM.out.below hb3).at 2 (.slice B lb cb) rfl
    have m3 := (FM.out.below hb3).at 3 (.slice Cl lc cl) rfl
    have m4 := (FM.out.below hb3).at 4 (.int .i64 r) rfl
    have m5 := (FM.out.below hb3).at 5 (.int .i64 z) rfl
    have m6 := (FM.out.below hb3).at 6 (.int .i64 nr) rfl
    have m7 := (FM.out.below hb3).at 7 (.int .i64 nz) rfl
    have m8 := (FM.out.below hb3).at 8 (.int .i64 step) rfl
    have m9 := (FM.out.below hb3).at 9 (.slice D ld cd) rfl
    have c0 := (FC.out.below hb3).at 0 (.slice A1 na qa) rfl
    have c1 := (FC.out.below hb3).at 1 (.slice B1 nb qb) rfl
    have c2 := (FC.out.below hb3).at 2 (.slice C1 nc qc) rfl
    have x0 := (FX.out.below hb3).at 0 (.int .i64 s) rfl
    have x1 := (FX.out.below hb3).at 1 (.int .i64 cell) rfl
    have x2 := (FX.out.below hb3).at 2 (.int .i64 cur) rfl
    have hB3 := hB2.trans (hbW.mono hB2.size)
    have H3 := Lib.hid hb3
    have sz3 := hbW.size
    clear hbW hb3
    go_wp2_with fail
    refine (HB0.out _ (by (repeat first | with_reducible exact Below.refl _ _ | with_reducible assumption | (with_reducible refine Below.setCell ?_ ?_ _; rotate_left; exact (by first | omega | (simp; done) | (simp; omega))) | (with_reducible refine Below.alloc ?_ ?_ _; rotate_left; exact (by first | omega | (simp; done) | (simp; omega))) | with_reducible refine Below.drew ?_ | with_reducible refine Below_drewN ?_ _))).mono ?_
    rintro e w4 ⟨rfl, hb⟩
    have hb4 := H3.out.trans (hb.mono H3.out.size)
    have hB4 := hB3.trans (hb.mono hB3.size)
    have sz4 := hb.size
    clear hb m0 m1 m2 m3 m4 m5 m6 m7 m8 m9 c0 c1 c2 x0 x1 x2
    have m0 := (FM.out.below hb4).at 0 (.string name) rfl
    have m1 := (FM.out.below hb4).at 1 (.slice A la ca) rfl
    have m2 := (FM.out.below hb4).at 2 (.slice B lb cb) rfl
    have m3 := (FM.out.below hb4).at 3 (.slice Cl lc cl) rfl
    have m4 := (FM.out.below hb4).at 4 (.int .i64 r) rfl
    have m5 := (FM.out.below hb4).at 5 (.int .i64 z) rfl
    have m6 := (FM.out.below hb4).at 6 (.int .i64 nr) rfl
    have m7 := (FM.out.below hb4).at 7 (.int .i64 nz) rfl
    have m8 := (FM.out.below hb4).at 8 (.int .i64 step) rfl
    have m9 := (FM.out.below hb4).at 9 (.slice D ld cd) rfl
    have c0 := (FC.out.below hb4).at 0 (.slice A1 na qa) rfl
    have c1 := (FC.out.below hb4).at 1 (.slice B1 nb qb) rfl
    have c2 := (FC.out.below hb4).at 2 (.slice C1 nc qc) rfl
    have x0 := (FX.out.below hb4).at 0 (.int .i64 s) rfl
    have x1 := (FX.out.below hb4).at 1 (.int .i64 cell) rfl
    have x2 := (FX.out.below hb4).at 2 (.int .i64 cur) rfl
    clear hb4
    go_wp2_with fail
    refine (HR0.out _ (by (repeat first | with_reducible exact Below.refl _ _ | with_reducible assumption | (with_reducible refine Below.setCell ?_ ?_ _; rotate_left; exact (by first | omega | (simp; done) | (simp; omega))) | (with_reducible refine Below.alloc ?_ ?_ _; rotate_left; exact (by first | omega | (simp; done) | (simp; omega))) | with_reducible refine Below.drew ?_ | with_reducible refine Below_drewN ?_ _))).mono ?_
    rintro e w5 ⟨rfl, hb⟩
    have hB5 := hB4.trans (hb.mono hB4.size)
    have sz5 := hb.size
    clear hb m0 m1 m2 m3 m4 m5 m6 m7 m8 m9 c0 c1 c2 x0 x1 x2
    go_wp2_with fail
    refine (awake_any _).mono ?_
    rintro e w6 ⟨rfl, hb⟩
    have hB6 := hB5.trans (hb.mono hB5.size)
    clear hb
    go_wp2_with fail
    go_ret
    exact ⟨rfl, by (repeat first | with_reducible exact Below.refl _ _ | with_reducible assumption | (with_reducible refine Below.setCell ?_ ?_ _; rotate_left; exact (by first | omega | (simp; done) | (simp; omega))) | (with_reducible refine Below.alloc ?_ ?_ _; rotate_left; exact (by first | omega | (simp; done) | (simp; omega))) | with_reducible refine Below.drew ?_ | with_reducible refine Below_drewN ?_ _)⟩
  · have HF := Lib.hid (HF2.out hE)
    have HLN2 := Lib.hid (HLN.out hE)
    subst hE
    clear HF1 HF2 HLN
    have FM := Lib.hid (BoxL.mk10 kx m0 m1 m2 m3 m4 m5 m6 m7 m8 m9)
    have FC := Lib.hid (BoxL.mk3 ky c0 c1 c2)
    have FX := Lib.hid (BoxL.mk3 kz x0 x1 x2)
    go_wp2_with fail
    refine (HF.out _ (by (repeat first | with_reducible exact Below.refl _ _ | with_reducible assumption | (with_reducible refine Below.setCell ?_ ?_ _; rotate_left; exact (by first | omega | (simp; done) | (simp; omega))) | (with_reducible refine Below.alloc ?_ ?_ _; rotate_left; exact (by first | omega | (simp; done) | (simp; omega))) | with_reducible refine Below.drew ?_ | with_reducible refine Below_drewN ?_ _))).mono ?_
    rintro e w2 ⟨dA, dca, dB, dcb, dpb, rfl, hd, hb⟩
    clear m0 m1 m2 m3 m4 m5 m6 m7 m8 m9 c0 c1 c2 x0 x1 x2
    have m0 := (FM.out.below hb).at 0 (.string name) rfl
    have m1 := (FM.out.below hb).at 1 (.slice A la ca) rfl
    have m2 := (FM.out.below hb).at 2 (.slice B lb cb) rfl
    have m3 := (FM.out.below hb).at 3 (.slice Cl lc cl) rfl
    have m4 := (FM.out.below hb).at 4 (.int .i64 r) rfl
    have m5 := (FM.out.below hb).at 5 (.int .i64 z) rfl
    have m6 := (FM.out.below hb).at 6 (.int .i64 nr) rfl
    have m7 := (FM.out.below hb).at 7 (.int .i64 nz) rfl
    have m8 := (FM.out.below hb).at 8 (.int .i64 step) rfl
    have m9 := (FM.out.below hb).at 9 (.slice D ld cd) rfl
    have c0 := (FC.out.below hb).at 0 (.slice A1 na qa) rfl
    have c1 := (FC.out.below hb).at 1 (.slice B1 nb qb) rfl
    have c2 := (FC.out.below hb).at 2 (.slice C1 nc qc) rfl
    have x0 := (FX.out.below hb).at 0 (.int .i64 s) rfl
    have x1 := (FX.out.below hb).at 1 (.int .i64 cell) rfl
    have x2 := (FX.out.below hb).at 2 (.int .i64 cur) rfl
    have hB2 := hw1.trans (hb.mono hw1.size)
    have sz2 := hb.size
    have kx2 : w.heap.size < w2.heap.size := by omega
    have ky2 : w.heap.size + 1 < w2.heap.size := by omega
    have kz2 : w.heap.size + 1 + 1 < w2.heap.size := by omega
    have Hb := Lib.hid hb
    have Hd := Lib.hid hd
    clear hb hd
    go_upto_region 4 with (fail)
    have t0 : (w2.alloc (.cells #[.slice dA na dca, .slice dB nb dcb, .slice (some ⟨dpb, 0, none⟩) nc nc] 32)).cell? ⟨w2.heap.size, 0, none⟩ = some (.slice dA na dca) := by go_simp
    have t1 : (w2.alloc (.cells #[.slice dA na dca, .slice dB nb dcb, .slice (some ⟨dpb, 0, none⟩) nc nc] 32)).cell? ⟨w2.heap.size, 1, none⟩ = some (.slice dB nb dcb) := by go_simp
    have t2 : (w2.alloc (.cells #[.slice dA na dca, .slice dB nb dcb, .slice (some ⟨dpb, 0, none⟩) nc nc] 32)).cell? ⟨w2.heap.size, 2, none⟩ = some (.slice (some ⟨dpb, 0, none⟩) nc nc) := by go_simp
    have tz : w2.heap.size < (w2.alloc (.cells #[.slice dA na dca, .slice dB nb dcb, .slice (some ⟨dpb, 0, none⟩) nc nc] 32)).heap.size := by simp
    obtain ⟨W3, hW3⟩ : ∃ W, w2.alloc (.cells #[.slice dA na dca, .slice dB nb dcb, .slice (some ⟨dpb, 0, none⟩) nc nc] 32) = W := ⟨_, rfl⟩
    have hbW : Below w2.heap.size w2 W3 := by rw [← hW3]; (repeat first | with_reducible exact Below.refl _ _ | with_reducible assumption | (with_reducible refine Below.setCell ?_ ?_ _; rotate_left; exact (by first | omega | (simp; done) | (simp; omega))) | (with_reducible refine Below.alloc ?_ ?_ _; rotate_left; exact (by first | omega | (simp; done) | (simp; omega))) | with_reducible refine Below.drew ?_ | with_reducible refine Below_drewN ?_ _)
    rw [hW3] at t0 t1 t2 tz ⊢
    clear hW3 m0 m1 m2 m3 m4 m5 m6 m7 m8 m9 c0 c1 c2 x0 x1 x2
    have hb3 := Hb.out.trans (hbW.mono Hb.out.size)
    have hd3 := Hd.out.below hbW
    have m0 := (FM.out.below hb3).at 0 (.string name) rfl
    have m1 := (FM.out.below hb3).at 1 (.slice A la ca) rfl
    have m2 := (FM.out.below hb3).at 2 (.slice B lb cb) rfl
    have m3 := (FM.out.below hb3).at 3 (.slice Cl lc cl) rfl
    have m4 := (FM.out.below hb3).at 4 (.int .i64 r) rfl
    have m5 := (FM.out.below hb3).at 5 (.int .i64 z) rfl
    have m6 := (FM.out.below hb3).at 6 (.int .i64 nr) rfl
    have m7 := (FM.out.below hb3).at 7 (.int .i64 nz) rfl
    have m8 := (FM.out.below hb3).at 8 (.int .i64 step) rfl
    have m9 := (FM.out.below hb3).at 9 (.slice D ld cd) rfl
    have c0 := (FC.out.below hb3).at 0 (.slice A1 na qa) rfl
    have c1 := (FC.out.below hb3).at 1 (.slice B1 nb qb) rfl
    have c2 := (FC.out.below hb3).at 2 (.slice C1 nc qc) rfl
    have x0 := (FX.out.below hb3).at 0 (.int .i64 s) rfl
    have x1 := (FX.out.below hb3).at 1 (.int .i64 cell) rfl
    have x2 := (FX.out.below hb3).at 2 (.int .i64 cur) rfl
    have hB3 := hB2.trans (hbW.mono hB2.size)
    have H3 := Lib.hid hb3
    have Hd3 := Lib.hid hd3
    have FT := Lib.hid (BoxL.mk3 tz t0 t1 t2)
    have sz3 := hbW.size
    clear hbW hb3 hd3 t0 t1 t2 Hd
    go_wp2_with fail
    refine (HB0.out _ (by (repeat first | with_reducible exact Below.refl _ _ | with_reducible assumption | (with_reducible refine Below.setCell ?_ ?_ _; rotate_left; exact (by first | omega | (simp; done) | (simp; omega))) | (with_reducible refine Below.alloc ?_ ?_ _; rotate_left; exact (by first | omega | (simp; done) | (simp; omega))) | with_reducible refine Below.drew ?_ | with_reducible refine Below_drewN ?_ _))).mono ?_
    rintro e w4 ⟨rfl, hb⟩
    have hb4 := H3.out.trans (hb.mono H3.out.size)
    have hB4 := hB3.trans (hb.mono hB3.size)
    have FT4 := Lib.hid (FT.out.below hb)
    have Hd4 := Lib.hid (Hd3.out.below hb)
    have sz4 := hb.size
    have H4 := Lib.hid hb4
    clear hb m0 m1 m2 m3 m4 m5 m6 m7 m8 m9 c0 c1 c2 x0 x1 x2
    have m0 := (FM.out.below hb4).at 0 (.string name) rfl
    have m1 := (FM.out.below hb4).at 1 (.slice A la ca) rfl
    have m2 := (FM.out.below hb4).at 2 (.slice B lb cb) rfl
    have m3 := (FM.out.below hb4).at 3 (.slice Cl lc cl) rfl
    have m4 := (FM.out.below hb4).at 4 (.int .i64 r) rfl
    have m5 := (FM.out.below hb4).at 5 (.int .i64 z) rfl
    have m6 := (FM.out.below hb4).at 6 (.int .i64 nr) rfl
    have m7 := (FM.out.below hb4).at 7 (.int .i64 nz) rfl
    have m8 := (FM.out.below hb4).at 8 (.int .i64 step) rfl
    have m9 := (FM.out.below hb4).at 9 (.slice D ld cd) rfl
    have c0 := (FC.out.below hb4).at 0 (.slice A1 na qa) rfl
    have c1 := (FC.out.below hb4).at 1 (.slice B1 nb qb) rfl
    have c2 := (FC.out.below hb4).at 2 (.slice C1 nc qc) rfl
    have x0 := (FX.out.below hb4).at 0 (.int .i64 s) rfl
    have x1 := (FX.out.below hb4).at 1 (.int .i64 cell) rfl
    have x2 := (FX.out.below hb4).at 2 (.int .i64 cur) rfl
    clear hb4
    go_wp2_with fail
    refine (HR0.out _ (by (repeat first | with_reducible exact Below.refl _ _ | with_reducible assumption | (with_reducible refine Below.setCell ?_ ?_ _; rotate_left; exact (by first | omega | (simp; done) | (simp; omega))) | (with_reducible refine Below.alloc ?_ ?_ _; rotate_left; exact (by first | omega | (simp; done) | (simp; omega))) | with_reducible refine Below.drew ?_ | with_reducible refine Below_drewN ?_ _))).mono ?_
    rintro e w5 ⟨rfl, hb⟩
    have hb5 := H4.out.trans (hb.mono H4.out.size)
    have hB5 := hB4.trans (hb.mono hB4.size)
    have FT5 := Lib.hid (FT4.out.below hb)
    have hd5 := Hd4.out.below hb
    have HdX := Lib.hid hd5
    have sz5 := hb.size
    have H5 := Lib.hid hb5
    clear hb hd5 m0 m1 m2 m3 m4 m5 m6 m7 m8 m9 c0 c1 c2 x0 x1 x2
    by_cases hb2 : b2 = 0
    rotate_left
    · have hbb : (b2 != 0) = true := by rw [bne_iff_ne]; exact hb2
      clear hb2 HLN2 hb5
      go_wp2_with fail
      refine (awake_any _).mono ?_
      rintro e w6 ⟨rfl, hb⟩
      have hB6 := hB5.trans (hb.mono hB5.size)
      clear hb
      go_wp2_with fail
      go_ret
      exact ⟨rfl, by (repeat first | with_reducible exact Below.refl _ _ | with_reducible assumption | (with_reducible refine Below.setCell ?_ ?_ _; rotate_left; exact (by first | omega | (simp; done) | (simp; omega))) | (with_reducible refine Below.alloc ?_ ?_ _; rotate_left; exact (by first | omega | (simp; done) | (simp; omega))) | with_reducible refine Below.drew ?_ | with_reducible refine Below_drewN ?_ _)⟩
    by_cases hn2 : n2 = 0
    rotate_left
    · have hbb : (n2 != 0) = true := by rw [bne_iff_ne]; exact hn2
      subst hb2
      clear hn2 HLN2 hb5
      go_wp2_with fail
      refine (awake_any _).mono ?_
      rintro e w6 ⟨rfl, hb⟩
      have hB6 := hB5.trans (hb.mono hB5.size)
      clear hb
      go_wp2_with fail
      go_ret
      exact ⟨rfl, by (repeat first | with_reducible exact Below.refl _ _ | with_reducible assumption | (with_reducible refine Below.setCell ?_ ?_ _; rotate_left; exact (by first | omega | (simp; done) | (simp; omega))) | (with_reducible refine Below.alloc ?_ ?_ _; rotate_left; exact (by first | omega | (simp; done) | (simp; omega))) | with_reducible refine Below.drew ?_ | with_reducible refine Below_drewN ?_ _)⟩
    obtain ⟨hv, hbd, hnd, c0', c1'⟩ := HLN2.out hb2 hn2
    subst hb2 hn2
    obtain ⟨hv1, hv2⟩ := Prod.mk.inj hv
    subst hv2
    clear hv HLN2
    have m0 := (FM.out.below hb5).at 0 (.string name) rfl
    have m1 := (FM.out.below hb5).at 1 (.slice A la ca) rfl
    have m2 := (FM.out.below hb5).at 2 (.slice B lb cb) rfl
    have m3 := (FM.out.below hb5).at 3 (.slice Cl lc cl) rfl
    have m4 := (FM.out.below hb5).at 4 (.int .i64 r) rfl
    have m5 := (FM.out.below hb5).at 5 (.int .i64 z) rfl
    have m6 := (FM.out.below hb5).at 6 (.int .i64 nr) rfl
    have m7 := (FM.out.below hb5).at 7 (.int .i64 nz) rfl
    have m8 := (FM.out.below hb5).at 8 (.int .i64 step) rfl
    have m9 := (FM.out.below hb5).at 9 (.slice D ld cd) rfl
    have c0 := (FC.out.below hb5).at 0 (.slice A1 na qa) rfl
    have c1 := (FC.out.below hb5).at 1 (.slice B1 nb qb) rfl
    have c2 := (FC.out.below hb5).at 2 (.slice C1 nc qc) rfl
    have x0 := (FX.out.below hb5).at 0 (.int .i64 s) rfl
    have x1 := (FX.out.below hb5).at 1 (.int .i64 cell) rfl
    have x2 := (FX.out.below hb5).at 2 (.int .i64 cur) rfl
    have t0 := FT5.out.at 0 (.slice dA na dca) rfl
    have t1 := FT5.out.at 1 (.slice dB nb dcb) rfl
    have t2 := FT5.out.at 2 (.slice (some ⟨dpb, 0, none⟩) nc nc) rfl
    have HV1 := Lib.hid hv1
    clear hb5 hv1
    go_wp2_with fail
    refine (HX0.out ⟨dA, dB, some ⟨dpb, 0, none⟩, na, dca, nb, dcb, nc, nc⟩ _ (by (repeat first | with_reducible exact Below.refl _ _ | with_reducible assumption | (with_reducible refine Below.setCell ?_ ?_ _; rotate_left; exact (by first | omega | (simp; done) | (simp; omega))) | (with_reducible refine Below.alloc ?_ ?_ _; rotate_left; exact (by first | omega | (simp; done) | (simp; omega))) | with_reducible refine Below.drew ?_ | with_reducible refine Below_drewN ?_ _)) HdX.out).mono ?_
    rintro e w6 ⟨rfl, hb⟩
    have hb6 := H5.out.trans (hb.mono H5.out.size)
    have hB6 := hB5.trans (hb.mono hB5.size)
    have sz6 := hb.size
    clear hb m0 m1 m2 m3 m4 m5 m6 m7 m8 m9 c0 c1 c2 x0 x1 x2 t0 t1 t2
    have x2 := (FX.out.below hb6).at 2 (.int .i64 cur) rfl
    clear hb6
    obtain ⟨p, hp⟩ : ∃ p, n1 * cur = p := ⟨_, rfl⟩
    have hpb := mul_bd2 hnd.1 hnd.2 c0' c1'
    have hV := HV1.out
    rw [hp] at hpb hV
    have w1' : IntKind.i64.wrap (n1 * cur) = p := by rw [hp]; exact IntWalk.i64_in _ (by omega)
    have w2' : IntKind.i64.wrap (b1 + p) = b1 + p := IntWalk.i64_in _ (by omega)
    subst hV
    clear hp HV1
    go_wp2_with fail
    refine (awake_any _).mono ?_
    rintro e w7 ⟨rfl, hb⟩
    have hB7 := hB6.trans (hb.mono hB6.size)
    clear hb
    go_wp2_with fail
    go_ret
    exact ⟨rfl, by (repeat first | with_reducible exact Below.refl _ _ | with_reducible assumption | (with_reducible refine Below.setCell ?_ ?_ _; rotate_left; exact (by first | omega | (simp; done) | (simp; omega))) | (with_reducible refine Below.alloc ?_ ?_ _; rotate_left; exact (by first | omega | (simp; done) | (simp; omega))) | with_reducible refine Below.drew ?_ | with_reducible refine Below_drewN ?_ _)⟩

end Go.Proofs.YtpnoinkiblnplaaDoor
end
section
/- The frame of the laws over spans: how an argument that is a span or a Pair is opened and shut, over this seat's translation. -/
namespace Go.Proofs.YtpnoinkiblnplaaDoor
set_option linter.unusedVariables false
set_option linter.unusedSimpArgs false
set_option maxRecDepth 100000
open Go.ChangeShapes Go.WideShapes Go.ChangeAt Go.RowKit Go.Joins

theorem own : ownKnob Tryd.prog.godebug = none := by kernel_rfl
theorem cells_span : Tryd.prog.cellsOf 49 = 2 := by kernel_rfl
theorem cells_int : Tryd.prog.cellsOf 3 = 1 := by kernel_rfl

section
variable {H : Type} {enc : TypeId × Value → H}

theorem open_span {r : Reach} {W : World} {base b0 : Nat} {spare : Nat → Bool} {held : Bool} {v : Value} {d : DataW H} {p : List MemPlace}
    (hv : Value.okWide Tryd.prog W r b0 49 v) (h : DataW.Trod enc Tryd.prog W base spare held 49 v d p) :
    ∃ lo hi : Int, v = Sp lo hi ∧ d = .agg [.lit (.int .i64 lo), .lit (.int .i64 hi)] ∧ p = [] ∧ (Lit.int .i64 lo).wf = true ∧ (Lit.int .i64 hi).wf = true := by
  obtain ⟨c0, c1, y0, y1, m, rfl, rfl, rfl, hy0, hy1⟩ := open_agg2 Tryd.underlying49 (by kernel_rfl) cells_span hv h
  obtain ⟨a, e0, rfl, wa⟩ := DataW.trod_int Tryd.underlying3 hy0
  obtain ⟨b, e1, rfl, wb⟩ := DataW.trod_int Tryd.underlying3 hy1
  simp at e0 e1
  subst e0 e1
  exact ⟨a, b, rfl, rfl, rfl, wa, wb⟩

theorem shut_span {W : World} {base : Nat} {spare : Nat → Bool} {held : Bool} {lo hi : Int} (wa : (Lit.int .i64 lo).wf = true) (wb : (Lit.int .i64 hi).wf = true) :
    DataW.Trod enc Tryd.prog W base spare held 49 (Sp lo hi) (.agg [.lit (.int .i64 lo), .lit (.int .i64 hi)]) [] :=
  shut_agg2 (y0 := (.lit (.int .i64 lo), [])) (y1 := (.lit (.int .i64 hi), [])) Tryd.underlying49 (by kernel_rfl) cells_span ⟨1, by simp [DataW.trod, Tryd.underlying3, wa]⟩ ⟨1, by simp [DataW.trod, Tryd.underlying3, wb]⟩

end
end Go.Proofs.YtpnoinkiblnplaaDoor
end
section
/- The frame of the laws over pairs: how an argument that is a list of items of n cells is opened, over this seat's translation. -/
namespace Go.Proofs.YtpnoinkiblnplaaDoor
set_option linter.unusedVariables false
set_option linter.unusedSimpArgs false
set_option maxRecDepth 100000
open Go.ChangeShapes Go.WideShapes Go.ChangeAt Go.RowKit Go.Joins Go.Deep

section
variable {H : Type} {enc : TypeId × Value → H}

/-- A list that reads is a list of items, where each item that reads is one. -/
theorem open_isT {α : Type} {E : α → List Value} {n : Nat} (h0 : ∀ x, (E x).length = n) {t e : TypeId} {W : World} {b0 : Nat} {r : Reach} {v : Value} {d : DataW H} {p : List MemPlace}
    (ht : Tryd.prog.underlying t = some (.slice e)) (hc : Tryd.prog.cellsOf e = n) (hn : 0 < n)
    (dec : ∀ (fuel : Nat) (cs : List Value) (y : DataW H × List MemPlace), DataW.trod enc Tryd.prog W 0 (fun _ => true) true fuel e cs = some y → ∃ x : α, cs = E x)
    (hv : Value.okWide Tryd.prog W r b0 t v) (h : DataW.Trod enc Tryd.prog W 0 (fun _ => true) true t v d p) :
    ∃ (A : Option Addr) (len cap : Nat) (zs : List α), v = .slice A len cap ∧ IsT n E W A len zs ∧ len ≤ maxLen ∧ len ≤ cap ∧ cap ≤ maxLen := by
  obtain ⟨a, len, cap, rfl⟩ := okWide_slice ht hv
  obtain ⟨fuel, hf⟩ := h
  rcases open_slice ht hf with ⟨hcs, hx⟩ | ⟨a', len', cap', m, k, D, Pl, hcs, hb, hl, hm, hmm, hx, hi⟩
  · have hcs : [Value.slice a len cap] = [Value.slice none 0 0] := hcs
    injection hcs with hcs _
    injection hcs with e1 e2 e3
    subst e1 e2 e3
    exact ⟨_, _, _, [], rfl, IsT.nil _ _ _ _, Nat.zero_le _, Nat.zero_le _, Nat.zero_le _⟩
  · have hcs : [Value.slice a len cap] = [Value.slice (some a') len' cap'] := hcs
    injection hcs with hcs _
    injection hcs with e1 e2 e3
    subst e1 e2 e3
    simp only [if_true] at hmm
    subst hmm
    have each : ∀ i, i < len → ∃ x : α, ∀ j, j < n → W.cell? (a'.add (i * n + j)) = (E x)[j]? := fun i hil => by
      obtain ⟨cs', h1, h2⟩ := hi i (by omega)
      obtain ⟨x, rfl⟩ := dec _ _ _ h2
      rw [hc] at h1
      obtain ⟨_, _, hcell⟩ := World.cells?_some h1
      refine ⟨x, fun j hj => ?_⟩
      have := hcell j hj
      rwa [add_add] at this
    by_cases hz : len = 0
    · subst hz
      exact ⟨_, _, _, [], rfl, IsT.nil _ _ _ _, Nat.zero_le _, Nat.zero_le _, hm⟩
    · obtain ⟨x0, _⟩ := each 0 (by omega)
      haveI : Inhabited α := ⟨x0⟩
      obtain ⟨z, hz'⟩ := choose_lt each
      refine ⟨_, _, _, (List.range len).map z, rfl, ⟨by simp, fun _ => ?_⟩, Nat.le_trans hl hm, hl, hm⟩
      have c0 := hz' 0 (by omega) 0 hn
      obtain ⟨v0, hv0⟩ : ∃ v0, (E (z 0))[0]? = some v0 := ⟨_, List.getElem?_eq_getElem (by rw [h0]; exact hn)⟩
      rw [hv0] at c0
      have hlt := World.block_lt_of_cell? W _ c0
      have hsp := World.cell?_spot c0
      obtain ⟨b, off, spot⟩ := a'
      have hspot : spot = none := by simpa [Addr.add] using hsp
      subst hspot
      rw [block_add] at hlt
      refine ⟨b, off, rfl, hlt, fun j x hx i v hv => ?_⟩
      have hj : j < len := by
        have := (List.getElem?_eq_some_iff.1 hx).1
        simpa using this
      have hx' : x = z j := by
        rw [List.getElem?_map, List.getElem?_range hj] at hx
        simpa using hx.symm
      subst hx'
      have hin : i < n := by
        have := (List.getElem?_eq_some_iff.1 hv).1
        rwa [h0] at this
      have := hz' j hj i hin
      rw [add_plain, hv] at this
      rw [← this]
      congr 2
      omega

theorem dec_pair {W : World} {base : Nat} {spare : Nat → Bool} {held : Bool} (fuel : Nat) (cs : List Value) (y : DataW H × List MemPlace)
    (h : DataW.trod enc Tryd.prog W base spare held fuel 53 cs = some y) : ∃ x : Int × Int × Int, cs = pairCells x := by
  obtain ⟨y0, y1, n, rfl, hl, g0, g1⟩ := trod_struct2 Tryd.underlying53 h
  rw [show Tryd.prog.cellsOf 53 = 3 by kernel_rfl] at hl
  match cs, hl with
  | [c0, c1, c2], _ =>
    obtain ⟨u0, u1, k, rfl, _, k0, k1⟩ := trod_struct2 Tryd.underlying49 g1
    obtain ⟨a, e0, _, _⟩ := DataW.trod_int Tryd.underlying3 g0
    obtain ⟨b, e1, _, _⟩ := DataW.trod_int Tryd.underlying3 k0
    obtain ⟨c, e2, _, _⟩ := DataW.trod_int Tryd.underlying3 k1
    simp [cells_int, cells_span] at e0 e1 e2
    subst e0 e1 e2
    exact ⟨(a, b, c), rfl⟩

end
end Go.Proofs.YtpnoinkiblnplaaDoor
end
section
/- The frame of the laws over machines: how arguments that are a machine, a list of faults, a list of spans are opened and shut, over this seat's translation (written by mk_opn.py). -/
namespace Go.Proofs.YtpnoinkiblnplaaDoor
set_option linter.unusedVariables false
set_option linter.unusedSimpArgs false
set_option maxRecDepth 100000
open Go.ChangeShapes Go.WideShapes Go.ChangeAt Go.RowKit Go.Joins Go.Deep

theorem cells_string : Tryd.prog.cellsOf 9 = 1 := by kernel_rfl

section
variable {H : Type} {enc : TypeId × Value → H}

/-- open_isT, from a reading of cells. -/
theorem open_isTc {α : Type} {E : α → List Value} {n : Nat} (h0 : ∀ x, (E x).length = n) {t e : TypeId} {W : World} {fuel : Nat} {cs : List Value} {y : DataW H × List MemPlace}
    (ht : Tryd.prog.underlying t = some (.slice e)) (hc : Tryd.prog.cellsOf e = n) (hn : 0 < n)
    (dec : ∀ (fuel : Nat) (cs : List Value) (y : DataW H × List MemPlace), DataW.trod enc Tryd.prog W 0 (fun _ => true) true fuel e cs = some y → ∃ x : α, cs = E x)
    (hf : DataW.trod enc Tryd.prog W 0 (fun _ => true) true fuel t cs = some y) :
    ∃ (A : Option Addr) (len cap : Nat) (zs : List α), cs = [.slice A len cap] ∧ IsT n E W A len zs ∧ len ≤ cap ∧ cap ≤ maxLen := by
  rcases open_slice ht hf with ⟨hcs, hx⟩ | ⟨a', len, cap, m, k, D, Pl, hcs, hb, hl, hm, hmm, hx, hi⟩
  · exact ⟨_, _, _, [], hcs, IsT.nil _ _ _ _, Nat.zero_le _, Nat.zero_le _⟩
  · simp only [if_true] at hmm
    subst hmm
    subst hcs
    have each : ∀ i, i < len → ∃ x : α, ∀ j, j < n → W.cell? (a'.add (i * n + j)) = (E x)[j]? := fun i hil => by
      obtain ⟨cs', h1, h2⟩ := hi i (by omega)
      obtain ⟨x, rfl⟩ := dec _ _ _ h2
      rw [hc] at h1
      obtain ⟨_, _, hcell⟩ := World.cells?_some h1
      refine ⟨x, fun j hj => ?_⟩
      have := hcell j hj
      rwa [add_add] at this
    by_cases hz : len = 0
    · subst hz
      exact ⟨_, _, _, [], rfl, IsT.nil _ _ _ _, Nat.zero_le _, hm⟩
    · obtain ⟨x0, _⟩ := each 0 (by omega)
      haveI : Inhabited α := ⟨x0⟩
      obtain ⟨z, hz'⟩ := choose_lt each
      refine ⟨_, _, _, (List.range len).map z, rfl, ⟨by simp, fun _ => ?_⟩, hl, hm⟩
      have c0 := hz' 0 (by omega) 0 hn
      obtain ⟨v0, hv0⟩ : ∃ v0, (E (z 0))[0]? = some v0 := ⟨_, List.getElem?_eq_getElem (by rw [h0]; exact hn)⟩
      rw [hv0] at c0
      have hlt := World.block_lt_of_cell? W _ c0
      have hsp := World.cell?_spot c0
      obtain ⟨b, off, spot⟩ := a'
      have hspot : spot = none := by simpa [Addr.add] using hsp
      subst hspot
      rw [block_add] at hlt
      refine ⟨b, off, rfl, hlt, fun j x hx i v hv => ?_⟩
      have hj : j < len := by
        have := (List.getElem?_eq_some_iff.1 hx).1
        simpa using this
      have hx' : x = z j := by
        rw [List.getElem?_map, List.getElem?_range hj] at hx
        simpa using hx.symm
      subst hx'
      have hin : i < n := by
        have := (List.getElem?_eq_some_iff.1 hv).1
        rwa [h0] at this
      have := hz' j hj i hin
      rw [add_plain, hv] at this
      rw [← this]
      congr 2
      omega

theorem dec_Coil {W : World} {base : Nat} {spare : Nat → Bool} {held : Bool} (fuel : Nat) (cs : List Value) (y : DataW H × List MemPlace)
    (h : DataW.trod enc Tryd.prog W base spare held fuel 121 cs = some y) : ∃ x : CoilD, cs = x.cells := by
  obtain ⟨xs, n, -, -, hl, hlen, hf⟩ := DataW.trod_struct Tryd.underlying121 h
  rw [show Tryd.prog.cellsOf 121 = 8 by kernel_rfl] at hl
  match xs, hlen with
  | [y0, y1, y2, y3, y4, y5, y6, y7], _ =>
    match cs, hl with
    | [c0, c1, c2, c3, c4, c5, c6, c7], _ =>
      obtain ⟨a0, e0, -, -⟩ := DataW.trod_string Tryd.underlying9 ((hf 0 _ rfl).trans (rfl : _ = some y0))
      obtain ⟨a1, e1, -, -⟩ := DataW.trod_int Tryd.underlying3 ((hf 1 _ rfl).trans (rfl : _ = some y1))
      obtain ⟨a2, e2, -, -⟩ := DataW.trod_int Tryd.underlying3 ((hf 2 _ rfl).trans (rfl : _ = some y2))
      obtain ⟨a3, e3, -, -⟩ := DataW.trod_int Tryd.underlying3 ((hf 3 _ rfl).trans (rfl : _ = some y3))
      obtain ⟨a4, e4, -, -⟩ := DataW.trod_int Tryd.underlying3 ((hf 4 _ rfl).trans (rfl : _ = some y4))
      obtain ⟨a5, e5, -, -⟩ := DataW.trod_int Tryd.underlying3 ((hf 5 _ rfl).trans (rfl : _ = some y5))
      obtain ⟨a6, e6, -, -⟩ := DataW.trod_int Tryd.underlying3 ((hf 6 _ rfl).trans (rfl : _ = some y6))
      obtain ⟨a7, e7, -, -⟩ := DataW.trod_int Tryd.underlying3 ((hf 7 _ rfl).trans (rfl : _ = some y7))
      simp [cells_int, cells_string] at e0
      simp [cells_int, cells_string] at e1
      simp [cells_int, cells_string] at e2
      simp [cells_int, cells_string] at e3
      simp [cells_int, cells_string] at e4
      simp [cells_int, cells_string] at e5
      simp [cells_int, cells_string] at e6
      simp [cells_int, cells_string] at e7
      subst e0 e1 e2 e3 e4 e5 e6 e7
      exact ⟨⟨a0, a1, a2, a3, a4, a5, a6, a7⟩, rfl⟩

theorem dec_Shell {W : World} {base : Nat} {spare : Nat → Bool} {held : Bool} (fuel : Nat) (cs : List Value) (y : DataW H × List MemPlace)
    (h : DataW.trod enc Tryd.prog W base spare held fuel 125 cs = some y) : ∃ x : ShellD, cs = x.cells := by
  obtain ⟨xs, n, -, -, hl, hlen, hf⟩ := DataW.trod_struct Tryd.underlying125 h
  rw [show Tryd.prog.cellsOf 125 = 4 by kernel_rfl] at hl
  match xs, hlen with
  | [y0, y1, y2, y3], _ =>
    match cs, hl with
    | [c0, c1, c2, c3], _ =>
      obtain ⟨a0, e0, -, -⟩ := DataW.trod_int Tryd.underlying3 ((hf 0 _ rfl).trans (rfl : _ = some y0))
      obtain ⟨a1, e1, -, -⟩ := DataW.trod_int Tryd.underlying3 ((hf 1 _ rfl).trans (rfl : _ = some y1))
      obtain ⟨a2, e2, -, -⟩ := DataW.trod_int Tryd.underlying3 ((hf 2 _ rfl).trans (rfl : _ = some y2))
      obtain ⟨a3, e3, -, -⟩ := DataW.trod_int Tryd.underlying3 ((hf 3 _ rfl).trans (rfl : _ = some y3))
      simp [cells_int, cells_string] at e0
      simp [cells_int, cells_string] at e1
      simp [cells_int, cells_string] at e2
      simp [cells_int, cells_string] at e3
      subst e0 e1 e2 e3
      exact ⟨⟨a0, a1, a2, a3⟩, rfl⟩

theorem dec_Point {W : World} {base : Nat} {spare : Nat → Bool} {held : Bool} (fuel : Nat) (cs : List Value) (y : DataW H × List MemPlace)
    (h : DataW.trod enc Tryd.prog W base spare held fuel 55 cs = some y) : ∃ x : PointD, cs = x.cells := by
  obtain ⟨xs, n, -, -, hl, hlen, hf⟩ := DataW.trod_struct Tryd.underlying55 h
  rw [show Tryd.prog.cellsOf 55 = 2 by kernel_rfl] at hl
  match xs, hlen with
  | [y0, y1], _ =>
    match cs, hl with
    | [c0, c1], _ =>
      obtain ⟨a0, e0, -, -⟩ := DataW.trod_int Tryd.underlying3 ((hf 0 _ rfl).trans (rfl : _ = some y0))
      obtain ⟨a1, e1, -, -⟩ := DataW.trod_int Tryd.underlying3 ((hf 1 _ rfl).trans (rfl : _ = some y1))
      simp [cells_int, cells_string] at e0
      simp [cells_int, cells_string] at e1
      subst e0 e1
      exact ⟨⟨a0, a1⟩, rfl⟩

theorem dec_Sensor {W : World} {base : Nat} {spare : Nat → Bool} {held : Bool} (fuel : Nat) (cs : List Value) (y : DataW H × List MemPlace)
    (h : DataW.trod enc Tryd.prog W base spare held fuel 57 cs = some y) : ∃ x : SensorD, cs = x.cells := by
  obtain ⟨xs, n, -, -, hl, hlen, hf⟩ := DataW.trod_struct Tryd.underlying57 h
  rw [show Tryd.prog.cellsOf 57 = 5 by kernel_rfl] at hl
  match xs, hlen with
  | [y0, y1, y2, y3, y4], _ =>
    match cs, hl with
    | [c0, c1, c2, c3, c4], _ =>
      obtain ⟨a0, e0, -, -⟩ := DataW.trod_string Tryd.underlying9 ((hf 0 _ rfl).trans (rfl : _ = some y0))
      obtain ⟨a1, e1, -, -⟩ := DataW.trod_int Tryd.underlying3 ((hf 1 _ rfl).trans (rfl : _ = some y1))
      obtain ⟨a2, e2, -, -⟩ := DataW.trod_int Tryd.underlying3 ((hf 2 _ rfl).trans (rfl : _ = some y2))
      obtain ⟨a3, e3, -, -⟩ := DataW.trod_int Tryd.underlying3 ((hf 3 _ rfl).trans (rfl : _ = some y3))
      obtain ⟨a4, e4, -, -⟩ := DataW.trod_int Tryd.underlying3 ((hf 4 _ rfl).trans (rfl : _ = some y4))
      simp [cells_int, cells_string] at e0
      simp [cells_int, cells_string] at e1
      simp [cells_int, cells_string] at e2
      simp [cells_int, cells_string] at e3
      simp [cells_int, cells_string] at e4
      subst e0 e1 e2 e3 e4
      exact ⟨⟨a0, a1, a2, a3, a4⟩, rfl⟩

theorem dec_Fault {W : World} {base : Nat} {spare : Nat → Bool} {held : Bool} (fuel : Nat) (cs : List Value) (y : DataW H × List MemPlace)
    (h : DataW.trod enc Tryd.prog W base spare held fuel 111 cs = some y) : ∃ x : FaultD, cs = x.cells := by
  obtain ⟨xs, n, -, -, hl, hlen, hf⟩ := DataW.trod_struct Tryd.underlying111 h
  rw [show Tryd.prog.cellsOf 111 = 4 by kernel_rfl] at hl
  match xs, hlen with
  | [y0, y1, y2, y3], _ =>
    match cs, hl with
    | [c0, c1, c2, c3], _ =>
      obtain ⟨a0, e0, -, -⟩ := DataW.trod_int Tryd.underlying3 ((hf 0 _ rfl).trans (rfl : _ = some y0))
      obtain ⟨a1, e1, -, -⟩ := DataW.trod_int Tryd.underlying3 ((hf 1 _ rfl).trans (rfl : _ = some y1))
      obtain ⟨a2, e2, -, -⟩ := DataW.trod_int Tryd.underlying3 ((hf 2 _ rfl).trans (rfl : _ = some y2))
      obtain ⟨a3, e3, -, -⟩ := DataW.trod_int Tryd.underlying3 ((hf 3 _ rfl).trans (rfl : _ = some y3))
      simp [cells_int, cells_string] at e0
      simp [cells_int, cells_string] at e1
      simp [cells_int, cells_string] at e2
      simp [cells_int, cells_string] at e3
      subst e0 e1 e2 e3
      exact ⟨⟨a0, a1, a2, a3⟩, rfl⟩

theorem dec_Span {W : World} {base : Nat} {spare : Nat → Bool} {held : Bool} (fuel : Nat) (cs : List Value) (y : DataW H × List MemPlace)
    (h : DataW.trod enc Tryd.prog W base spare held fuel 49 cs = some y) : ∃ x : SpanD, cs = x.cells := by
  obtain ⟨xs, n, -, -, hl, hlen, hf⟩ := DataW.trod_struct Tryd.underlying49 h
  rw [show Tryd.prog.cellsOf 49 = 2 by kernel_rfl] at hl
  match xs, hlen with
  | [y0, y1], _ =>
    match cs, hl with
    | [c0, c1], _ =>
      obtain ⟨a0, e0, -, -⟩ := DataW.trod_int Tryd.underlying3 ((hf 0 _ rfl).trans (rfl : _ = some y0))
      obtain ⟨a1, e1, -, -⟩ := DataW.trod_int Tryd.underlying3 ((hf 1 _ rfl).trans (rfl : _ = some y1))
      simp [cells_int, cells_string] at e0
      simp [cells_int, cells_string] at e1
      subst e0 e1
      exact ⟨⟨a0, a1⟩, rfl⟩

/-- A machine that reads: its lists, whatever their lengths. -/
structure OpM (w : World) (R : MachR) (M : MachD) : Prop where
  coils : IsT 8 CoilD.cells w R.A R.la M.coils
  shells : IsT 4 ShellD.cells w R.B R.lb M.shells
  limits : IsT 2 PointD.cells w R.C R.lc M.limits
  sensors : IsT 5 SensorD.cells w R.D R.ld M.sensors
  la : R.la ≤ R.ca
  lb : R.lb ≤ R.cb
  lc : R.lc ≤ R.cc
  ld : R.ld ≤ R.cd
  ca : R.ca ≤ 9223372036854775807
  cb : R.cb ≤ 9223372036854775807
  cc : R.cc ≤ 9223372036854775807
  cd : R.cd ≤ 9223372036854775807
theorem OpM.isM {w : World} {R : MachR} {M : MachD} (h : OpM w R M) (ka : R.la ≤ 1000000000000000) (kb : R.lb ≤ 1000000000000000) (kc : R.lc ≤ 1000000000000000) (kd : R.ld ≤ 1000000000000000) : IsM w R M :=
  ⟨h.coils, h.shells, h.limits, h.sensors, h.la, h.lb, h.lc, h.ld, h.ca, h.cb, h.cc, h.cd, ka, kb, kc, kd⟩

theorem open_machine {W : World} {b0 : Nat} {r : Reach} {v : Value} {d : DataW H} {p : List MemPlace}
    (hv : Value.okWide Tryd.prog W r b0 29 v) (h : DataW.Trod enc Tryd.prog W 0 (fun _ => true) true 29 v d p) :
    ∃ (R : MachR) (M : MachD), v = .agg (machCells R M) ∧ OpM W R M := by
  obtain ⟨⟨cs⟩, rfl, hsz⟩ := okWide_struct Tryd.underlying29 hv
  obtain ⟨fuel, hf0⟩ := h
  have hf1 : DataW.trod enc Tryd.prog W 0 (fun _ => true) true fuel 29 cs = some (d, p) := hf0
  obtain ⟨xs, n, -, -, hl, hlen, hf⟩ := DataW.trod_struct Tryd.underlying29 hf1
  rw [show Tryd.prog.cellsOf 29 = 10 by kernel_rfl] at hl
  match xs, hlen with
  | [y0, y1, y2, y3, y4, y5], _ =>
    match cs, hl with
    | [c0, c1, c2, c3, c4, c5, c6, c7, c8, c9], _ =>
      obtain ⟨name, e0, -, -⟩ := DataW.trod_string Tryd.underlying9 ((hf 0 _ rfl).trans (rfl : _ = some y0))
      obtain ⟨A, la, ca, coils, e1, h1, k1, m1⟩ := open_isTc (n := 8) (E := CoilD.cells) (fun _ => rfl) Tryd.underlying22 (by kernel_rfl) (by decide) dec_Coil ((hf 1 _ rfl).trans (rfl : _ = some y1))
      obtain ⟨B, lb, cb, shells, e2, h2, k2, m2⟩ := open_isTc (n := 4) (E := ShellD.cells) (fun _ => rfl) Tryd.underlying23 (by kernel_rfl) (by decide) dec_Shell ((hf 2 _ rfl).trans (rfl : _ = some y2))
      obtain ⟨C, lc, cc, limits, e3, h3, k3, m3⟩ := open_isTc (n := 2) (E := PointD.cells) (fun _ => rfl) Tryd.underlying24 (by kernel_rfl) (by decide) dec_Point ((hf 3 _ rfl).trans (rfl : _ = some y3))
      obtain ⟨D, ld, cd, sensors, e5, h5, k5, m5⟩ := open_isTc (n := 5) (E := SensorD.cells) (fun _ => rfl) Tryd.underlying27 (by kernel_rfl) (by decide) dec_Sensor ((hf 5 _ rfl).trans (rfl : _ = some y5))
      obtain ⟨gs, gn, -, -, gl, glen, gf⟩ := DataW.trod_struct Tryd.underlying26 ((hf 4 _ rfl).trans (rfl : _ = some y4))
      match gs, glen with
      | [z0, z1, z2, z3, z4], _ =>
        obtain ⟨a0, f0, -, -⟩ := DataW.trod_int Tryd.underlying3 ((gf 0 _ rfl).trans (rfl : _ = some z0))
        obtain ⟨a1, f1, -, -⟩ := DataW.trod_int Tryd.underlying3 ((gf 1 _ rfl).trans (rfl : _ = some z1))
        obtain ⟨a2, f2, -, -⟩ := DataW.trod_int Tryd.underlying3 ((gf 2 _ rfl).trans (rfl : _ = some z2))
        obtain ⟨a3, f3, -, -⟩ := DataW.trod_int Tryd.underlying3 ((gf 3 _ rfl).trans (rfl : _ = some z3))
        obtain ⟨a4, f4, -, -⟩ := DataW.trod_int Tryd.underlying3 ((gf 4 _ rfl).trans (rfl : _ = some z4))
        have cg : Tryd.prog.cellsOf 26 = 5 := by kernel_rfl
        have cs1 : Tryd.prog.cellsOf 22 = 1 := by kernel_rfl
        have cs2 : Tryd.prog.cellsOf 23 = 1 := by kernel_rfl
        have cs3 : Tryd.prog.cellsOf 24 = 1 := by kernel_rfl
        have cs5 : Tryd.prog.cellsOf 27 = 1 := by kernel_rfl
        simp [cells_int, cells_string, cg, cs1, cs2, cs3, cs5] at e0 e1 e2 e3 e5 f0 f1 f2 f3 f4
        subst e0 e1 e2 e3 e5 f0 f1 f2 f3 f4
        unfold maxLen at m1 m2 m3 m5
        exact ⟨⟨A, B, C, D, la, ca, lb, cb, lc, cc, ld, cd⟩, ⟨name, coils, shells, limits, ⟨a0, a1, a2, a3, a4⟩, sensors⟩, rfl, h1, h2, h3, h5, k1, k2, k3, k5, m1, m2, m3, m5⟩

theorem open_faults {W : World} {b0 : Nat} {r : Reach} {v : Value} {d : DataW H} {p : List MemPlace}
    (hv : Value.okWide Tryd.prog W r b0 61 v) (h : DataW.Trod enc Tryd.prog W 0 (fun _ => true) true 61 v d p) :
    ∃ (A : Option Addr) (len cap : Nat) (zs : List FaultD), v = .slice A len cap ∧ IsT 4 FaultD.cells W A len zs ∧ len ≤ maxLen ∧ len ≤ cap ∧ cap ≤ maxLen :=
  open_isT (n := 4) (E := FaultD.cells) (fun _ => rfl) Tryd.underlying61 (by kernel_rfl) (by decide) dec_Fault hv h

theorem open_spans {W : World} {b0 : Nat} {r : Reach} {v : Value} {d : DataW H} {p : List MemPlace}
    (hv : Value.okWide Tryd.prog W r b0 47 v) (h : DataW.Trod enc Tryd.prog W 0 (fun _ => true) true 47 v d p) :
    ∃ (A : Option Addr) (len cap : Nat) (zs : List SpanD), v = .slice A len cap ∧ IsT 2 SpanD.cells W A len zs ∧ len ≤ maxLen ∧ len ≤ cap ∧ cap ≤ maxLen :=
  open_isT (n := 2) (E := SpanD.cells) (fun _ => rfl) Tryd.underlying47 (by kernel_rfl) (by decide) dec_Span hv h

theorem shut_machine {W W' : World} {v : Value} {d : DataW H} {p : List MemPlace} (h : DataW.Trod enc Tryd.prog W 0 (fun _ => true) true 29 v d p) (hb : Below W.heap.size W W') (hlt : ∀ x ∈ p, x.block < W.heap.size) :
    DataW.Trod enc Tryd.prog W' 0 (fun b => decide (b < W.heap.size)) true 29 v d p :=
  Below.trod (by kernel_rfl) (by kernel_rfl) (of_decide_eq_true (by kernel_rfl)) h hb hlt
theorem shut_faults {W W' : World} {v : Value} {d : DataW H} {p : List MemPlace} (h : DataW.Trod enc Tryd.prog W 0 (fun _ => true) true 61 v d p) (hb : Below W.heap.size W W') (hlt : ∀ x ∈ p, x.block < W.heap.size) :
    DataW.Trod enc Tryd.prog W' 0 (fun b => decide (b < W.heap.size)) true 61 v d p :=
  Below.trod (by kernel_rfl) (by kernel_rfl) (of_decide_eq_true (by kernel_rfl)) h hb hlt
theorem shut_spans {W W' : World} {v : Value} {d : DataW H} {p : List MemPlace} (h : DataW.Trod enc Tryd.prog W 0 (fun _ => true) true 47 v d p) (hb : Below W.heap.size W W') (hlt : ∀ x ∈ p, x.block < W.heap.size) :
    DataW.Trod enc Tryd.prog W' 0 (fun b => decide (b < W.heap.size)) true 47 v d p :=
  Below.trod (by kernel_rfl) (by kernel_rfl) (of_decide_eq_true (by kernel_rfl)) h hb hlt

end
end Go.Proofs.YtpnoinkiblnplaaDoor
end
section
/- The frame of the laws over currents and spots: how such arguments are opened and shut, over this seat's translation. -/
namespace Go.Proofs.YtpnoinkiblnplaaDoor
set_option linter.unusedVariables false
set_option linter.unusedSimpArgs false
set_option maxRecDepth 100000
open Go.ChangeShapes Go.WideShapes Go.ChangeAt Go.RowKit Go.Joins Go.Deep

section
variable {H : Type} {enc : TypeId × Value → H}

theorem dec_intI {W : World} {base : Nat} {spare : Nat → Bool} {held : Bool} (fuel : Nat) (cs : List Value) (y : DataW H × List MemPlace)
    (h : DataW.trod enc Tryd.prog W base spare held fuel 3 cs = some y) : ∃ x : Int, cs = intCells x := by
  obtain ⟨a, e, _, _⟩ := DataW.trod_int Tryd.underlying3 h
  exact ⟨a, e⟩

/-- Currents that read: their lists, whatever their lengths. -/
structure OpC (w : World) (Q : CurR) (C : CurD) : Prop where
  coils : IsT 1 intCells w Q.A Q.la C.coils
  shells : IsT 1 intCells w Q.B Q.lb C.shells
  plasma : IsT 1 intCells w Q.C Q.lc C.plasma
  la : Q.la ≤ Q.ca
  lb : Q.lb ≤ Q.cb
  lc : Q.lc ≤ Q.cc
  ca : Q.ca ≤ 9223372036854775807
  cb : Q.cb ≤ 9223372036854775807
  cc : Q.cc ≤ 9223372036854775807
theorem OpC.isC {w : World} {Q : CurR} {C : CurD} (h : OpC w Q C) (ka : Q.la ≤ 1000000000000000) (kb : Q.lb ≤ 1000000000000000) (kc : Q.lc ≤ 1000000000000000) : IsC w Q C :=
  ⟨h.coils, h.shells, h.plasma, h.la, h.lb, h.lc, h.ca, h.cb, h.cc, ka, kb, kc⟩

theorem open_currents {W : World} {b0 : Nat} {r : Reach} {v : Value} {d : DataW H} {p : List MemPlace}
    (hv : Value.okWide Tryd.prog W r b0 32 v) (h : DataW.Trod enc Tryd.prog W 0 (fun _ => true) true 32 v d p) :
    ∃ (Q : CurR) (C : CurD), v = Q.v ∧ OpC W Q C := by
  obtain ⟨⟨cs⟩, rfl, hsz⟩ := okWide_struct Tryd.underlying32 hv
  obtain ⟨fuel, hf0⟩ := h
  have hf1 : DataW.trod enc Tryd.prog W 0 (fun _ => true) true fuel 32 cs = some (d, p) := hf0
  obtain ⟨xs, n, -, -, hl, hlen, hf⟩ := DataW.trod_struct Tryd.underlying32 hf1
  rw [show Tryd.prog.cellsOf 32 = 3 by kernel_rfl] at hl
  match xs, hlen with
  | [y0, y1, y2], _ =>
    match cs, hl with
    | [c0, c1, c2], _ =>
      obtain ⟨A, la, ca, z1, e0, h0, k0, m0⟩ := open_isTc (n := 1) (E := intCells) (fun _ => rfl) Tryd.underlying30 (by kernel_rfl) (by decide) dec_intI ((hf 0 _ rfl).trans (rfl : _ = some y0))
      obtain ⟨B, lb, cb, z2, e1, h1, k1, m1⟩ := open_isTc (n := 1) (E := intCells) (fun _ => rfl) Tryd.underlying30 (by kernel_rfl) (by decide) dec_intI ((hf 1 _ rfl).trans (rfl : _ = some y1))
      obtain ⟨C, lc, cc, z3, e2, h2, k2, m2⟩ := open_isTc (n := 1) (E := intCells) (fun _ => rfl) Tryd.underlying30 (by kernel_rfl) (by decide) dec_intI ((hf 2 _ rfl).trans (rfl : _ = some y2))
      have cs1 : Tryd.prog.cellsOf 30 = 1 := by kernel_rfl
      simp [cs1] at e0 e1 e2
      subst e0 e1 e2
      unfold maxLen at m0 m1 m2
      exact ⟨⟨A, B, C, la, ca, lb, cb, lc, cc⟩, ⟨z1, z2, z3⟩, rfl, h0, h1, h2, k0, k1, k2, m0, m1, m2⟩

theorem shut_currents {W W' : World} {v : Value} {d : DataW H} {p : List MemPlace} (h : DataW.Trod enc Tryd.prog W 0 (fun _ => true) true 32 v d p) (hb : Below W.heap.size W W') (hlt : ∀ x ∈ p, x.block < W.heap.size) :
    DataW.Trod enc Tryd.prog W' 0 (fun b => decide (b < W.heap.size)) true 32 v d p :=
  Below.trod (by kernel_rfl) (by kernel_rfl) (of_decide_eq_true (by kernel_rfl)) h hb hlt

theorem open_spot {W : World} {b0 : Nat} {r : Reach} {v : Value} {d : DataW H} {p : List MemPlace}
    (hv : Value.okWide Tryd.prog W r b0 34 v) (h : DataW.Trod enc Tryd.prog W 0 (fun _ => true) true 34 v d p) :
    ∃ s c i : Int, v = .agg #[.int .i64 s, .int .i64 c, .int .i64 i] ∧ (-9223372036854775808 ≤ s ∧ s ≤ 9223372036854775807) ∧ (-9223372036854775808 ≤ c ∧ c ≤ 9223372036854775807) ∧ (-9223372036854775808 ≤ i ∧ i ≤ 9223372036854775807) := by
  obtain ⟨⟨cs⟩, rfl, hsz⟩ := okWide_struct Tryd.underlying34 hv
  obtain ⟨fuel, hf0⟩ := h
  have hf1 : DataW.trod enc Tryd.prog W 0 (fun _ => true) true fuel 34 cs = some (d, p) := hf0
  obtain ⟨xs, n, -, -, hl, hlen, hf⟩ := DataW.trod_struct Tryd.underlying34 hf1
  rw [show Tryd.prog.cellsOf 34 = 3 by kernel_rfl] at hl
  match xs, hlen with
  | [y0, y1, y2], _ =>
    match cs, hl with
    | [c0, c1, c2], _ =>
      obtain ⟨a0, e0, -, w0⟩ := DataW.trod_int Tryd.underlying3 ((hf 0 _ rfl).trans (rfl : _ = some y0))
      obtain ⟨a1, e1, -, w1⟩ := DataW.trod_int Tryd.underlying3 ((hf 1 _ rfl).trans (rfl : _ = some y1))
      obtain ⟨a2, e2, -, w2⟩ := DataW.trod_int Tryd.underlying3 ((hf 2 _ rfl).trans (rfl : _ = some y2))
      simp [cells_int] at e0 e1 e2
      subst e0 e1 e2
      have bd : ∀ n : Int, (Lit.int .i64 n).wf = true → -9223372036854775808 ≤ n ∧ n ≤ 9223372036854775807 := fun n hn => by
        have h1 : IntKind.i64.min = -9223372036854775808 := by rfl
        have h2 : IntKind.i64.max = 9223372036854775807 := by rfl
        simp [Lit.wf] at hn
        omega
      exact ⟨a0, a1, a2, rfl, bd _ w0, bd _ w1, bd _ w2⟩

theorem shut_spot {W W' : World} {v : Value} {d : DataW H} {p : List MemPlace} (h : DataW.Trod enc Tryd.prog W 0 (fun _ => true) true 34 v d p) (hb : Below W.heap.size W W') (hlt : ∀ x ∈ p, x.block < W.heap.size) :
    DataW.Trod enc Tryd.prog W' 0 (fun b => decide (b < W.heap.size)) true 34 v d p :=
  Below.trod (by kernel_rfl) (by kernel_rfl) (of_decide_eq_true (by kernel_rfl)) h hb hlt

end
end Go.Proofs.YtpnoinkiblnplaaDoor
end
