import Derived.Test.YtapldonpflgnfaaGreatDoorLAN
import Derived.Test.YtapldonpflgnfaaGreatDoorLAR
import Derived.Test.YtapldonpflgnfaaGreatDoorLAS
import Derived.Test.YtapldonpflgnfaaGreatDoorLAW
import Derived.Test.YtapldonpflgnfaaGreatDoorLAX
import Derived.Test.YtapldonpflgnfaaGreatDoorLAY
import Derived.Test.YtapldonpflgnfaaGreatDoorLAZ
import Derived.Test.YtapldonpflgnfaaGreatDoorLBA
import Derived.Test.YtapldonpflgnfaaGreatDoorLBB
import Derived.Test.YtapldonpflgnfaaGreatDoorRows
import Derived.KernelRfl
import Derived.Laws.StructEq
namespace Go.Proofs.YtapldonpflgnfaaGreatDoor
set_option linter.unusedVariables false
set_option linter.unusedSimpArgs false
section
open Go.RowKit Go.Shelf
set_option maxRecDepth 100000 in
set_option maxHeartbeats 8000000 in
theorem rexact_val (R : MachR) (M : MachD) (Qr : CurR) (Cd : CurD) (i : Nat) (x : SensorD) (w : World) (hM : IsM w R M) (hC : IsC w Qr Cd) (hv : Fit2 M Cd) (hx : M.sensors[i]? = some x) :
  Calls Tryz.prog 74 #[.agg (machCells R M), Qr.v, .int .i64 i] w (Ret (.tuple #[.int .i64 (sensP (srcM M Cd) x), .int .i64 0]) w) := by
 have hs := (sound_of hv.check).sensors.2 x (List.mem_of_getElem? hx)
 have HV : Hid (∀ W, Below w.heap.size w W → Calls Tryz.prog 54 #[.agg (machCells R M), Qr.v] W (Ret (.bool true) W)) := Lib.hid (fun W hb => (by have := rvalid2_any R M Qr Cd W (hM.below hb) (hC.below hb); rw [fit2_iff.2 hv] at this; exact this))
 have HF := Lib.hid (fun W (hb : Below w.heap.size w W) => rflux_any R M Qr Cd x.r x.z W (hM.below hb) (hC.below hb) hv)
 have HG := Lib.hid (fun W (hb : Below w.heap.size w W) => rfield_any R M Qr Cd x.r x.z W (hM.below hb) (hC.below hb) hv (by omega) (by omega) (by omega) (by omega))
 have hi : i < R.ld := by have h1 := hM.sensors.1; have h2 := (List.getElem?_eq_some_iff.1 hx).1; omega
 obtain ⟨b, o, hD, hb0, hcl⟩ := hM.sensors.2 (show 0 < R.ld by omega)
 have X0 : Hid (w.cell? ⟨b, o + i * 5, none⟩ = some (.string x.name)) := Lib.hid (by have h := hcl i x hx 0 _ rfl; simpa using h)
 have X1 : Hid (w.cell? ⟨b, o + i * 5 + 1, none⟩ = some (.int .i64 x.kind)) := Lib.hid (by have h := hcl i x hx 1 _ rfl; simpa using h)
 have X2 : Hid (w.cell? ⟨b, o + i * 5 + 2, none⟩ = some (.int .i64 x.r)) := Lib.hid (by have h := hcl i x hx 2 _ rfl; simpa using h)
 have X3 : Hid (w.cell? ⟨b, o + i * 5 + 3, none⟩ = some (.int .i64 x.z)) := Lib.hid (by have h := hcl i x hx 3 _ rfl; simpa using h)
 have X4 : Hid (w.cell? ⟨b, o + i * 5 + 4, none⟩ = some (.int .i64 x.error)) := Lib.hid (by have h := hcl i x hx 4 _ rfl; simpa using h)
 have hkd := hM.kd
 have hw : wthn (i : Int) 0 ((R.ld : Int) - 1) = true := wthn_iff.2 (by omega)
 clear hM hC hv hx hcl
 unfold sensP
 generalize fluxP (x.r, x.z) (srcM M Cd) = V at *
 generalize fieldP (x.r, x.z) (srcM M Cd) = Fp at *
 obtain ⟨F1, F2⟩ := Fp
 obtain ⟨A, B, Cl, D, la, ca, lb, cb, lc, cl, ld, cd⟩ := R
 obtain ⟨name, coils, shells, limits, ⟨r, z, nr, nz, step⟩, sensors⟩ := M
 obtain ⟨A1, B1, C1, na, qa, nb, qb, nc, qc⟩ := Qr
 obtain ⟨xn, xk, xr, xz, xe⟩ := x
 dsimp only [machCells, CurR.v] at *
 subst hD
 have HW := Lib.hid (fun U => rwithin2_any (i : Int) 0 ((ld : Int) - 1) U)
 rw [hw] at HW
 have v0 : IntKind.i64.wrap ((ld : Int) - 1) = (ld : Int) - 1 := IntWalk.i64_in _ (by omega)
 have kk : Hid (xk = 1 ∨ xk = 2 ∨ xk = 3) := Lib.hid (by omega)
 clear hs hw
 obtain ⟨SV, hSV⟩ : ∃ SV, (if xk = 1 then V else if xk = 2 then F1 else F2) = SV := ⟨_, rfl⟩
 rw [hSV]
 have HSV := Lib.hid hSV
 clear hSV
 show Calls Tryz.prog 74 #[.agg #[.string name, .slice A la ca, .slice B lb cb, .slice Cl lc cl, .int .i64 r, .int .i64 z, .int .i64 nr, .int .i64 nz, .int .i64 step, .slice (some ⟨b, o, none⟩) ld cd], .agg #[.slice A1 na qa, .slice B1 nb qb, .slice C1 nc qc], .int .i64 i] w _
 go_enter Tryz.func74, Tryz.ntmps74
 go_upto_region 1 with (fail)
 have m0 : (((w.alloc (.cells #[.string name, .slice A la ca, .slice B lb cb, .slice Cl lc cl, .int .i64 r, .int .i64 z, .int .i64 nr, .int .i64 nz, .int .i64 step, .slice (some ⟨b, o, none⟩) ld cd] 29)).alloc (.cells #[.slice A1 na qa, .slice B1 nb qb, .slice C1 nc qc] 32))).cell? ⟨w.heap.size, 0, none⟩ = some (.string name) := by go_simp
 have m1 : (((w.alloc (.cells #[.string name, .slice A la ca, .slice B lb cb, .slice Cl lc cl, .int .i64 r, .int .i64 z, .int .i64 nr, .int .i64 nz, .int .i64 step, .slice (some ⟨b, o, none⟩) ld cd] 29)).alloc (.cells #[.slice A1 na qa, .slice B1 nb qb, .slice C1 nc qc] 32))).cell? ⟨w.heap.size, 1, none⟩ = some (.slice A la ca) := by go_simp
 have m2 : (((w.alloc (.cells #[.string name, .slice A la ca, .slice B lb cb, .slice Cl lc cl, .int .i64 r, .int .i64 z, .int .i64 nr, .int .i64 nz, .int .i64 step, .slice (some ⟨b, o, none⟩) ld cd] 29)).alloc (.cells #[.slice A1 na qa, .slice B1 nb qb, .slice C1 nc qc] 32))).cell? ⟨w.heap.size, 2, none⟩ = some (.slice B lb cb) := by go_simp
 have m3 : (((w.alloc (.cells #[.string name, .slice A la ca, .slice B lb cb, .slice Cl lc cl, .int .i64 r, .int .i64 z, .int .i64 nr, .int .i64 nz, .int .i64 step, .slice (some ⟨b, o, none⟩) ld cd] 29)).alloc (.cells #[.slice A1 na qa, .slice B1 nb qb, .slice C1 nc qc] 32))).cell? ⟨w.heap.size, 3, none⟩ = some (.slice Cl lc cl) := by go_simp
 have m4 : (((w.alloc (.cells #[.string name, .slice A la ca, .slice B lb cb, .slice Cl lc cl, .int .i64 r, .int .i64 z, .int .i64 nr, .int .i64 nz, .int .i64 step, .slice (some ⟨b, o, none⟩) ld cd] 29)).alloc (.cells #[.slice A1 na qa, .slice B1 nb qb, .slice C1 nc qc] 32))).cell? ⟨w.heap.size, 4, none⟩ = some (.int .i64 r) := by go_simp
 have m5 : (((w.alloc (.cells #[.string name, .slice A la ca, .slice B lb cb, .slice Cl lc cl, .int .i64 r, .int .i64 z, .int .i64 nr, .int .i64 nz, .int .i64 step, .slice (some ⟨b, o, none⟩) ld cd] 29)).alloc (.cells #[.slice A1 na qa, .slice B1 nb qb, .slice C1 nc qc] 32))).cell? ⟨w.heap.size, 5, none⟩ = some (.int .i64 z) := by go_simp
 have m6 : (((w.alloc (.cells #[.string name, .slice A la ca, .slice B lb cb, .slice Cl lc cl, .int .i64 r, .int .i64 z, .int .i64 nr, .int .i64 nz, .int .i64 step, .slice (some ⟨b, o, none⟩) ld cd] 29)).alloc (.cells #[.slice A1 na qa, .slice B1 nb qb, .slice C1 nc qc] 32))).cell? ⟨w.heap.size, 6, none⟩ = some (.int .i64 nr) := by go_simp
 have m7 : (((w.alloc (.cells #[.string name, .slice A la ca, .slice B lb cb, .slice Cl lc cl, .int .i64 r, .int .i64 z, .int .i64 nr, .int .i64 nz, .int .i64 step, .slice (some ⟨b, o, none⟩) ld cd] 29)).alloc (.cells #[.slice A1 na qa, .slice B1 nb qb, .slice C1 nc qc] 32))).cell? ⟨w.heap.size, 7, none⟩ = some (.int .i64 nz) := by go_simp
 have m8 : (((w.alloc (.cells #[.string name, .slice A la ca, .slice B lb cb, .slice Cl lc cl, .int .i64 r, .int .i64 z, .int .i64 nr, .int .i64 nz, .int .i64 step, .slice (some ⟨b, o, none⟩) ld cd] 29)).alloc (.cells #[.slice A1 na qa, .slice B1 nb qb, .slice C1 nc qc] 32))).cell? ⟨w.heap.size, 8, none⟩ = some (.int .i64 step) := by go_simp
 have m9 : (((w.alloc (.cells #[.string name, .slice A la ca, .slice B lb cb, .slice Cl lc cl, .int .i64 r, .int .i64 z, .int .i64 nr, .int .i64 nz, .int .i64 step, .slice (some ⟨b, o, none⟩) ld cd] 29)).alloc (.cells #[.slice A1 na qa, .slice B1 nb qb, .slice C1 nc qc] 32))).cell? ⟨w.heap.size, 9, none⟩ = some (.slice (some ⟨b, o, none⟩) ld cd) := by go_simp
 have q0 : (((w.alloc (.cells #[.string name, .slice A la ca, .slice B lb cb, .slice Cl lc cl, .int .i64 r, .int .i64 z, .int .i64 nr, .int .i64 nz, .int .i64 step, .slice (some ⟨b, o, none⟩) ld cd] 29)).alloc (.cells #[.slice A1 na qa, .slice B1 nb qb, .slice C1 nc qc] 32))).cell? ⟨w.heap.size + 1, 0, none⟩ = some (.slice A1 na qa) := by go_simp
 have q1 : (((w.alloc (.cells #[.string name, .slice A la ca, .slice B lb cb, .slice Cl lc cl, .int .i64 r, .int .i64 z, .int .i64 nr, .int .i64 nz, .int .i64 step, .slice (some ⟨b, o, none⟩) ld cd] 29)).alloc (.cells #[.slice A1 na qa, .slice B1 nb qb, .slice C1 nc qc] 32))).cell? ⟨w.heap.size + 1, 1, none⟩ = some (.slice B1 nb qb) := by go_simp
 have q2 : (((w.alloc (.cells #[.string name, .slice A la ca, .slice B lb cb, .slice Cl lc cl, .int .i64 r, .int .i64 z, .int .i64 nr, .int .i64 nz, .int .i64 step, .slice (some ⟨b, o, none⟩) ld cd] 29)).alloc (.cells #[.slice A1 na qa, .slice B1 nb qb, .slice C1 nc qc] 32))).cell? ⟨w.heap.size + 1, 2, none⟩ = some (.slice C1 nc qc) := by go_simp
 have hB0 : Below w.heap.size w (((w.alloc (.cells #[.string name, .slice A la ca, .slice B lb cb, .slice Cl lc cl, .int .i64 r, .int .i64 z, .int .i64 nr, .int .i64 nz, .int .i64 step, .slice (some ⟨b, o, none⟩) ld cd] 29)).alloc (.cells #[.slice A1 na qa, .slice B1 nb qb, .slice C1 nc qc] 32))) := by (repeat first | with_reducible exact Below.refl _ _ | (with_reducible refine Below.alloc ?_ ?_ _; rotate_left; exact (by first | omega | (simp; done))))
 have hz : w.heap.size + 1 < (((w.alloc (.cells #[.string name, .slice A la ca, .slice B lb cb, .slice Cl lc cl, .int .i64 r, .int .i64 z, .int .i64 nr, .int .i64 nz, .int .i64 step, .slice (some ⟨b, o, none⟩) ld cd] 29)).alloc (.cells #[.slice A1 na qa, .slice B1 nb qb, .slice C1 nc qc] 32))).heap.size := by simp
 obtain ⟨W0, hW0⟩ : ∃ W, ((w.alloc (.cells #[.string name, .slice A la ca, .slice B lb cb, .slice Cl lc cl, .int .i64 r, .int .i64 z, .int .i64 nr, .int .i64 nz, .int .i64 step, .slice (some ⟨b, o, none⟩) ld cd] 29)).alloc (.cells #[.slice A1 na qa, .slice B1 nb qb, .slice C1 nc qc] 32)) = W := ⟨_, rfl⟩
 rw [hW0] at m0 m1 m2 m3 m4 m5 m6 m7 m8 m9 q0 q1 q2 hB0 hz ⊢
 clear hW0
 have FM := Lib.hid (BoxL.mk10 (W := W0) (by omega) m0 m1 m2 m3 m4 m5 m6 m7 m8 m9)
 have FC := Lib.hid (BoxL.mk3 (W := W0) hz q0 q1 q2)
 clear m0 m1 m2 m3 m4 m5 m6 m7 m8 m9 q0 q1 q2
 have HB : Hid (∀ w' : World, Below W0.heap.size W0 w' → Below w.heap.size w w') := Lib.hid (fun w' h => hB0.trans (h.mono (by omega)))
 have m0 := (FM.out.below (Below.refl _ _)).at 0 (.string name) rfl
 have m1 := (FM.out.below (Below.refl _ _)).at 1 (.slice A la ca) rfl
 have m2 := (FM.out.below (Below.refl _ _)).at 2 (.slice B lb cb) rfl
 have m3 := (FM.out.below (Below.refl _ _)).at 3 (.slice Cl lc cl) rfl
 have m4 := (FM.out.below (Below.refl _ _)).at 4 (.int .i64 r) rfl
 have m5 := (FM.out.below (Below.refl _ _)).at 5 (.int .i64 z) rfl
 have m6 := (FM.out.below (Below.refl _ _)).at 6 (.int .i64 nr) rfl
 have m7 := (FM.out.below (Below.refl _ _)).at 7 (.int .i64 nz) rfl
 have m8 := (FM.out.below (Below.refl _ _)).at 8 (.int .i64 step) rfl
 have m9 := (FM.out.below (Below.refl _ _)).at 9 (.slice (some ⟨b, o, none⟩) ld cd) rfl
 have q0 := (FC.out.below (Below.refl _ _)).at 0 (.slice A1 na qa) rfl
 have q1 := (FC.out.below (Below.refl _ _)).at 1 (.slice B1 nb qb) rfl
 have q2 := (FC.out.below (Below.refl _ _)).at 2 (.slice C1 nc qc) rfl
 go_wp2_with fail
 refine (HV.out _ (HB.out _ (by (repeat with_reducible exact Below.refl _ _)))).mono ?_
 rintro e w1 ⟨rfl, hb⟩
 have hB1 : Below W0.heap.size W0 w1 := Below.trans (by (repeat with_reducible exact Below.refl _ _)) (hb.mono (by (try simp only [World.size_alloc, World.size_setCell, size_drew]); omega))
 clear hb m0 m1 m2 m3 m4 m5 m6 m7 m8 m9 q0 q1 q2
 have sz1 := hB1.size
 have m0 := (FM.out.below hB1).at 0 (.string name) rfl
 have m1 := (FM.out.below hB1).at 1 (.slice A la ca) rfl
 have m2 := (FM.out.below hB1).at 2 (.slice B lb cb) rfl
 have m3 := (FM.out.below hB1).at 3 (.slice Cl lc cl) rfl
 have m4 := (FM.out.below hB1).at 4 (.int .i64 r) rfl
 have m5 := (FM.out.below hB1).at 5 (.int .i64 z) rfl
 have m6 := (FM.out.below hB1).at 6 (.int .i64 nr) rfl
 have m7 := (FM.out.below hB1).at 7 (.int .i64 nz) rfl
 have m8 := (FM.out.below hB1).at 8 (.int .i64 step) rfl
 have m9 := (FM.out.below hB1).at 9 (.slice (some ⟨b, o, none⟩) ld cd) rfl
 have q0 := (FC.out.below hB1).at 0 (.slice A1 na qa) rfl
 have q1 := (FC.out.below hB1).at 1 (.slice B1 nb qb) rfl
 have q2 := (FC.out.below hB1).at 2 (.slice C1 nc qc) rfl
 have x0 : w1.cell? ⟨b, o + i * 5, none⟩ = some (.string xn) := ((HB.out _ hB1).cell (p := ⟨b, o + i * 5, none⟩) hb0).trans X0.out
 have x1 : w1.cell? ⟨b, o + i * 5 + 1, none⟩ = some (.int .i64 xk) := ((HB.out _ hB1).cell (p := ⟨b, o + i * 5 + 1, none⟩) hb0).trans X1.out
 have x2 : w1.cell? ⟨b, o + i * 5 + 2, none⟩ = some (.int .i64 xr) := ((HB.out _ hB1).cell (p := ⟨b, o + i * 5 + 2, none⟩) hb0).trans X2.out
 have x3 : w1.cell? ⟨b, o + i * 5 + 3, none⟩ = some (.int .i64 xz) := ((HB.out _ hB1).cell (p := ⟨b, o + i * 5 + 3, none⟩) hb0).trans X3.out
 have x4 : w1.cell? ⟨b, o + i * 5 + 4, none⟩ = some (.int .i64 xe) := ((HB.out _ hB1).cell (p := ⟨b, o + i * 5 + 4, none⟩) hb0).trans X4.out
 go_upto_region 5 with (go_at_call 94; refine (HW.out _).mono ?_; rintro e w7 ⟨rfl, rfl⟩)
 go_cut [8] (fun s wx => ∃ y : Nat, s = .pointer (some ⟨y, 0, none⟩) ∧ wx.cell? ⟨y, 1, none⟩ = some (.int .i64 xk) ∧ wx.cell? ⟨y, 2, none⟩ = some (.int .i64 xr) ∧ wx.cell? ⟨y, 3, none⟩ = some (.int .i64 xz) ∧ y < wx.heap.size ∧ Below W0.heap.size W0 wx)
 case first =>
  go_wp2_with fail
  go_meet
  exact ⟨_, rfl, by go_simp, by go_simp, by go_simp, (by (try simp only [World.size_alloc, World.size_setCell, size_drew]); omega), by (repeat first | with_reducible assumption | (with_reducible refine Below.alloc ?_ ?_ _; rotate_left; exact (by omega)))⟩
 case rest =>
  obtain ⟨y, rfl, y1, y2, y3, hy, hBx⟩ := hcut
  obtain ⟨W1, hW1⟩ : ∃ x, x = wc := ⟨_, rfl⟩
  subst hW1
  clear m0 m1 m2 m3 m4 m5 m6 m7 m8 m9 q0 q1 q2 x0 x1 x2 x3 x4
  have szx := hBx.size
  have m0 := (FM.out.below hBx).at 0 (.string name) rfl
  have m1 := (FM.out.below hBx).at 1 (.slice A la ca) rfl
  have m2 := (FM.out.below hBx).at 2 (.slice B lb cb) rfl
  have m3 := (FM.out.below hBx).at 3 (.slice Cl lc cl) rfl
  have m4 := (FM.out.below hBx).at 4 (.int .i64 r) rfl
  have m5 := (FM.out.below hBx).at 5 (.int .i64 z) rfl
  have m6 := (FM.out.below hBx).at 6 (.int .i64 nr) rfl
  have m7 := (FM.out.below hBx).at 7 (.int .i64 nz) rfl
  have m8 := (FM.out.below hBx).at 8 (.int .i64 step) rfl
  have m9 := (FM.out.below hBx).at 9 (.slice (some ⟨b, o, none⟩) ld cd) rfl
  have q0 := (FC.out.below hBx).at 0 (.slice A1 na qa) rfl
  have q1 := (FC.out.below hBx).at 1 (.slice B1 nb qb) rfl
  have q2 := (FC.out.below hBx).at 2 (.slice C1 nc qc) rfl
  go_wp2_with fail
  refine (HG.out _ (HB.out _ (by (repeat with_reducible assumption)))).mono ?_
  rintro e w3 ⟨rfl, hb3⟩
  have hB3 : Below W0.heap.size W0 w3 := hBx.trans (hb3.mono (by omega))
  have z1 : w3.cell? ⟨y, 1, none⟩ = some (.int .i64 xk) := (hb3.cell (p := ⟨y, 1, none⟩) hy).trans y1
  have z2 : w3.cell? ⟨y, 2, none⟩ = some (.int .i64 xr) := (hb3.cell (p := ⟨y, 2, none⟩) hy).trans y2
  have z3 : w3.cell? ⟨y, 3, none⟩ = some (.int .i64 xz) := (hb3.cell (p := ⟨y, 3, none⟩) hy).trans y3
  clear hb3 m0 m1 m2 m3 m4 m5 m6 m7 m8 m9 q0 q1 q2 y1 y2 y3
  have m0 := (FM.out.below hB3).at 0 (.string name) rfl
  have m1 := (FM.out.below hB3).at 1 (.slice A la ca) rfl
  have m2 := (FM.out.below hB3).at 2 (.slice B lb cb) rfl
  have m3 := (FM.out.below hB3).at 3 (.slice Cl lc cl) rfl
  have m4 := (FM.out.below hB3).at 4 (.int .i64 r) rfl
  have m5 := (FM.out.below hB3).at 5 (.int .i64 z) rfl
  have m6 := (FM.out.below hB3).at 6 (.int .i64 nr) rfl
  have m7 := (FM.out.below hB3).at 7 (.int .i64 nz) rfl
  have m8 := (FM.out.below hB3).at 8 (.int .i64 step) rfl
  have m9 := (FM.out.below hB3).at 9 (.slice (some ⟨b, o, none⟩) ld cd) rfl
  have q0 := (FC.out.below hB3).at 0 (.slice A1 na qa) rfl
  have q1 := (FC.out.below hB3).at 1 (.slice B1 nb qb) rfl
  have q2 := (FC.out.below hB3).at 2 (.slice C1 nc qc) rfl
  rcases kk.out with rfl | rfl | rfl
  ·have eSV : SV = V := by have h := HSV.out; simpa using h.symm
   subst eSV
   clear HSV
   go_wp2_with fail
   refine (HF.out _ (HB.out _ (by (repeat with_reducible assumption)))).mono ?_
   rintro e w4 ⟨rfl, hb4⟩
   have hB4 : Below W0.heap.size W0 w4 := hB3.trans (hb4.mono (by have := hB3.size; omega))
   go_wp2_with fail
   go_ret2
   exact ⟨rfl, HB.out _ (by (repeat with_reducible assumption))⟩
  ·have eSV : SV = F1 := by have h := HSV.out; simpa using h.symm
   subst eSV
   clear HSV
   go_wp2_with fail
   go_ret2
   exact ⟨rfl, HB.out _ (by (repeat with_reducible assumption))⟩
  ·have eSV : SV = F2 := by have h := HSV.out; simpa using h.symm
   subst eSV
   clear HSV
   go_wp2_with fail
   go_ret2
   exact ⟨rfl, HB.out _ (by (repeat with_reducible assumption))⟩
end
section
open Go.RowKit Go.Shelf
set_option maxRecDepth 100000 in
set_option maxHeartbeats 8000000 in
theorem rexact_any (R : MachR) (M : MachD) (Qr : CurR) (Cd : CurD) (i : Int) (w : World) (hM : IsM w R M) (hC : IsC w Qr Cd) :
  Calls Tryz.prog 74 #[.agg (machCells R M), Qr.v, .int .i64 i] w (Ret (.tuple #[.int .i64 (exactL M Cd i).1, .int .i64 (exactL M Cd i).2]) w) := by
 have hl := hM.sensors.1
 have hkd := hM.kd
 have HV := Lib.hid (fun W (hb : Below w.heap.size w W) => rvalid2_any R M Qr Cd W (hM.below hb) (hC.below hb))
 unfold exactL
 cases hv : validC M Cd
 ·rw [hv] at HV
  rw [if_neg (by decide)]
  clear hM hC hv hl
  obtain ⟨A, B, Cl, D, la, ca, lb, cb, lc, cl, ld, cd⟩ := R
  obtain ⟨name, coils, shells, limits, ⟨r, z, nr, nz, step⟩, sensors⟩ := M
  obtain ⟨A1, B1, C1, na, qa, nb, qb, nc, qc⟩ := Qr
  dsimp only [machCells, CurR.v] at *
  show Calls Tryz.prog 74 #[.agg #[.string name, .slice A la ca, .slice B lb cb, .slice Cl lc cl, .int .i64 r, .int .i64 z, .int .i64 nr, .int .i64 nz, .int .i64 step, .slice D ld cd], .agg #[.slice A1 na qa, .slice B1 nb qb, .slice C1 nc qc], .int .i64 i] w _
  go_enter Tryz.func74, Tryz.ntmps74
  go_upto_region 1 with (fail)
  have m0 : (((w.alloc (.cells #[.string name, .slice A la ca, .slice B lb cb, .slice Cl lc cl, .int .i64 r, .int .i64 z, .int .i64 nr, .int .i64 nz, .int .i64 step, .slice D ld cd] 29)).alloc (.cells #[.slice A1 na qa, .slice B1 nb qb, .slice C1 nc qc] 32))).cell? ⟨w.heap.size, 0, none⟩ = some (.string name) := by go_simp
  have m1 : (((w.alloc (.cells #[.string name, .slice A la ca, .slice B lb cb, .slice Cl lc cl, .int .i64 r, .int .i64 z, .int .i64 nr, .int .i64 nz, .int .i64 step, .slice D ld cd] 29)).alloc (.cells #[.slice A1 na qa, .slice B1 nb qb, .slice C1 nc qc] 32))).cell? ⟨w.heap.size, 1, none⟩ = some (.slice A la ca) := by go_simp
  have m2 : (((w.alloc (.cells #[.string name, .slice A la ca, .slice B lb cb, .slice Cl lc cl, .int .i64 r, .int .i64 z, .int .i64 nr, .int .i64 nz, .int .i64 step, .slice D ld cd] 29)).alloc (.cells #[.slice A1 na qa, .slice B1 nb qb, .slice C1 nc qc] 32))).cell? ⟨w.heap.size, 2, none⟩ = some (.slice B lb cb) := by go_simp
  have m3 : (((w.alloc (.cells #[.string name, .slice A la ca, .slice B lb cb, .slice Cl lc cl, .int .i64 r, .int .i64 z, .int .i64 nr, .int .i64 nz, .int .i64 step, .slice D ld cd] 29)).alloc (.cells #[.slice A1 na qa, .slice B1 nb qb, .slice C1 nc qc] 32))).cell? ⟨w.heap.size, 3, none⟩ = some (.slice Cl lc cl) := by go_simp
  have m4 : (((w.alloc (.cells #[.string name, .slice A la ca, .slice B lb cb, .slice Cl lc cl, .int .i64 r, .int .i64 z, .int .i64 nr, .int .i64 nz, .int .i64 step, .slice D ld cd] 29)).alloc (.cells #[.slice A1 na qa, .slice B1 nb qb, .slice C1 nc qc] 32))).cell? ⟨w.heap.size, 4, none⟩ = some (.int .i64 r) := by go_simp
  have m5 : (((w.alloc (.cells #[.string name, .slice A la ca, .slice B lb cb, .slice Cl lc cl, .int .i64 r, .int .i64 z, .int .i64 nr, .int .i64 nz, .int .i64 step, .slice D ld cd] 29)).alloc (.cells #[.slice A1 na qa, .slice B1 nb qb, .slice C1 nc qc] 32))).cell? ⟨w.heap.size, 5, none⟩ = some (.int .i64 z) := by go_simp
  have m6 : (((w.alloc (.cells #[.string name, .slice A la ca, .slice B lb cb, .slice Cl lc cl, .int .i64 r, .int .i64 z, .int .i64 nr, .int .i64 nz, .int .i64 step, .slice D ld cd] 29)).alloc (.cells #[.slice A1 na qa, .slice B1 nb qb, .slice C1 nc qc] 32))).cell? ⟨w.heap.size, 6, none⟩ = some (.int .i64 nr) := by go_simp
  have m7 : (((w.alloc (.cells #[.string name, .slice A la ca, .slice B lb cb, .slice Cl lc cl, .int .i64 r, .int .i64 z, .int .i64 nr, .int .i64 nz, .int .i64 step, .slice D ld cd] 29)).alloc (.cells #[.slice A1 na qa, .slice B1 nb qb, .slice C1 nc qc] 32))).cell? ⟨w.heap.size, 7, none⟩ = some (.int .i64 nz) := by go_simp
  have m8 : (((w.alloc (.cells #[.string name, .slice A la ca, .slice B lb cb, .slice Cl lc cl, .int .i64 r, .int .i64 z, .int .i64 nr, .int .i64 nz, .int .i64 step, .slice D ld cd] 29)).alloc (.cells #[.slice A1 na qa, .slice B1 nb qb, .slice C1 nc qc] 32))).cell? ⟨w.heap.size, 8, none⟩ = some (.int .i64 step) := by go_simp
  have m9 : (((w.alloc (.cells #[.string name, .slice A la ca, .slice B lb cb, .slice Cl lc cl, .int .i64 r, .int .i64 z, .int .i64 nr, .int .i64 nz, .int .i64 step, .slice D ld cd] 29)).alloc (.cells #[.slice A1 na qa, .slice B1 nb qb, .slice C1 nc qc] 32))).cell? ⟨w.heap.size, 9, none⟩ = some (.slice D ld cd) := by go_simp
  have q0 : (((w.alloc (.cells #[.string name, .slice A la ca, .slice B lb cb, .slice Cl lc cl, .int .i64 r, .int .i64 z, .int .i64 nr, .int .i64 nz, .int .i64 step, .slice D ld cd] 29)).alloc (.cells #[.slice A1 na qa, .slice B1 nb qb, .slice C1 nc qc] 32))).cell? ⟨w.heap.size + 1, 0, none⟩ = some (.slice A1 na qa) := by go_simp
  have q1 : (((w.alloc (.cells #[.string name, .slice A la ca, .slice B lb cb, .slice Cl lc cl, .int .i64 r, .int .i64 z, .int .i64 nr, .int .i64 nz, .int .i64 step, .slice D ld cd] 29)).alloc (.cells #[.slice A1 na qa, .slice B1 nb qb, .slice C1 nc qc] 32))).cell? ⟨w.heap.size + 1, 1, none⟩ = some (.slice B1 nb qb) := by go_simp
  have q2 : (((w.alloc (.cells #[.string name, .slice A la ca, .slice B lb cb, .slice Cl lc cl, .int .i64 r, .int .i64 z, .int .i64 nr, .int .i64 nz, .int .i64 step, .slice D ld cd] 29)).alloc (.cells #[.slice A1 na qa, .slice B1 nb qb, .slice C1 nc qc] 32))).cell? ⟨w.heap.size + 1, 2, none⟩ = some (.slice C1 nc qc) := by go_simp
  have hB0 : Below w.heap.size w (((w.alloc (.cells #[.string name, .slice A la ca, .slice B lb cb, .slice Cl lc cl, .int .i64 r, .int .i64 z, .int .i64 nr, .int .i64 nz, .int .i64 step, .slice D ld cd] 29)).alloc (.cells #[.slice A1 na qa, .slice B1 nb qb, .slice C1 nc qc] 32))) := by (repeat first | with_reducible exact Below.refl _ _ | (with_reducible refine Below.alloc ?_ ?_ _; rotate_left; exact (by first | omega | (simp; done))))
  have hz : w.heap.size + 1 < (((w.alloc (.cells #[.string name, .slice A la ca, .slice B lb cb, .slice Cl lc cl, .int .i64 r, .int .i64 z, .int .i64 nr, .int .i64 nz, .int .i64 step, .slice D ld cd] 29)).alloc (.cells #[.slice A1 na qa, .slice B1 nb qb, .slice C1 nc qc] 32))).heap.size := by simp
  obtain ⟨W0, hW0⟩ : ∃ W, ((w.alloc (.cells #[.string name, .slice A la ca, .slice B lb cb, .slice Cl lc cl, .int .i64 r, .int .i64 z, .int .i64 nr, .int .i64 nz, .int .i64 step, .slice D ld cd] 29)).alloc (.cells #[.slice A1 na qa, .slice B1 nb qb, .slice C1 nc qc] 32)) = W := ⟨_, rfl⟩
  rw [hW0] at m0 m1 m2 m3 m4 m5 m6 m7 m8 m9 q0 q1 q2 hB0 hz ⊢
  clear hW0
  have FM := Lib.hid (BoxL.mk10 (W := W0) (by omega) m0 m1 m2 m3 m4 m5 m6 m7 m8 m9)
  have FC := Lib.hid (BoxL.mk3 (W := W0) hz q0 q1 q2)
  clear m0 m1 m2 m3 m4 m5 m6 m7 m8 m9 q0 q1 q2
  have HB : Hid (∀ w' : World, Below W0.heap.size W0 w' → Below w.heap.size w w') := Lib.hid (fun w' h => hB0.trans (h.mono (by omega)))
  have m0 := (FM.out.below (Below.refl _ _)).at 0 (.string name) rfl
  have m1 := (FM.out.below (Below.refl _ _)).at 1 (.slice A la ca) rfl
  have m2 := (FM.out.below (Below.refl _ _)).at 2 (.slice B lb cb) rfl
  have m3 := (FM.out.below (Below.refl _ _)).at 3 (.slice Cl lc cl) rfl
  have m4 := (FM.out.below (Below.refl _ _)).at 4 (.int .i64 r) rfl
  have m5 := (FM.out.below (Below.refl _ _)).at 5 (.int .i64 z) rfl
  have m6 := (FM.out.below (Below.refl _ _)).at 6 (.int .i64 nr) rfl
  have m7 := (FM.out.below (Below.refl _ _)).at 7 (.int .i64 nz) rfl
  have m8 := (FM.out.below (Below.refl _ _)).at 8 (.int .i64 step) rfl
  have m9 := (FM.out.below (Below.refl _ _)).at 9 (.slice D ld cd) rfl
  have q0 := (FC.out.below (Below.refl _ _)).at 0 (.slice A1 na qa) rfl
  have q1 := (FC.out.below (Below.refl _ _)).at 1 (.slice B1 nb qb) rfl
  have q2 := (FC.out.below (Below.refl _ _)).at 2 (.slice C1 nc qc) rfl
  go_wp2_with fail
  refine (HV.out _ (HB.out _ (by (repeat with_reducible exact Below.refl _ _)))).mono ?_
  rintro e w1 ⟨rfl, hb⟩
  have hB1 : Below W0.heap.size W0 w1 := Below.trans (by (repeat with_reducible exact Below.refl _ _)) (hb.mono (by (try simp only [World.size_alloc, World.size_setCell, size_drew]); omega))
  clear hb m0 m1 m2 m3 m4 m5 m6 m7 m8 m9 q0 q1 q2
  have sz1 := hB1.size
  have m0 := (FM.out.below hB1).at 0 (.string name) rfl
  have m1 := (FM.out.below hB1).at 1 (.slice A la ca) rfl
  have m2 := (FM.out.below hB1).at 2 (.slice B lb cb) rfl
  have m3 := (FM.out.below hB1).at 3 (.slice Cl lc cl) rfl
  have m4 := (FM.out.below hB1).at 4 (.int .i64 r) rfl
  have m5 := (FM.out.below hB1).at 5 (.int .i64 z) rfl
  have m6 := (FM.out.below hB1).at 6 (.int .i64 nr) rfl
  have m7 := (FM.out.below hB1).at 7 (.int .i64 nz) rfl
  have m8 := (FM.out.below hB1).at 8 (.int .i64 step) rfl
  have m9 := (FM.out.below hB1).at 9 (.slice D ld cd) rfl
  have q0 := (FC.out.below hB1).at 0 (.slice A1 na qa) rfl
  have q1 := (FC.out.below hB1).at 1 (.slice B1 nb qb) rfl
  have q2 := (FC.out.below hB1).at 2 (.slice C1 nc qc) rfl
  go_wp2_with fail
  go_ret2
  exact ⟨rfl, HB.out _ (by (repeat with_reducible assumption))⟩
 rw [if_pos rfl]
 cases hw : wthn i 0 ((M.sensors.length : Int) - 1)
 ·rw [hv] at HV
  rw [if_neg (by decide)]
  rw [hl] at hw
  have HW := Lib.hid (fun U => rwithin2_any i 0 ((R.ld : Int) - 1) U)
  rw [hw] at HW
  have v0 : IntKind.i64.wrap ((R.ld : Int) - 1) = (R.ld : Int) - 1 := IntWalk.i64_in _ (by omega)
  clear hw
  clear hM hC hv hl
  obtain ⟨A, B, Cl, D, la, ca, lb, cb, lc, cl, ld, cd⟩ := R
  obtain ⟨name, coils, shells, limits, ⟨r, z, nr, nz, step⟩, sensors⟩ := M
  obtain ⟨A1, B1, C1, na, qa, nb, qb, nc, qc⟩ := Qr
  dsimp only [machCells, CurR.v] at *
  show Calls Tryz.prog 74 #[.agg #[.string name, .slice A la ca, .slice B lb cb, .slice Cl lc cl, .int .i64 r, .int .i64 z, .int .i64 nr, .int .i64 nz, .int .i64 step, .slice D ld cd], .agg #[.slice A1 na qa, .slice B1 nb qb, .slice C1 nc qc], .int .i64 i] w _
  go_enter Tryz.func74, Tryz.ntmps74
  go_upto_region 1 with (fail)
  have m0 : (((w.alloc (.cells #[.string name, .slice A la ca, .slice B lb cb, .slice Cl lc cl, .int .i64 r, .int .i64 z, .int .i64 nr, .int .i64 nz, .int .i64 step, .slice D ld cd] 29)).alloc (.cells #[.slice A1 na qa, .slice B1 nb qb, .slice C1 nc qc] 32))).cell? ⟨w.heap.size, 0, none⟩ = some (.string name) := by go_simp
  have m1 : (((w.alloc (.cells #[.string name, .slice A la ca, .slice B lb cb, .slice Cl lc cl, .int .i64 r, .int .i64 z, .int .i64 nr, .int .i64 nz, .int .i64 step, .slice D ld cd] 29)).alloc (.cells #[.slice A1 na qa, .slice B1 nb qb, .slice C1 nc qc] 32))).cell? ⟨w.heap.size, 1, none⟩ = some (.slice A la ca) := by go_simp
  have m2 : (((w.alloc (.cells #[.string name, .slice A la ca, .slice B lb cb, .slice Cl lc cl, .int .i64 r, .int .i64 z, .int .i64 nr, .int .i64 nz, .int .i64 step, .slice D ld cd] 29)).alloc (.cells #[.slice A1 na qa, .slice B1 nb qb, .slice C1 nc qc] 32))).cell? ⟨w.heap.size, 2, none⟩ = some (.slice B lb cb) := by go_simp
  have m3 : (((w.alloc (.cells #[.string name, .slice A la ca, .slice B lb cb, .slice Cl lc cl, .int .i64 r, .int .i64 z, .int .i64 nr, .int .i64 nz, .int .i64 step, .slice D ld cd] 29)).alloc (.cells #[.slice A1 na qa, .slice B1 nb qb, .slice C1 nc qc] 32))).cell? ⟨w.heap.size, 3, none⟩ = some (.slice Cl lc cl) := by go_simp
  have m4 : (((w.alloc (.cells #[.string name, .slice A la ca, .slice B lb cb, .slice Cl lc cl, .int .i64 r, .int .i64 z, .int .i64 nr, .int .i64 nz, .int .i64 step, .slice D ld cd] 29)).alloc (.cells #[.slice A1 na qa, .slice B1 nb qb, .slice C1 nc qc] 32))).cell? ⟨w.heap.size, 4, none⟩ = some (.int .i64 r) := by go_simp
  have m5 : (((w.alloc (.cells #[.string name, .slice A la ca, .slice B lb cb, .slice Cl lc cl, .int .i64 r, .int .i64 z, .int .i64 nr, .int .i64 nz, .int .i64 step, .slice D ld cd] 29)).alloc (.cells #[.slice A1 na qa, .slice B1 nb qb, .slice C1 nc qc] 32))).cell? ⟨w.heap.size, 5, none⟩ = some (.int .i64 z) := by go_simp
  have m6 : (((w.alloc (.cells #[.string name, .slice A la ca, .slice B lb cb, .slice Cl lc cl, .int .i64 r, .int .i64 z, .int .i64 nr, .int .i64 nz, .int .i64 step, .slice D ld cd] 29)).alloc (.cells #[.slice A1 na qa, .slice B1 nb qb, .slice C1 nc qc] 32))).cell? ⟨w.heap.size, 6, none⟩ = some (.int .i64 nr) := by go_simp
  have m7 : (((w.alloc (.cells #[.string name, .slice A la ca, .slice B lb cb, .slice Cl lc cl, .int .i64 r, .int .i64 z, .int .i64 nr, .int .i64 nz, .int .i64 step, .slice D ld cd] 29)).alloc (.cells #[.slice A1 na qa, .slice B1 nb qb, .slice C1 nc qc] 32))).cell? ⟨w.heap.size, 7, none⟩ = some (.int .i64 nz) := by go_simp
  have m8 : (((w.alloc (.cells #[.string name, .slice A la ca, .slice B lb cb, .slice Cl lc cl, .int .i64 r, .int .i64 z, .int .i64 nr, .int .i64 nz, .int .i64 step, .slice D ld cd] 29)).alloc (.cells #[.slice A1 na qa, .slice B1 nb qb, .slice C1 nc qc] 32))).cell? ⟨w.heap.size, 8, none⟩ = some (.int .i64 step) := by go_simp
  have m9 : (((w.alloc (.cells #[.string name, .slice A la ca, .slice B lb cb, .slice Cl lc cl, .int .i64 r, .int .i64 z, .int .i64 nr, .int .i64 nz, .int .i64 step, .slice D ld cd] 29)).alloc (.cells #[.slice A1 na qa, .slice B1 nb qb, .slice C1 nc qc] 32))).cell? ⟨w.heap.size, 9, none⟩ = some (.slice D ld cd) := by go_simp
  have q0 : (((w.alloc (.cells #[.string name, .slice A la ca, .slice B lb cb, .slice Cl lc cl, .int .i64 r, .int .i64 z, .int .i64 nr, .int .i64 nz, .int .i64 step, .slice D ld cd] 29)).alloc (.cells #[.slice A1 na qa, .slice B1 nb qb, .slice C1 nc qc] 32))).cell? ⟨w.heap.size + 1, 0, none⟩ = some (.slice A1 na qa) := by go_simp
  have q1 : (((w.alloc (.cells #[.string name, .slice A la ca, .slice B lb cb, .slice Cl lc cl, .int .i64 r, .int .i64 z, .int .i64 nr, .int .i64 nz, .int .i64 step, .slice D ld cd] 29)).alloc (.cells #[.slice A1 na qa, .slice B1 nb qb, .slice C1 nc qc] 32))).cell? ⟨w.heap.size + 1, 1, none⟩ = some (.slice B1 nb qb) := by go_simp
  have q2 : (((w.alloc (.cells #[.string name, .slice A la ca, .slice B lb cb, .slice Cl lc cl, .int .i64 r, .int .i64 z, .int .i64 nr, .int .i64 nz, .int .i64 step, .slice D ld cd] 29)).alloc (.cells #[.slice A1 na qa, .slice B1 nb qb, .slice C1 nc qc] 32))).cell? ⟨w.heap.size + 1, 2, none⟩ = some (.slice C1 nc qc) := by go_simp
  have hB0 : Below w.heap.size w (((w.alloc (.cells #[.string name, .slice A la ca, .slice B lb cb, .slice Cl lc cl, .int .i64 r, .int .i64 z, .int .i64 nr, .int .i64 nz, .int .i64 step, .slice D ld cd] 29)).alloc (.cells #[.slice A1 na qa, .slice B1 nb qb, .slice C1 nc qc] 32))) := by (repeat first | with_reducible exact Below.refl _ _ | (with_reducible refine Below.alloc ?_ ?_ _; rotate_left; exact (by first | omega | (simp; done))))
  have hz : w.heap.size + 1 < (((w.alloc (.cells #[.string name, .slice A la ca, .slice B lb cb, .slice Cl lc cl, .int .i64 r, .int .i64 z, .int .i64 nr, .int .i64 nz, .int .i64 step, .slice D ld cd] 29)).alloc (.cells #[.slice A1 na qa, .slice B1 nb qb, .slice C1 nc qc] 32))).heap.size := by simp
  obtain ⟨W0, hW0⟩ : ∃ W, ((w.alloc (.cells #[.string name, .slice A la ca, .slice B lb cb, .slice Cl lc cl, .int .i64 r, .int .i64 z, .int .i64 nr, .int .i64 nz, .int .i64 step, .slice D ld cd] 29)).alloc (.cells #[.slice A1 na qa, .slice B1 nb qb, .slice C1 nc qc] 32)) = W := ⟨_, rfl⟩
  rw [hW0] at m0 m1 m2 m3 m4 m5 m6 m7 m8 m9 q0 q1 q2 hB0 hz ⊢
  clear hW0
  have FM := Lib.hid (BoxL.mk10 (W := W0) (by omega) m0 m1 m2 m3 m4 m5 m6 m7 m8 m9)
  have FC := Lib.hid (BoxL.mk3 (W := W0) hz q0 q1 q2)
  clear m0 m1 m2 m3 m4 m5 m6 m7 m8 m9 q0 q1 q2
  have HB : Hid (∀ w' : World, Below W0.heap.size W0 w' → Below w.heap.size w w') := Lib.hid (fun w' h => hB0.trans (h.mono (by omega)))
  have m0 := (FM.out.below (Below.refl _ _)).at 0 (.string name) rfl
  have m1 := (FM.out.below (Below.refl _ _)).at 1 (.slice A la ca) rfl
  have m2 := (FM.out.below (Below.refl _ _)).at 2 (.slice B lb cb) rfl
  have m3 := (FM.out.below (Below.refl _ _)).at 3 (.slice Cl lc cl) rfl
  have m4 := (FM.out.below (Below.refl _ _)).at 4 (.int .i64 r) rfl
  have m5 := (FM.out.below (Below.refl _ _)).at 5 (.int .i64 z) rfl
  have m6 := (FM.out.below (Below.refl _ _)).at 6 (.int .i64 nr) rfl
  have m7 := (FM.out.below (Below.refl _ _)).at 7 (.int .i64 nz) rfl
  have m8 := (FM.out.below (Below.refl _ _)).at 8 (.int .i64 step) rfl
  have m9 := (FM.out.below (Below.refl _ _)).at 9 (.slice D ld cd) rfl
  have q0 := (FC.out.below (Below.refl _ _)).at 0 (.slice A1 na qa) rfl
  have q1 := (FC.out.below (Below.refl _ _)).at 1 (.slice B1 nb qb) rfl
  have q2 := (FC.out.below (Below.refl _ _)).at 2 (.slice C1 nc qc) rfl
  go_wp2_with fail
  refine (HV.out _ (HB.out _ (by (repeat with_reducible exact Below.refl _ _)))).mono ?_
  rintro e w1 ⟨rfl, hb⟩
  have hB1 : Below W0.heap.size W0 w1 := Below.trans (by (repeat with_reducible exact Below.refl _ _)) (hb.mono (by (try simp only [World.size_alloc, World.size_setCell, size_drew]); omega))
  clear hb m0 m1 m2 m3 m4 m5 m6 m7 m8 m9 q0 q1 q2
  have sz1 := hB1.size
  have m0 := (FM.out.below hB1).at 0 (.string name) rfl
  have m1 := (FM.out.below hB1).at 1 (.slice A la ca) rfl
  have m2 := (FM.out.below hB1).at 2 (.slice B lb cb) rfl
  have m3 := (FM.out.below hB1).at 3 (.slice Cl lc cl) rfl
  have m4 := (FM.out.below hB1).at 4 (.int .i64 r) rfl
  have m5 := (FM.out.below hB1).at 5 (.int .i64 z) rfl
  have m6 := (FM.out.below hB1).at 6 (.int .i64 nr) rfl
  have m7 := (FM.out.below hB1).at 7 (.int .i64 nz) rfl
  have m8 := (FM.out.below hB1).at 8 (.int .i64 step) rfl
  have m9 := (FM.out.below hB1).at 9 (.slice D ld cd) rfl
  have q0 := (FC.out.below hB1).at 0 (.slice A1 na qa) rfl
  have q1 := (FC.out.below hB1).at 1 (.slice B1 nb qb) rfl
  have q2 := (FC.out.below hB1).at 2 (.slice C1 nc qc) rfl
  go_wp2_with (go_at_call 94; refine (HW.out _).mono ?_; rintro e w7 ⟨rfl, rfl⟩)
  go_ret2
  exact ⟨rfl, HB.out _ (by (repeat with_reducible assumption))⟩
 ·rw [if_pos rfl]
  have hi := wthn_iff.1 hw
  obtain ⟨x, hx⟩ : ∃ x, M.sensors[i.toNat]? = some x := ⟨_, List.getElem?_eq_getElem (by omega)⟩
  rw [hx]
  have h := rexact_val R M Qr Cd i.toNat x w hM hC (fit2_iff.1 hv) hx
  rw [Int.toNat_of_nonneg hi.1] at h
  exact h
end
section
open Go.RowKit Go.Shelf
theorem backL_eq {M : MachD} {C : CurD} {s : Int} (hv : validC M C = true) : backL M C s = if wthn s 0 ((M.sensors.length : Int) - 1) = true then exactL M (darkD C) s else (0, 7) := by
 unfold backL
 rw [hv, if_pos rfl]
 cases hw : wthn s 0 ((M.sensors.length : Int) - 1)
 ·unfold exactL
  rw [fit2_iff.2 (dark_fit (fit2_iff.1 hv)), hw]; rfl
 ·rfl
end
section
open Go.RowKit Go.Shelf
def zeroD (la lb nc : Nat) : CurD := ⟨List.replicate la 0, List.replicate lb 0, List.replicate nc 0⟩
theorem zero_fit {M : MachD} (h : checkC M = 0) {nc : Nat} (hn : (nc : Int) = M.grid.nr * M.grid.nz) : Fit2 M (zeroD M.coils.length M.shells.length nc) :=
 ⟨h, ⟨by simp [zeroD], fun x hx => by have := List.eq_of_mem_replicate hx; omega⟩, ⟨by simp [zeroD], fun x hx => by have := List.eq_of_mem_replicate hx; omega⟩, ⟨by simp [zeroD, hn], fun x hx => by have := List.eq_of_mem_replicate hx; omega⟩, by
  show tot 0 (List.replicate nc 0) ≤ 1000000
  rw [tot_zeros4 _ 0 (by omega) (by omega)]; omega⟩
theorem flux_zero (p : Int × Int) : ∀ S : List Src, (∀ x ∈ S, x.2 = 0) → fluxP p S = 0
 | [], _ => rfl
 | x :: r, h => by
  show infl p.1 p.2 x.1.1 x.1.2 * x.2 + fluxP p r = 0
  rw [flux_zero p r (fun y hy => h y (List.mem_cons_of_mem _ hy)), h x (by simp)]; simp
theorem src_zero (M : MachD) (la lb nc : Nat) : ∀ x ∈ srcM M (zeroD la lb nc), x.2 = 0 := by
 intro x hx
 unfold srcM srcL zeroD at hx
 dsimp only at hx
 rw [List.mem_append, List.mem_append] at hx
 rcases hx with hx | hx | hx
 ·obtain ⟨k, hk⟩ := List.mem_iff_getElem?.1 hx
  rw [List.getElem?_zipWith] at hk
  cases h1 : M.coils[k]? with
  | none => rw [h1] at hk; cases hk
  | some c =>
   rw [h1] at hk
   cases h2 : (List.replicate la (0 : Int))[k]? with
   | none => rw [h2] at hk; cases hk
   | some y =>
    rw [h2] at hk
    have := List.eq_of_mem_replicate (List.mem_of_getElem? h2)
    subst this
    obtain rfl := Option.some.inj hk
    simp
 ·obtain ⟨k, hk⟩ := List.mem_iff_getElem?.1 hx
  rw [List.getElem?_zipWith] at hk
  cases h1 : M.shells[k]? with
  | none => rw [h1] at hk; cases hk
  | some c =>
   rw [h1] at hk
   cases h2 : (List.replicate lb (0 : Int))[k]? with
   | none => rw [h2] at hk; cases hk
   | some y =>
    rw [h2] at hk
    have := List.eq_of_mem_replicate (List.mem_of_getElem? h2)
    subst this
    obtain rfl := Option.some.inj hk
    simp
 ·unfold cellSrc at hx
  obtain ⟨j, -, rfl⟩ := List.mem_map.1 hx
  simp only [List.getElem?_replicate]
  split <;> simp
theorem sens_zero (M : MachD) (la lb nc : Nat) (x : SensorD) : sensP (srcM M (zeroD la lb nc)) x = 0 := by
 unfold sensP fieldP
 simp only [flux_zero _ _ (src_zero M la lb nc)]
 split <;> simp
theorem respL_eq {M : MachD} (h : checkC M = 0) {nc : Nat} (hn : (nc : Int) = M.grid.nr * M.grid.nz) {s : Int} {cell : Nat} (hs : wthn s 0 ((M.sensors.length : Int) - 1) = true) (hc : cell < nc) :
  respL M s cell = exactL M (unitD M.coils.length M.shells.length nc cell) s := by
 have hz := zero_fit h hn
 have hcl : cellL M cell = (cellR M.grid cell, cellZ M.grid cell, 0) := by
  unfold cellL
  rw [if_pos h, if_pos (wthn_iff.2 (by omega))]
 have c := wthn_iff.1 hs
 obtain ⟨x, hx⟩ : ∃ x, M.sensors[s.toNat]? = some x := ⟨_, List.getElem?_eq_getElem (by omega)⟩
 have hm := List.mem_of_getElem? hx
 have hD : filaD (zeroD M.coils.length M.shells.length nc) cell 1 = unitD M.coils.length M.shells.length nc cell := by
  unfold filaD zeroD unitD
  simp
 have hK : darkD (zeroD M.coils.length M.shells.length nc) = zeroD M.coils.length M.shells.length nc := by
  unfold darkD zeroD; simp
 have hf : Fit2 M (unitD M.coils.length M.shells.length nc cell) := by
  rw [← hD]
  refine fila_fit hz ?_
  unfold inB
  rw [Bool.and_eq_true]
  exact ⟨wthn_iff.2 (by simp [zeroD]; omega), wthn_iff.2 (by omega)⟩
 have e1 := sens_fila M (zeroD M.coils.length M.shells.length nc) cell 1 (by omega) (by simp [zeroD]; omega) x
 rw [hD, hK, sens_zero, Int.zero_add, Int.mul_one] at e1
 have e3 : respL M s cell = (sensOne x (cellR M.grid cell) (cellZ M.grid cell), 0) := by
  unfold respL
  rw [hcl, if_pos rfl, hs, if_pos rfl, hx]
  dsimp only
  rw [alone_exact h hm (cell_near h (by omega) (by omega))]
 have e4 : exactL M (unitD M.coils.length M.shells.length nc cell) s = (sensP (srcM M (unitD M.coils.length M.shells.length nc cell)) x, 0) := by
  unfold exactL
  rw [fit2_iff.2 hf, if_pos rfl, hs, if_pos rfl, hx]
 rw [e3, e4, e1]
end
section
set_option autoImplicit false
open Go.RowKit
section
variable {P : Program} {e0 : Cfg} {U : Snaps} {l : Slots} {L : Boxes} {ops : Array Oper} {Q : Exit → Act → World → Prop} {rest : List Oper} {d : Nat}
variable {ty : TypeId} {pos : String} {af : Array Edge} {g : Option (Nat × Bool)} {dd : Option Nat}
theorem IsT.from {α : Type} {z : Nat} {enc : α → List Value} {w : World} {A : Option Addr} {len cap lo : Nat} {zs : List α} (h : IsT z enc w A len zs) (hlo : lo ≤ len) (hcap : len ≤ cap) : IsT z enc w (if cap = lo then A else A.map (·.add (lo * z))) (len - lo) (zs.drop lo) := by
 by_cases h0 : 0 < len - lo
 ·obtain ⟨b, o, e, hb, hg⟩ := h.2 (by omega)
  subst e
  rw [if_neg (by omega)]
  have := h.drop lo
  simpa [addr_add] using this
 ·exact ⟨by rw [List.length_drop, h.1], fun h1 => absurd h1 h0⟩
end
end
section
open Go.RowKit
end
end Go.Proofs.YtapldonpflgnfaaGreatDoor
