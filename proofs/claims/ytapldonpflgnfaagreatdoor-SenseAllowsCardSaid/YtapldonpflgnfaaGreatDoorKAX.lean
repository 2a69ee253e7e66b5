import Derived.Test.YtapldonpflgnfaaGreatDoorKAP
import Derived.Test.YtapldonpflgnfaaGreatDoorKAQ
import Derived.Test.YtapldonpflgnfaaGreatDoorKAT
import Derived.Test.YtapldonpflgnfaaGreatDoorKAW
namespace Go.Proofs.YtapldonpflgnfaaGreatDoor
set_option linter.unusedVariables false
set_option linter.unusedSimpArgs false
section
open Go.RowKit Go.Shelf
structure QuietAt (B : Nat) (w' : World) (pa la pb lb pc nc : Nat) : Prop where
  coils : ZeroL pa la w'
  shells : ZeroL pb lb w'
  cells : ZeroL pc nc w'
  base : B ≤ pa ∧ B ≤ pb ∧ B ≤ pc
  apart : pa ≠ pc ∧ pb ≠ pc ∧ pa ≠ pb
def Quiet (la lb nc : Nat) (w : World) (e : Ending) (w' : World) : Prop :=
  ∃ (pa pb pc : Nat), e = .returned (.agg #[.slice (some ⟨pa, 0, none⟩) la la, .slice (some ⟨pb, 0, none⟩) lb lb, .slice (some ⟨pc, 0, none⟩) nc nc]) ∧ QuietAt w.heap.size w' pa la pb lb pc nc ∧ Below w.heap.size w w'
end
section
open Go.RowKit Go.Shelf
def sensP (S : List Src) (x : SensorD) : Int := if x.kind = 1 then fluxP (x.r, x.z) S else if x.kind = 2 then (fieldP (x.r, x.z) S).1 else (fieldP (x.r, x.z) S).2
def exactL (M : MachD) (C : CurD) (i : Int) : Int × Int :=
  if validC M C = true then if wthn i 0 ((M.sensors.length : Int) - 1) = true then match M.sensors[i.toNat]? with
    | some x => (sensP (srcM M C) x, 0)
    | none => (0, 7)
  else (0, 7) else (0, 1)
set_option maxRecDepth 100000 in
set_option maxHeartbeats 8000000 in
theorem exact_val (R : MachR) (M : MachD) (Qr : CurR) (Cd : CurD) (i : Nat) (x : SensorD) (w : World) (hM : IsM w R M) (hC : IsC w Qr Cd) (hv : Fit2 M Cd) (hx : M.sensors[i]? = some x) :
    Calls Tryz.prog 58 #[.agg (machCells R M), Qr.v, .int .i64 i] w (Ret (.tuple #[.int .i64 (sensP (srcM M Cd) x), .int .i64 0]) w) := by
  have hs := (sound_of hv.check).sensors.2 x (List.mem_of_getElem? hx)
  have HV0 := Lib.hid (fun W (hb : Below w.heap.size w W) => (by have := validCurrents_any R M Qr Cd W (hM.below hb) (hC.below hb); rw [fit2_iff.2 hv] at this; exact this : Calls Tryz.prog 56 #[.agg (machCells R M), Qr.v] W (Ret (.bool true) W)))
  have HF0 := Lib.hid (fun W (hb : Below w.heap.size w W) => fluxAt_any R M Qr Cd x.r x.z W (hM.below hb) (hC.below hb) hv)
  have HG0 := Lib.hid (fun W (hb : Below w.heap.size w W) => fieldAt_any R M Qr Cd x.r x.z W (hM.below hb) (hC.below hb) hv (by omega) (by omega) (by omega) (by omega))
  have hi : i < R.ld := by have h1 := hM.sensors.1; have h2 := (List.getElem?_eq_some_iff.1 hx).1; omega
  obtain ⟨b, o, hD, hb0, hcl⟩ := hM.sensors.2 (show 0 < R.ld by omega)
  have X0 : Hid (w.cell? ⟨b, o + i * 5, none⟩ = some (.string x.name)) := Lib.hid (by have h := hcl i x hx 0 _ rfl; simpa using h)
  have X1 : Hid (w.cell? ⟨b, o + i * 5 + 1, none⟩ = some (.int .i64 x.kind)) := Lib.hid (by have h := hcl i x hx 1 _ rfl; simpa using h)
  have X2 : Hid (w.cell? ⟨b, o + i * 5 + 2, none⟩ = some (.int .i64 x.r)) := Lib.hid (by have h := hcl i x hx 2 _ rfl; simpa using h)
  have X3 : Hid (w.cell? ⟨b, o + i * 5 + 3, none⟩ = some (.int .i64 x.z)) := Lib.hid (by have h := hcl i x hx 3 _ rfl; simpa using h)
  have X4 : Hid (w.cell? ⟨b, o + i * 5 + 4, none⟩ = some (.int .i64 x.error)) := Lib.hid (by have h := hcl i x hx 4 _ rfl; simpa using h)
  have hcd := hM.kd
  have hld := hM.ld
  have hw : wthn (i : Int) 0 ((R.ld : Int) - 1) = true := wthn_iff.2 (by omega)
  clear hM hC hv hx hcl
  unfold sensP
  generalize fluxP (x.r, x.z) (srcM M Cd) = V at *
  generalize fieldP (x.r, x.z) (srcM M Cd) = F at *
  obtain ⟨F1, F2⟩ := F
  obtain ⟨A, B, Cl, D, la, ca, lb, cb, lc, cl, ld, cd⟩ := R
  obtain ⟨name, coils, shells, limits, ⟨r, z, nr, nz, step⟩, sensors⟩ := M
  obtain ⟨A1, B1, C1, na, qa, nb, qb, nc, qc⟩ := Qr
  obtain ⟨xn, xk, xr, xz, xe⟩ := x
  dsimp only at *
  subst hD
  have HV := Lib.hid (show ∀ W, Below w.heap.size w W → Calls Tryz.prog 56 #[.agg #[.string name, .slice A la ca, .slice B lb cb, .slice Cl lc cl, .int .i64 r, .int .i64 z, .int .i64 nr, .int .i64 nz, .int .i64 step, .slice (some ⟨b, o, none⟩) ld cd], .agg #[.slice A1 na qa, .slice B1 nb qb, .slice C1 nc qc]] W (Ret (.bool true) W) from HV0.out)
  have HF := Lib.hid (show ∀ W, Below w.heap.size w W → Calls Tryz.prog 102 #[.agg #[.string name, .slice A la ca, .slice B lb cb, .slice Cl lc cl, .int .i64 r, .int .i64 z, .int .i64 nr, .int .i64 nz, .int .i64 step, .slice (some ⟨b, o, none⟩) ld cd], .agg #[.slice A1 na qa, .slice B1 nb qb, .slice C1 nc qc], .agg #[.int .i64 xr, .int .i64 xz]] W (Ret (.int .i64 V) W) from HF0.out)
  have HG := Lib.hid (show ∀ W, Below w.heap.size w W → Calls Tryz.prog 103 #[.agg #[.string name, .slice A la ca, .slice B lb cb, .slice Cl lc cl, .int .i64 r, .int .i64 z, .int .i64 nr, .int .i64 nz, .int .i64 step, .slice (some ⟨b, o, none⟩) ld cd], .agg #[.slice A1 na qa, .slice B1 nb qb, .slice C1 nc qc], .agg #[.int .i64 xr, .int .i64 xz]] W (Ret (.tuple #[.int .i64 F1, .int .i64 F2]) W) from HG0.out)
  clear HV0 HF0 HG0
  show Calls Tryz.prog 58 #[.agg #[.string name, .slice A la ca, .slice B lb cb, .slice Cl lc cl, .int .i64 r, .int .i64 z, .int .i64 nr, .int .i64 nz, .int .i64 step, .slice (some ⟨b, o, none⟩) ld cd], .agg #[.slice A1 na qa, .slice B1 nb qb, .slice C1 nc qc], .int .i64 i] w _
  have kk : xk = 1 ∨ xk = 2 ∨ xk = 3 := by omega
  clear hs
  rcases kk with rfl | rfl | rfl
  · go_enter Tryz.func58, Tryz.ntmps58
    go_wp2_with fail
    refine (HV.out _ (by (repeat first | with_reducible exact Below.refl _ _ | (with_reducible refine Below.alloc ?_ ?_ _; rotate_left; exact (by first | omega | (simp; done)))))).mono ?_
    rintro e w1 ⟨rfl, hb⟩
    have m0 : w1.cell? ⟨w.heap.size, 0, none⟩ = some (.string name) := by rw [hb.cell (p := ⟨w.heap.size, 0, none⟩) (by ((try simp only [World.size_alloc, World.size_setCell, size_drew, size_drewN]); omega))]; go_simp
    have m1 : w1.cell? ⟨w.heap.size, 1, none⟩ = some (.slice A la ca) := by rw [hb.cell (p := ⟨w.heap.size, 1, none⟩) (by ((try simp only [World.size_alloc, World.size_setCell, size_drew, size_drewN]); omega))]; go_simp
    have m2 : w1.cell? ⟨w.heap.size, 2, none⟩ = some (.slice B lb cb) := by rw [hb.cell (p := ⟨w.heap.size, 2, none⟩) (by ((try simp only [World.size_alloc, World.size_setCell, size_drew, size_drewN]); omega))]; go_simp
    have m3 : w1.cell? ⟨w.heap.size, 3, none⟩ = some (.slice Cl lc cl) := by rw [hb.cell (p := ⟨w.heap.size, 3, none⟩) (by ((try simp only [World.size_alloc, World.size_setCell, size_drew, size_drewN]); omega))]; go_simp
    have m4 : w1.cell? ⟨w.heap.size, 4, none⟩ = some (.int .i64 r) := by rw [hb.cell (p := ⟨w.heap.size, 4, none⟩) (by ((try simp only [World.size_alloc, World.size_setCell, size_drew, size_drewN]); omega))]; go_simp
    have m5 : w1.cell? ⟨w.heap.size, 5, none⟩ = some (.int .i64 z) := by rw [hb.cell (p := ⟨w.heap.size, 5, none⟩) (by ((try simp only [World.size_alloc, World.size_setCell, size_drew, size_drewN]); omega))]; go_simp
    have m6 : w1.cell? ⟨w.heap.size, 6, none⟩ = some (.int .i64 nr) := by rw [hb.cell (p := ⟨w.heap.size, 6, none⟩) (by ((try simp only [World.size_alloc, World.size_setCell, size_drew, size_drewN]); omega))]; go_simp
    have m7 : w1.cell? ⟨w.heap.size, 7, none⟩ = some (.int .i64 nz) := by rw [hb.cell (p := ⟨w.heap.size, 7, none⟩) (by ((try simp only [World.size_alloc, World.size_setCell, size_drew, size_drewN]); omega))]; go_simp
    have m8 : w1.cell? ⟨w.heap.size, 8, none⟩ = some (.int .i64 step) := by rw [hb.cell (p := ⟨w.heap.size, 8, none⟩) (by ((try simp only [World.size_alloc, World.size_setCell, size_drew, size_drewN]); omega))]; go_simp
    have m9 : w1.cell? ⟨w.heap.size, 9, none⟩ = some (.slice (some ⟨b, o, none⟩) ld cd) := by rw [hb.cell (p := ⟨w.heap.size, 9, none⟩) (by ((try simp only [World.size_alloc, World.size_setCell, size_drew, size_drewN]); omega))]; go_simp
    have c0 : w1.cell? ⟨w.heap.size + 1, 0, none⟩ = some (.slice A1 na qa) := by rw [hb.cell (p := ⟨w.heap.size + 1, 0, none⟩) (by ((try simp only [World.size_alloc, World.size_setCell, size_drew, size_drewN]); omega))]; go_simp
    have c1 : w1.cell? ⟨w.heap.size + 1, 1, none⟩ = some (.slice B1 nb qb) := by rw [hb.cell (p := ⟨w.heap.size + 1, 1, none⟩) (by ((try simp only [World.size_alloc, World.size_setCell, size_drew, size_drewN]); omega))]; go_simp
    have c2 : w1.cell? ⟨w.heap.size + 1, 2, none⟩ = some (.slice C1 nc qc) := by rw [hb.cell (p := ⟨w.heap.size + 1, 2, none⟩) (by ((try simp only [World.size_alloc, World.size_setCell, size_drew, size_drewN]); omega))]; go_simp
    have hB : Below w.heap.size w w1 := Below.trans (by (repeat first | with_reducible exact Below.refl _ _ | (with_reducible refine Below.alloc ?_ ?_ _; rotate_left; exact (by first | omega | (simp; done))))) (hb.mono (by ((try simp only [World.size_alloc, World.size_setCell, size_drew, size_drewN]); omega)))
    have hz1 : w.heap.size + 1 < w1.heap.size := Nat.lt_of_lt_of_le (by ((try simp only [World.size_alloc, World.size_setCell, size_drew, size_drewN]); omega)) hb.size
    have hz0 : w.heap.size < w1.heap.size := by omega
    clear hb
    have y0 := (hB.cell (p := ⟨b, o + i * 5, none⟩) hb0).trans X0.out
    have y1 := (hB.cell (p := ⟨b, o + i * 5 + 1, none⟩) hb0).trans X1.out
    have y2 := (hB.cell (p := ⟨b, o + i * 5 + 2, none⟩) hb0).trans X2.out
    have y3 := (hB.cell (p := ⟨b, o + i * 5 + 3, none⟩) hb0).trans X3.out
    have y4 := (hB.cell (p := ⟨b, o + i * 5 + 4, none⟩) hb0).trans X4.out
    clear X0 X1 X2 X3 X4
    go_wp2_with fail
    refine (mwithin_any _ _ _ _).mono ?_
    rintro e w2 ⟨rfl, rfl⟩
    go_upto_region 7 with (fail)
    have hbW : Below w1.heap.size w1 ((w1.alloc (.cells #[.string xn, .int .i64 1, .int .i64 xr, .int .i64 xz, .int .i64 xe] 81)).alloc (.cells #[.int .i64 xr, .int .i64 xz] 79)) := by (repeat first | with_reducible exact Below.refl _ _ | (with_reducible refine Below.alloc ?_ ?_ _; rotate_left; exact (by first | omega | (simp; done))))
    have s1 : ((w1.alloc (.cells #[.string xn, .int .i64 1, .int .i64 xr, .int .i64 xz, .int .i64 xe] 81)).alloc (.cells #[.int .i64 xr, .int .i64 xz] 79)).cell? ⟨w1.heap.size, 1, none⟩ = some (.int .i64 1) := by go_simp
    have p0c : ((w1.alloc (.cells #[.string xn, .int .i64 1, .int .i64 xr, .int .i64 xz, .int .i64 xe] 81)).alloc (.cells #[.int .i64 xr, .int .i64 xz] 79)).cell? ⟨w1.heap.size + 1, 0, none⟩ = some (.int .i64 xr) := by go_simp
    have p1c : ((w1.alloc (.cells #[.string xn, .int .i64 1, .int .i64 xr, .int .i64 xz, .int .i64 xe] 81)).alloc (.cells #[.int .i64 xr, .int .i64 xz] 79)).cell? ⟨w1.heap.size + 1, 1, none⟩ = some (.int .i64 xz) := by go_simp
    have hzz : w1.heap.size + 1 < ((w1.alloc (.cells #[.string xn, .int .i64 1, .int .i64 xr, .int .i64 xz, .int .i64 xe] 81)).alloc (.cells #[.int .i64 xr, .int .i64 xz] 79)).heap.size := by simp
    obtain ⟨W, hW⟩ : ∃ W, (w1.alloc (.cells #[.string xn, .int .i64 1, .int .i64 xr, .int .i64 xz, .int .i64 xe] 81)).alloc (.cells #[.int .i64 xr, .int .i64 xz] 79) = W := ⟨_, rfl⟩
    rw [hW] at hbW s1 p0c p1c hzz ⊢
    clear hW
    have n0 : W.cell? ⟨w.heap.size, 0, none⟩ = some (.string name) := (hbW.cell (p := ⟨w.heap.size, 0, none⟩) hz0).trans m0
    have n1 : W.cell? ⟨w.heap.size, 1, none⟩ = some (.slice A la ca) := (hbW.cell (p := ⟨w.heap.size, 1, none⟩) hz0).trans m1
    have n2 : W.cell? ⟨w.heap.size, 2, none⟩ = some (.slice B lb cb) := (hbW.cell (p := ⟨w.heap.size, 2, none⟩) hz0).trans m2
    have n3 : W.cell? ⟨w.heap.size, 3, none⟩ = some (.slice Cl lc cl) := (hbW.cell (p := ⟨w.heap.size, 3, none⟩) hz0).trans m3
    have n4 : W.cell? ⟨w.heap.size, 4, none⟩ = some (.int .i64 r) := (hbW.cell (p := ⟨w.heap.size, 4, none⟩) hz0).trans m4
    have n5 : W.cell? ⟨w.heap.size, 5, none⟩ = some (.int .i64 z) := (hbW.cell (p := ⟨w.heap.size, 5, none⟩) hz0).trans m5
    have n6 : W.cell? ⟨w.heap.size, 6, none⟩ = some (.int .i64 nr) := (hbW.cell (p := ⟨w.heap.size, 6, none⟩) hz0).trans m6
    have n7 : W.cell? ⟨w.heap.size, 7, none⟩ = some (.int .i64 nz) := (hbW.cell (p := ⟨w.heap.size, 7, none⟩) hz0).trans m7
    have n8 : W.cell? ⟨w.heap.size, 8, none⟩ = some (.int .i64 step) := (hbW.cell (p := ⟨w.heap.size, 8, none⟩) hz0).trans m8
    have n9 : W.cell? ⟨w.heap.size, 9, none⟩ = some (.slice (some ⟨b, o, none⟩) ld cd) := (hbW.cell (p := ⟨w.heap.size, 9, none⟩) hz0).trans m9
    have d0 : W.cell? ⟨w.heap.size + 1, 0, none⟩ = some (.slice A1 na qa) := (hbW.cell (p := ⟨w.heap.size + 1, 0, none⟩) hz1).trans c0
    have d1 : W.cell? ⟨w.heap.size + 1, 1, none⟩ = some (.slice B1 nb qb) := (hbW.cell (p := ⟨w.heap.size + 1, 1, none⟩) hz1).trans c1
    have d2 : W.cell? ⟨w.heap.size + 1, 2, none⟩ = some (.slice C1 nc qc) := (hbW.cell (p := ⟨w.heap.size + 1, 2, none⟩) hz1).trans c2
    have hB2 := hB.trans (hbW.mono hB.size)
    have hz2 : w.heap.size + 1 < W.heap.size := by omega
    have hz3 : w1.heap.size < W.heap.size := by omega
    clear m0 m1 m2 m3 m4 m5 m6 m7 m8 m9 c0 c1 c2 y0 y1 y2 y3 y4 hbW hB
    go_wp2_with fail
    refine (HF.out _ (by (repeat with_reducible assumption))).mono ?_
    rintro e w3 ⟨rfl, hb⟩
    have hB3 : Below w.heap.size w w3 := Below.trans (by (repeat with_reducible assumption)) (hb.mono (by omega))
    clear hb
    go_wp2_with fail
    go_ret2
    exact ⟨by simp, by (repeat with_reducible assumption)⟩
  · go_enter Tryz.func58, Tryz.ntmps58
    go_wp2_with fail
    refine (HV.out _ (by (repeat first | with_reducible exact Below.refl _ _ | (with_reducible refine Below.alloc ?_ ?_ _; rotate_left; exact (by first | omega | (simp; done)))))).mono ?_
    rintro e w1 ⟨rfl, hb⟩
    have m0 : w1.cell? ⟨w.heap.size, 0, none⟩ = some (.string name) := by rw [hb.cell (p := ⟨w.heap.size, 0, none⟩) (by ((try simp only [World.size_alloc, World.size_setCell, size_drew, size_drewN]); omega))]; go_simp
    have m1 : w1.cell? ⟨w.heap.size, 1, none⟩ = some (.slice A la ca) := by rw [hb.cell (p := ⟨w.heap.size, 1, none⟩) (by ((try simp only [World.size_alloc, World.size_setCell, size_drew, size_drewN]); omega))]; go_simp
    have m2 : w1.cell? ⟨w.heap.size, 2, none⟩ = some (.slice B lb cb) := by rw [hb.cell (p := ⟨w.heap.size, 2, none⟩) (by ((try simp only [World.size_alloc, World.size_setCell, size_drew, size_drewN]); omega))]; go_simp
    have m3 : w1.cell? ⟨w.heap.size, 3, none⟩ = some (.slice Cl lc cl) := by rw [hb.cell (p := ⟨w.heap.size, 3, none⟩) (by ((try simp only [World.size_alloc, World.size_setCell, size_drew, size_drewN]); omega))]; go_simp
    have m4 : w1.cell? ⟨w.heap.size, 4, none⟩ = some (.int .i64 r) := by rw [hb.cell (p := ⟨w.heap.size, 4, none⟩) (by ((try simp only [World.size_alloc, World.size_setCell, size_drew, size_drewN]); omega))]; go_simp
    have m5 : w1.cell? ⟨w.heap.size, 5, none⟩ = some (.int .i64 z) := by rw [hb.cell (p := ⟨w.heap.size, 5, none⟩) (by ((try simp only [World.size_alloc, World.size_setCell, size_drew, size_drewN]); omega))]; go_simp
    have m6 : w1.cell? ⟨w.heap.size, 6, none⟩ = some (.int .i64 nr) := by rw [hb.cell (p := ⟨w.heap.size, 6, none⟩) (by ((try simp only [World.size_alloc, World.size_setCell, size_drew, size_drewN]); omega))]; go_simp
    have m7 : w1.cell? ⟨w.heap.size, 7, none⟩ = some (.int .i64 nz) := by rw [hb.cell (p := ⟨w.heap.size, 7, none⟩) (by ((try simp only [World.size_alloc, World.size_setCell, size_drew, size_drewN]); omega))]; go_simp
    have m8 : w1.cell? ⟨w.heap.size, 8, none⟩ = some (.int .i64 step) := by rw [hb.cell (p := ⟨w.heap.size, 8, none⟩) (by ((try simp only [World.size_alloc, World.size_setCell, size_drew, size_drewN]); omega))]; go_simp
    have m9 : w1.cell? ⟨w.heap.size, 9, none⟩ = some (.slice (some ⟨b, o, none⟩) ld cd) := by rw [hb.cell (p := ⟨w.heap.size, 9, none⟩) (by ((try simp only [World.size_alloc, World.size_setCell, size_drew, size_drewN]); omega))]; go_simp
    have c0 : w1.cell? ⟨w.heap.size + 1, 0, none⟩ = some (.slice A1 na qa) := by rw [hb.cell (p := ⟨w.heap.size + 1, 0, none⟩) (by ((try simp only [World.size_alloc, World.size_setCell, size_drew, size_drewN]); omega))]; go_simp
    have c1 : w1.cell? ⟨w.heap.size + 1, 1, none⟩ = some (.slice B1 nb qb) := by rw [hb.cell (p := ⟨w.heap.size + 1, 1, none⟩) (by ((try simp only [World.size_alloc, World.size_setCell, size_drew, size_drewN]); omega))]; go_simp
    have c2 : w1.cell? ⟨w.heap.size + 1, 2, none⟩ = some (.slice C1 nc qc) := by rw [hb.cell (p := ⟨w.heap.size + 1, 2, none⟩) (by ((try simp only [World.size_alloc, World.size_setCell, size_drew, size_drewN]); omega))]; go_simp
    have hB : Below w.heap.size w w1 := Below.trans (by (repeat first | with_reducible exact Below.refl _ _ | (with_reducible refine Below.alloc ?_ ?_ _; rotate_left; exact (by first | omega | (simp; done))))) (hb.mono (by ((try simp only [World.size_alloc, World.size_setCell, size_drew, size_drewN]); omega)))
    have hz1 : w.heap.size + 1 < w1.heap.size := Nat.lt_of_lt_of_le (by ((try simp only [World.size_alloc, World.size_setCell, size_drew, size_drewN]); omega)) hb.size
    have hz0 : w.heap.size < w1.heap.size := by omega
    clear hb
    have y0 := (hB.cell (p := ⟨b, o + i * 5, none⟩) hb0).trans X0.out
    have y1 := (hB.cell (p := ⟨b, o + i * 5 + 1, none⟩) hb0).trans X1.out
    have y2 := (hB.cell (p := ⟨b, o + i * 5 + 2, none⟩) hb0).trans X2.out
    have y3 := (hB.cell (p := ⟨b, o + i * 5 + 3, none⟩) hb0).trans X3.out
    have y4 := (hB.cell (p := ⟨b, o + i * 5 + 4, none⟩) hb0).trans X4.out
    clear X0 X1 X2 X3 X4
    go_wp2_with fail
    refine (mwithin_any _ _ _ _).mono ?_
    rintro e w2 ⟨rfl, rfl⟩
    go_upto_region 7 with (fail)
    have hbW : Below w1.heap.size w1 ((w1.alloc (.cells #[.string xn, .int .i64 2, .int .i64 xr, .int .i64 xz, .int .i64 xe] 81)).alloc (.cells #[.int .i64 xr, .int .i64 xz] 79)) := by (repeat first | with_reducible exact Below.refl _ _ | (with_reducible refine Below.alloc ?_ ?_ _; rotate_left; exact (by first | omega | (simp; done))))
    have s1 : ((w1.alloc (.cells #[.string xn, .int .i64 2, .int .i64 xr, .int .i64 xz, .int .i64 xe] 81)).alloc (.cells #[.int .i64 xr, .int .i64 xz] 79)).cell? ⟨w1.heap.size, 1, none⟩ = some (.int .i64 2) := by go_simp
    have p0c : ((w1.alloc (.cells #[.string xn, .int .i64 2, .int .i64 xr, .int .i64 xz, .int .i64 xe] 81)).alloc (.cells #[.int .i64 xr, .int .i64 xz] 79)).cell? ⟨w1.heap.size + 1, 0, none⟩ = some (.int .i64 xr) := by go_simp
    have p1c : ((w1.alloc (.cells #[.string xn, .int .i64 2, .int .i64 xr, .int .i64 xz, .int .i64 xe] 81)).alloc (.cells #[.int .i64 xr, .int .i64 xz] 79)).cell? ⟨w1.heap.size + 1, 1, none⟩ = some (.int .i64 xz) := by go_simp
    have hzz : w1.heap.size + 1 < ((w1.alloc (.cells #[.string xn, .int .i64 2, .int .i64 xr, .int .i64 xz, .int .i64 xe] 81)).alloc (.cells #[.int .i64 xr, .int .i64 xz] 79)).heap.size := by simp
    obtain ⟨W, hW⟩ : ∃ W, (w1.alloc (.cells #[.string xn, .int .i64 2, .int .i64 xr, .int .i64 xz, .int .i64 xe] 81)).alloc (.cells #[.int .i64 xr, .int .i64 xz] 79) = W := ⟨_, rfl⟩
    rw [hW] at hbW s1 p0c p1c hzz ⊢
    clear hW
    have n0 : W.cell? ⟨w.heap.size, 0, none⟩ = some (.string name) := (hbW.cell (p := ⟨w.heap.size, 0, none⟩) hz0).trans m0
    have n1 : W.cell? ⟨w.heap.size, 1, none⟩ = some (.slice A la ca) := (hbW.cell (p := ⟨w.heap.size, 1, none⟩) hz0).trans m1
    have n2 : W.cell? ⟨w.heap.size, 2, none⟩ = some (.slice B lb cb) := (hbW.cell (p := ⟨w.heap.size, 2, none⟩) hz0).trans m2
    have n3 : W.cell? ⟨w.heap.size, 3, none⟩ = some (.slice Cl lc cl) := (hbW.cell (p := ⟨w.heap.size, 3, none⟩) hz0).trans m3
    have n4 : W.cell? ⟨w.heap.size, 4, none⟩ = some (.int .i64 r) := (hbW.cell (p := ⟨w.heap.size, 4, none⟩) hz0).trans m4
    have n5 : W.cell? ⟨w.heap.size, 5, none⟩ = some (.int .i64 z) := (hbW.cell (p := ⟨w.heap.size, 5, none⟩) hz0).trans m5
    have n6 : W.cell? ⟨w.heap.size, 6, none⟩ = some (.int .i64 nr) := (hbW.cell (p := ⟨w.heap.size, 6, none⟩) hz0).trans m6
    have n7 : W.cell? ⟨w.heap.size, 7, none⟩ = some (.int .i64 nz) := (hbW.cell (p := ⟨w.heap.size, 7, none⟩) hz0).trans m7
    have n8 : W.cell? ⟨w.heap.size, 8, none⟩ = some (.int .i64 step) := (hbW.cell (p := ⟨w.heap.size, 8, none⟩) hz0).trans m8
    have n9 : W.cell? ⟨w.heap.size, 9, none⟩ = some (.slice (some ⟨b, o, none⟩) ld cd) := (hbW.cell (p := ⟨w.heap.size, 9, none⟩) hz0).trans m9
    have d0 : W.cell? ⟨w.heap.size + 1, 0, none⟩ = some (.slice A1 na qa) := (hbW.cell (p := ⟨w.heap.size + 1, 0, none⟩) hz1).trans c0
    have d1 : W.cell? ⟨w.heap.size + 1, 1, none⟩ = some (.slice B1 nb qb) := (hbW.cell (p := ⟨w.heap.size + 1, 1, none⟩) hz1).trans c1
    have d2 : W.cell? ⟨w.heap.size + 1, 2, none⟩ = some (.slice C1 nc qc) := (hbW.cell (p := ⟨w.heap.size + 1, 2, none⟩) hz1).trans c2
    have hB2 := hB.trans (hbW.mono hB.size)
    have hz2 : w.heap.size + 1 < W.heap.size := by omega
    have hz3 : w1.heap.size < W.heap.size := by omega
    clear m0 m1 m2 m3 m4 m5 m6 m7 m8 m9 c0 c1 c2 y0 y1 y2 y3 y4 hbW hB
    go_wp2_with fail
    refine (HG.out _ (by (repeat with_reducible assumption))).mono ?_
    rintro e w3 ⟨rfl, hb⟩
    have s1' : w3.cell? ⟨w1.heap.size, 1, none⟩ = some (.int .i64 2) := (hb.cell (p := ⟨w1.heap.size, 1, none⟩) (by omega)).trans s1
    have hB3 : Below w.heap.size w w3 := Below.trans (by (repeat with_reducible assumption)) (hb.mono (by omega))
    clear hb
    go_wp2_with fail
    go_ret2
    exact ⟨by simp, by (repeat with_reducible assumption)⟩
  · go_enter Tryz.func58, Tryz.ntmps58
    go_wp2_with fail
    refine (HV.out _ (by (repeat first | with_reducible exact Below.refl _ _ | (with_reducible refine Below.alloc ?_ ?_ _; rotate_left; exact (by first | omega | (simp; done)))))).mono ?_
    rintro e w1 ⟨rfl, hb⟩
    have m0 : w1.cell? ⟨w.heap.size, 0, none⟩ = some (.string name) := by rw [hb.cell (p := ⟨w.heap.size, 0, none⟩) (by ((try simp only [World.size_alloc, World.size_setCell, size_drew, size_drewN]); omega))]; go_simp
    have m1 : w1.cell? ⟨w.heap.size, 1, none⟩ = some (.slice A la ca) := by rw [hb.cell (p := ⟨w.heap.size, 1, none⟩) (by ((try simp only [World.size_alloc, World.size_setCell, size_drew, size_drewN]); omega))]; go_simp
    have m2 : w1.cell? ⟨w.heap.size, 2, none⟩ = some (.slice B lb cb) := by rw [hb.cell (p := ⟨w.heap.size, 2, none⟩) (by ((try simp only [World.size_alloc, World.size_setCell, size_drew, size_drewN]); omega))]; go_simp
    have m3 : w1.cell? ⟨w.heap.size, 3, none⟩ = some (.slice Cl lc cl) := by rw [hb.cell (p := ⟨w.heap.size, 3, none⟩) (by ((try simp only [World.size_alloc, World.size_setCell, size_drew, size_drewN]); omega))]; go_simp
    have m4 : w1.cell? ⟨w.heap.size, 4, none⟩ = some (.int .i64 r) := by rw [hb.cell (p := ⟨w.heap.size, 4, none⟩) (by ((try simp only [World.size_alloc, World.size_setCell, size_drew, size_drewN]); omega))]; go_simp
    have m5 : w1.cell? ⟨w.heap.size, 5, none⟩ = some (.int .i64 z) := by rw [hb.cell (p := ⟨w.heap.size, 5, none⟩) (by ((try simp only [World.size_alloc, World.size_setCell, size_drew, size_drewN]); omega))]; go_simp
    have m6 : w1.cell? ⟨w.heap.size, 6, none⟩ = some (.int .i64 nr) := by rw [hb.cell (p := ⟨w.heap.size, 6, none⟩) (by ((try simp only [World.size_alloc, World.size_setCell, size_drew, size_drewN]); omega))]; go_simp
    have m7 : w1.cell? ⟨w.heap.size, 7, none⟩ = some (.int .i64 nz) := by rw [hb.cell (p := ⟨w.heap.size, 7, none⟩) (by ((try simp only [World.size_alloc, World.size_setCell, size_drew, size_drewN]); omega))]; go_simp
    have m8 : w1.cell? ⟨w.heap.size, 8, none⟩ = some (.int .i64 step) := by rw [hb.cell (p := ⟨w.heap.size, 8, none⟩) (by ((try simp only [World.size_alloc, World.size_setCell, size_drew, size_drewN]); omega))]; go_simp
    have m9 : w1.cell? ⟨w.heap.size, 9, none⟩ = some (.slice (some ⟨b, o, none⟩) ld cd) := by rw [hb.cell (p := ⟨w.heap.size, 9, none⟩) (by ((try simp only [World.size_alloc, World.size_setCell, size_drew, size_drewN]); omega))]; go_simp
    have c0 : w1.cell? ⟨w.heap.size + 1, 0, none⟩ = some (.slice A1 na qa) := by rw [hb.cell (p := ⟨w.heap.size + 1, 0, none⟩) (by ((try simp only [World.size_alloc, World.size_setCell, size_drew, size_drewN]); omega))]; go_simp
    have c1 : w1.cell? ⟨w.heap.size + 1, 1, none⟩ = some (.slice B1 nb qb) := by rw [hb.cell (p := ⟨w.heap.size + 1, 1, none⟩) (by ((try simp only [World.size_alloc, World.size_setCell, size_drew, size_drewN]); omega))]; go_simp
    have c2 : w1.cell? ⟨w.heap.size + 1, 2, none⟩ = some (.slice C1 nc qc) := by rw [hb.cell (p := ⟨w.heap.size + 1, 2, none⟩) (by ((try simp only [World.size_alloc, World.size_setCell, size_drew, size_drewN]); omega))]; go_simp
    have hB : Below w.heap.size w w1 := Below.trans (by (repeat first | with_reducible exact Below.refl _ _ | (with_reducible refine Below.alloc ?_ ?_ _; rotate_left; exact (by first | omega | (simp; done))))) (hb.mono (by ((try simp only [World.size_alloc, World.size_setCell, size_drew, size_drewN]); omega)))
    have hz1 : w.heap.size + 1 < w1.heap.size := Nat.lt_of_lt_of_le (by ((try simp only [World.size_alloc, World.size_setCell, size_drew, size_drewN]); omega)) hb.size
    have hz0 : w.heap.size < w1.heap.size := by omega
    clear hb
    have y0 := (hB.cell (p := ⟨b, o + i * 5, none⟩) hb0).trans X0.out
    have y1 := (hB.cell (p := ⟨b, o + i * 5 + 1, none⟩) hb0).trans X1.out
    have y2 := (hB.cell (p := ⟨b, o + i * 5 + 2, none⟩) hb0).trans X2.out
    have y3 := (hB.cell (p := ⟨b, o + i * 5 + 3, none⟩) hb0).trans X3.out
    have y4 := (hB.cell (p := ⟨b, o + i * 5 + 4, none⟩) hb0).trans X4.out
    clear X0 X1 X2 X3 X4
    go_wp2_with fail
    refine (mwithin_any _ _ _ _).mono ?_
    rintro e w2 ⟨rfl, rfl⟩
    go_upto_region 7 with (fail)
    have hbW : Below w1.heap.size w1 ((w1.alloc (.cells #[.string xn, .int .i64 3, .int .i64 xr, .int .i64 xz, .int .i64 xe] 81)).alloc (.cells #[.int .i64 xr, .int .i64 xz] 79)) := by (repeat first | with_reducible exact Below.refl _ _ | (with_reducible refine Below.alloc ?_ ?_ _; rotate_left; exact (by first | omega | (simp; done))))
    have s1 : ((w1.alloc (.cells #[.string xn, .int .i64 3, .int .i64 xr, .int .i64 xz, .int .i64 xe] 81)).alloc (.cells #[.int .i64 xr, .int .i64 xz] 79)).cell? ⟨w1.heap.size, 1, none⟩ = some (.int .i64 3) := by go_simp
    have p0c : ((w1.alloc (.cells #[.string xn, .int .i64 3, .int .i64 xr, .int .i64 xz, .int .i64 xe] 81)).alloc (.cells #[.int .i64 xr, .int .i64 xz] 79)).cell? ⟨w1.heap.size + 1, 0, none⟩ = some (.int .i64 xr) := by go_simp
    have p1c : ((w1.alloc (.cells #[.string xn, .int .i64 3, .int .i64 xr, .int .i64 xz, .int .i64 xe] 81)).alloc (.cells #[.int .i64 xr, .int .i64 xz] 79)).cell? ⟨w1.heap.size + 1, 1, none⟩ = some (.int .i64 xz) := by go_simp
    have hzz : w1.heap.size + 1 < ((w1.alloc (.cells #[.string xn, .int .i64 3, .int .i64 xr, .int .i64 xz, .int .i64 xe] 81)).alloc (.cells #[.int .i64 xr, .int .i64 xz] 79)).heap.size := by simp
    obtain ⟨W, hW⟩ : ∃ W, (w1.alloc (.cells #[.string xn, .int .i64 3, .int .i64 xr, .int .i64 xz, .int .i64 xe] 81)).alloc (.cells #[.int .i64 xr, .int .i64 xz] 79) = W := ⟨_, rfl⟩
    rw [hW] at hbW s1 p0c p1c hzz ⊢
    clear hW
    have n0 : W.cell? ⟨w.heap.size, 0, none⟩ = some (.string name) := (hbW.cell (p := ⟨w.heap.size, 0, none⟩) hz0).trans m0
    have n1 : W.cell? ⟨w.heap.size, 1, none⟩ = some (.slice A la ca) := (hbW.cell (p := ⟨w.heap.size, 1, none⟩) hz0).trans m1
    have n2 : W.cell? ⟨w.heap.size, 2, none⟩ = some (.slice B lb cb) := (hbW.cell (p := ⟨w.heap.size, 2, none⟩) hz0).trans m2
    have n3 : W.cell? ⟨w.heap.size, 3, none⟩ = some (.slice Cl lc cl) := (hbW.cell (p := ⟨w.heap.size, 3, none⟩) hz0).trans m3
    have n4 : W.cell? ⟨w.heap.size, 4, none⟩ = some (.int .i64 r) := (hbW.cell (p := ⟨w.heap.size, 4, none⟩) hz0).trans m4
    have n5 : W.cell? ⟨w.heap.size, 5, none⟩ = some (.int .i64 z) := (hbW.cell (p := ⟨w.heap.size, 5, none⟩) hz0).trans m5
    have n6 : W.cell? ⟨w.heap.size, 6, none⟩ = some (.int .i64 nr) := (hbW.cell (p := ⟨w.heap.size, 6, none⟩) hz0).trans m6
    have n7 : W.cell? ⟨w.heap.size, 7, none⟩ = some (.int .i64 nz) := (hbW.cell (p := ⟨w.heap.size, 7, none⟩) hz0).trans m7
    have n8 : W.cell? ⟨w.heap.size, 8, none⟩ = some (.int .i64 step) := (hbW.cell (p := ⟨w.heap.size, 8, none⟩) hz0).trans m8
    have n9 : W.cell? ⟨w.heap.size, 9, none⟩ = some (.slice (some ⟨b, o, none⟩) ld cd) := (hbW.cell (p := ⟨w.heap.size, 9, none⟩) hz0).trans m9
    have d0 : W.cell? ⟨w.heap.size + 1, 0, none⟩ = some (.slice A1 na qa) := (hbW.cell (p := ⟨w.heap.size + 1, 0, none⟩) hz1).trans c0
    have d1 : W.cell? ⟨w.heap.size + 1, 1, none⟩ = some (.slice B1 nb qb) := (hbW.cell (p := ⟨w.heap.size + 1, 1, none⟩) hz1).trans c1
    have d2 : W.cell? ⟨w.heap.size + 1, 2, none⟩ = some (.slice C1 nc qc) := (hbW.cell (p := ⟨w.heap.size + 1, 2, none⟩) hz1).trans c2
    have hB2 := hB.trans (hbW.mono hB.size)
    have hz2 : w.heap.size + 1 < W.heap.size := by omega
    have hz3 : w1.heap.size < W.heap.size := by omega
    clear m0 m1 m2 m3 m4 m5 m6 m7 m8 m9 c0 c1 c2 y0 y1 y2 y3 y4 hbW hB
    go_wp2_with fail
    refine (HG.out _ (by (repeat with_reducible assumption))).mono ?_
    rintro e w3 ⟨rfl, hb⟩
    have s1' : w3.cell? ⟨w1.heap.size, 1, none⟩ = some (.int .i64 3) := (hb.cell (p := ⟨w1.heap.size, 1, none⟩) (by omega)).trans s1
    have hB3 : Below w.heap.size w w3 := Below.trans (by (repeat with_reducible assumption)) (hb.mono (by omega))
    clear hb
    go_wp2_with fail
    go_ret2
    exact ⟨by simp, by (repeat with_reducible assumption)⟩
set_option maxRecDepth 100000 in
set_option maxHeartbeats 8000000 in
theorem exact_any (R : MachR) (M : MachD) (Qr : CurR) (Cd : CurD) (i : Int) (w : World) (hM : IsM w R M) (hC : IsC w Qr Cd) (i0 : -9223372036854775808 ≤ i) (i1 : i ≤ 9223372036854775807) :
    Calls Tryz.prog 58 #[.agg (machCells R M), Qr.v, .int .i64 i] w (Ret (.tuple #[.int .i64 (exactL M Cd i).1, .int .i64 (exactL M Cd i).2]) w) := by
  have hl := hM.sensors.1
  unfold exactL
  cases hv : validC M Cd
  · have HV0 := Lib.hid (fun W (hb : Below w.heap.size w W) => (by have := validCurrents_any R M Qr Cd W (hM.below hb) (hC.below hb); rw [hv] at this; exact this : Calls Tryz.prog 56 #[.agg (machCells R M), Qr.v] W (Ret (.bool false) W)))
    clear hM hC hv hl
    obtain ⟨A, B, Cl, D, la, ca, lb, cb, lc, cl, ld, cd⟩ := R
    obtain ⟨name, coils, shells, limits, ⟨r, z, nr, nz, step⟩, sensors⟩ := M
    obtain ⟨A1, B1, C1, na, qa, nb, qb, nc, qc⟩ := Qr
    have HV := Lib.hid (show ∀ W, Below w.heap.size w W → Calls Tryz.prog 56 #[.agg #[.string name, .slice A la ca, .slice B lb cb, .slice Cl lc cl, .int .i64 r, .int .i64 z, .int .i64 nr, .int .i64 nz, .int .i64 step, .slice D ld cd], .agg #[.slice A1 na qa, .slice B1 nb qb, .slice C1 nc qc]] W (Ret (.bool false) W) from HV0.out)
    show Calls Tryz.prog 58 #[.agg #[.string name, .slice A la ca, .slice B lb cb, .slice Cl lc cl, .int .i64 r, .int .i64 z, .int .i64 nr, .int .i64 nz, .int .i64 step, .slice D ld cd], .agg #[.slice A1 na qa, .slice B1 nb qb, .slice C1 nc qc], .int .i64 i] w _
    go_enter Tryz.func58, Tryz.ntmps58
    go_wp2_with fail
    refine (HV.out _ (by (repeat first | with_reducible exact Below.refl _ _ | (with_reducible refine Below.alloc ?_ ?_ _; rotate_left; exact (by first | omega | (simp; done)))))).mono ?_
    rintro e w1 ⟨rfl, hb⟩
    have m0 : w1.cell? ⟨w.heap.size, 0, none⟩ = some (.string name) := by rw [hb.cell (p := ⟨w.heap.size, 0, none⟩) (by ((try simp only [World.size_alloc, World.size_setCell, size_drew, size_drewN]); omega))]; go_simp
    have m1 : w1.cell? ⟨w.heap.size, 1, none⟩ = some (.slice A la ca) := by rw [hb.cell (p := ⟨w.heap.size, 1, none⟩) (by ((try simp only [World.size_alloc, World.size_setCell, size_drew, size_drewN]); omega))]; go_simp
    have m2 : w1.cell? ⟨w.heap.size, 2, none⟩ = some (.slice B lb cb) := by rw [hb.cell (p := ⟨w.heap.size, 2, none⟩) (by ((try simp only [World.size_alloc, World.size_setCell, size_drew, size_drewN]); omega))]; go_simp
    have m3 : w1.cell? ⟨w.heap.size, 3, none⟩ = some (.slice Cl lc cl) := by rw [hb.cell (p := ⟨w.heap.size, 3, none⟩) (by ((try simp only [World.size_alloc, World.size_setCell, size_drew, size_drewN]); omega))]; go_simp
    have m4 : w1.cell? ⟨w.heap.size, 4, none⟩ = some (.int .i64 r) := by rw [hb.cell (p := ⟨w.heap.size, 4, none⟩) (by ((try simp only [World.size_alloc, World.size_setCell, size_drew, size_drewN]); omega))]; go_simp
    have m5 : w1.cell? ⟨w.heap.size, 5, none⟩ = some (.int .i64 z) := by rw [hb.cell (p := ⟨w.heap.size, 5, none⟩) (by ((try simp only [World.size_alloc, World.size_setCell, size_drew, size_drewN]); omega))]; go_simp
    have m6 : w1.cell? ⟨w.heap.size, 6, none⟩ = some (.int .i64 nr) := by rw [hb.cell (p := ⟨w.heap.size, 6, none⟩) (by ((try simp only [World.size_alloc, World.size_setCell, size_drew, size_drewN]); omega))]; go_simp
    have m7 : w1.cell? ⟨w.heap.size, 7, none⟩ = some (.int .i64 nz) := by rw [hb.cell (p := ⟨w.heap.size, 7, none⟩) (by ((try simp only [World.size_alloc, World.size_setCell, size_drew, size_drewN]); omega))]; go_simp
    have m8 : w1.cell? ⟨w.heap.size, 8, none⟩ = some (.int .i64 step) := by rw [hb.cell (p := ⟨w.heap.size, 8, none⟩) (by ((try simp only [World.size_alloc, World.size_setCell, size_drew, size_drewN]); omega))]; go_simp
    have m9 : w1.cell? ⟨w.heap.size, 9, none⟩ = some (.slice D ld cd) := by rw [hb.cell (p := ⟨w.heap.size, 9, none⟩) (by ((try simp only [World.size_alloc, World.size_setCell, size_drew, size_drewN]); omega))]; go_simp
    have c0 : w1.cell? ⟨w.heap.size + 1, 0, none⟩ = some (.slice A1 na qa) := by rw [hb.cell (p := ⟨w.heap.size + 1, 0, none⟩) (by ((try simp only [World.size_alloc, World.size_setCell, size_drew, size_drewN]); omega))]; go_simp
    have c1 : w1.cell? ⟨w.heap.size + 1, 1, none⟩ = some (.slice B1 nb qb) := by rw [hb.cell (p := ⟨w.heap.size + 1, 1, none⟩) (by ((try simp only [World.size_alloc, World.size_setCell, size_drew, size_drewN]); omega))]; go_simp
    have c2 : w1.cell? ⟨w.heap.size + 1, 2, none⟩ = some (.slice C1 nc qc) := by rw [hb.cell (p := ⟨w.heap.size + 1, 2, none⟩) (by ((try simp only [World.size_alloc, World.size_setCell, size_drew, size_drewN]); omega))]; go_simp
    have hB : Below w.heap.size w w1 := Below.trans (by (repeat first | with_reducible exact Below.refl _ _ | (with_reducible refine Below.alloc ?_ ?_ _; rotate_left; exact (by first | omega | (simp; done))))) (hb.mono (by ((try simp only [World.size_alloc, World.size_setCell, size_drew, size_drewN]); omega)))
    have hz1 : w.heap.size + 1 < w1.heap.size := Nat.lt_of_lt_of_le (by ((try simp only [World.size_alloc, World.size_setCell, size_drew, size_drewN]); omega)) hb.size
    have hz0 : w.heap.size < w1.heap.size := by omega
    clear hb
    go_wp2_with fail
    go_ret2
    exact ⟨rfl, by (repeat with_reducible assumption)⟩
  rw [if_pos rfl]
  cases hw : wthn i 0 ((M.sensors.length : Int) - 1)
  · have HV0 := Lib.hid (fun W (hb : Below w.heap.size w W) => (by have := validCurrents_any R M Qr Cd W (hM.below hb) (hC.below hb); rw [hv] at this; exact this : Calls Tryz.prog 56 #[.agg (machCells R M), Qr.v] W (Ret (.bool true) W)))
    have hcd := hM.kd
    rw [hl] at hw
    clear hM hC hv hl
    obtain ⟨A, B, Cl, D, la, ca, lb, cb, lc, cl, ld, cd⟩ := R
    obtain ⟨name, coils, shells, limits, ⟨r, z, nr, nz, step⟩, sensors⟩ := M
    obtain ⟨A1, B1, C1, na, qa, nb, qb, nc, qc⟩ := Qr
    dsimp only at hw hcd
    have HV := Lib.hid (show ∀ W, Below w.heap.size w W → Calls Tryz.prog 56 #[.agg #[.string name, .slice A la ca, .slice B lb cb, .slice Cl lc cl, .int .i64 r, .int .i64 z, .int .i64 nr, .int .i64 nz, .int .i64 step, .slice D ld cd], .agg #[.slice A1 na qa, .slice B1 nb qb, .slice C1 nc qc]] W (Ret (.bool true) W) from HV0.out)
    show Calls Tryz.prog 58 #[.agg #[.string name, .slice A la ca, .slice B lb cb, .slice Cl lc cl, .int .i64 r, .int .i64 z, .int .i64 nr, .int .i64 nz, .int .i64 step, .slice D ld cd], .agg #[.slice A1 na qa, .slice B1 nb qb, .slice C1 nc qc], .int .i64 i] w _
    go_enter Tryz.func58, Tryz.ntmps58
    go_wp2_with fail
    refine (HV.out _ (by (repeat first | with_reducible exact Below.refl _ _ | (with_reducible refine Below.alloc ?_ ?_ _; rotate_left; exact (by first | omega | (simp; done)))))).mono ?_
    rintro e w1 ⟨rfl, hb⟩
    have m0 : w1.cell? ⟨w.heap.size, 0, none⟩ = some (.string name) := by rw [hb.cell (p := ⟨w.heap.size, 0, none⟩) (by ((try simp only [World.size_alloc, World.size_setCell, size_drew, size_drewN]); omega))]; go_simp
    have m1 : w1.cell? ⟨w.heap.size, 1, none⟩ = some (.slice A la ca) := by rw [hb.cell (p := ⟨w.heap.size, 1, none⟩) (by ((try simp only [World.size_alloc, World.size_setCell, size_drew, size_drewN]); omega))]; go_simp
    have m2 : w1.cell? ⟨w.heap.size, 2, none⟩ = some (.slice B lb cb) := by rw [hb.cell (p := ⟨w.heap.size, 2, none⟩) (by ((try simp only [World.size_alloc, World.size_setCell, size_drew, size_drewN]); omega))]; go_simp
    have m3 : w1.cell? ⟨w.heap.size, 3, none⟩ = some (.slice Cl lc cl) := by rw [hb.cell (p := ⟨w.heap.size, 3, none⟩) (by ((try simp only [World.size_alloc, World.size_setCell, size_drew, size_drewN]); omega))]; go_simp
    have m4 : w1.cell? ⟨w.heap.size, 4, none⟩ = some (.int .i64 r) := by rw [hb.cell (p := ⟨w.heap.size, 4, none⟩) (by ((try simp only [World.size_alloc, World.size_setCell, size_drew, size_drewN]); omega))]; go_simp
    have m5 : w1.cell? ⟨w.heap.size, 5, none⟩ = some (.int .i64 z) := by rw [hb.cell (p := ⟨w.heap.size, 5, none⟩) (by ((try simp only [World.size_alloc, World.size_setCell, size_drew, size_drewN]); omega))]; go_simp
    have m6 : w1.cell? ⟨w.heap.size, 6, none⟩ = some (.int .i64 nr) := by rw [hb.cell (p := ⟨w.heap.size, 6, none⟩) (by ((try simp only [World.size_alloc, World.size_setCell, size_drew, size_drewN]); omega))]; go_simp
    have m7 : w1.cell? ⟨w.heap.size, 7, none⟩ = some (.int .i64 nz) := by rw [hb.cell (p := ⟨w.heap.size, 7, none⟩) (by ((try simp only [World.size_alloc, World.size_setCell, size_drew, size_drewN]); omega))]; go_simp
    have m8 : w1.cell? ⟨w.heap.size, 8, none⟩ = some (.int .i64 step) := by rw [hb.cell (p := ⟨w.heap.size, 8, none⟩) (by ((try simp only [World.size_alloc, World.size_setCell, size_drew, size_drewN]); omega))]; go_simp
    have m9 : w1.cell? ⟨w.heap.size, 9, none⟩ = some (.slice D ld cd) := by rw [hb.cell (p := ⟨w.heap.size, 9, none⟩) (by ((try simp only [World.size_alloc, World.size_setCell, size_drew, size_drewN]); omega))]; go_simp
    have c0 : w1.cell? ⟨w.heap.size + 1, 0, none⟩ = some (.slice A1 na qa) := by rw [hb.cell (p := ⟨w.heap.size + 1, 0, none⟩) (by ((try simp only [World.size_alloc, World.size_setCell, size_drew, size_drewN]); omega))]; go_simp
    have c1 : w1.cell? ⟨w.heap.size + 1, 1, none⟩ = some (.slice B1 nb qb) := by rw [hb.cell (p := ⟨w.heap.size + 1, 1, none⟩) (by ((try simp only [World.size_alloc, World.size_setCell, size_drew, size_drewN]); omega))]; go_simp
    have c2 : w1.cell? ⟨w.heap.size + 1, 2, none⟩ = some (.slice C1 nc qc) := by rw [hb.cell (p := ⟨w.heap.size + 1, 2, none⟩) (by ((try simp only [World.size_alloc, World.size_setCell, size_drew, size_drewN]); omega))]; go_simp
    have hB : Below w.heap.size w w1 := Below.trans (by (repeat first | with_reducible exact Below.refl _ _ | (with_reducible refine Below.alloc ?_ ?_ _; rotate_left; exact (by first | omega | (simp; done))))) (hb.mono (by ((try simp only [World.size_alloc, World.size_setCell, size_drew, size_drewN]); omega)))
    have hz1 : w.heap.size + 1 < w1.heap.size := Nat.lt_of_lt_of_le (by ((try simp only [World.size_alloc, World.size_setCell, size_drew, size_drewN]); omega)) hb.size
    have hz0 : w.heap.size < w1.heap.size := by omega
    clear hb
    go_wp2_with fail
    refine (mwithin_any _ _ _ _).mono ?_
    rintro e w2 ⟨rfl, rfl⟩
    go_wp2_with fail
    go_ret2
    exact ⟨rfl, by (repeat with_reducible assumption)⟩
  rw [if_pos rfl]
  obtain ⟨j0, j1⟩ := wthn_iff.1 hw
  obtain ⟨x, hx⟩ : ∃ x, M.sensors[i.toNat]? = some x := ⟨_, List.getElem?_eq_getElem (by omega)⟩
  rw [hx]
  have := exact_val R M Qr Cd i.toNat x w hM hC (fit2_iff.1 hv) hx
  rw [show ((i.toNat : Nat) : Int) = i by omega] at this
  exact this
end
end Go.Proofs.YtapldonpflgnfaaGreatDoor
