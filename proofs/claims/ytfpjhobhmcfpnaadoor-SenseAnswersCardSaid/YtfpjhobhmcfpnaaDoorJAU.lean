import Derived.Test.YtfpjhobhmcfpnaaDoorJAB
import Derived.Test.YtfpjhobhmcfpnaaDoorJAO
import Derived.Test.YtfpjhobhmcfpnaaDoorJAR
import Derived.Test.YtfpjhobhmcfpnaaDoorJAT
import Derived.Handy
import Derived.Outline
section
/- Package sense: responseAt, over this seat's translation (written by mk_bak.py). -/
namespace Go.Proofs.YtfpjhobhmcfpnaaDoor
set_option linter.unusedVariables false
set_option linter.unusedSimpArgs false
open Go.RowKit Go.Shelf

theorem isT_sub1 {α : Type} {n : Nat} {enc : α → List Value} {w : World} {A : Option Addr} {len : Nat} {zs : List α} (h : IsT n enc w A len zs) {k : Nat} {x : α} (hx : zs[k]? = some x) :
    ∃ b o : Nat, A = some ⟨b, o, none⟩ ∧ b < w.heap.size ∧ IsT n enc w (some ⟨b, o + k * n, none⟩) 1 [x] := by
  have hk : k < len := by rw [← h.1]; exact (List.getElem?_eq_some_iff.1 hx).1
  obtain ⟨b, o, e, h1, h2⟩ := h.2 (by omega)
  refine ⟨b, o, e, h1, rfl, fun _ => ⟨b, o + k * n, rfl, h1, fun j y hy i v hv => ?_⟩⟩
  have hj : j = 0 := by
    have := (List.getElem?_eq_some_iff.1 hy).1
    simp at this; omega
  subst hj
  obtain rfl : x = y := by simpa using hy
  have := h2 k x hx i v hv
  rw [show o + k * n + 0 * n + i = o + k * n + i by omega]
  exact this
/-- A machine of one sensor and one cell. -/
def aloneM (M : MachD) (x : SensorD) (X Y : Int) : MachD := ⟨M.name, [], [], M.limits.take 1, ⟨X, Y, 1, 1, 1⟩, [x]⟩
def oneC : CurD := ⟨[], [], [1]⟩
theorem isC_one {W : World} {pb : Nat} (h : W.cell? ⟨pb, 0, none⟩ = some (.int .i64 1)) (hp : pb < W.heap.size) : IsC W ⟨none, none, some ⟨pb, 0, none⟩, 0, 0, 0, 0, 1, 1⟩ oneC := by
  refine ⟨IsT.nil _ _ _ _, IsT.nil _ _ _ _, ⟨rfl, fun _ => ⟨pb, 0, rfl, hp, fun j x hx i v hv => ?_⟩⟩, by dsimp only; omega, by dsimp only; omega, by dsimp only; omega, by dsimp only; omega, by dsimp only; omega, by dsimp only; omega, by dsimp only; omega, by dsimp only; omega, by dsimp only; omega⟩
  have hj : j = 0 := by
    have := (List.getElem?_eq_some_iff.1 hx).1
    simp [oneC] at this; omega
  subst hj
  have hi : i = 0 := by
    have := (List.getElem?_eq_some_iff.1 hv).1
    simp [intCells] at this; omega
  subst hi
  obtain rfl : x = 1 := by simpa [oneC] using hx.symm
  have hv' : v = .int .i64 1 := by simpa [intCells] using hv.symm
  subst hv'
  exact h

set_option maxRecDepth 100000 in
set_option maxHeartbeats 8000000 in
theorem respAt_any (R : MachR) (M : MachD) (k : Nat) (x : SensorD) (X Y : Int) (w : World) (hM : IsM w R M) (hx : M.sensors[k]? = some x) (hl : 1 ≤ R.lc) :
    Calls Tryd.prog 32 #[.agg (machCells R M), .int .i64 k, .agg #[.int .i64 X, .int .i64 Y]] w (Ret (.int .i64 (exactL (aloneM M x X Y) oneC 0).1) w) := by
  obtain ⟨b, o, hD, hb0, hsub⟩ := isT_sub1 hM.sensors hx
  have hk : k < R.ld := by have := hM.sensors.1; have := (List.getElem?_eq_some_iff.1 hx).1; omega
  have hld := hM.ld
  have hlc := hM.lc
  have hcc := hM.cc
  have hcd := hM.cd
  have hkd := hM.kd
  have hM' : IsM w ⟨none, none, R.C, some ⟨b, o + k * 5, none⟩, 0, 0, 0, 0, 1, R.cc, 1, R.cd - k⟩ (aloneM M x X Y) :=
    ⟨IsT.nil _ _ _ _, IsT.nil _ _ _ _, hM.limits.take hl, hsub, by dsimp only; omega, by dsimp only; omega, by dsimp only; omega, by dsimp only; omega, by dsimp only; omega, by dsimp only; omega, by dsimp only; omega, by dsimp only; omega, by dsimp only; omega, by dsimp only; omega, by dsimp only; omega, by dsimp only; omega⟩
  have HX0 := Lib.hid (fun (pb : Nat) W (hb : Below w.heap.size w W) (hc : IsC W ⟨none, none, some ⟨pb, 0, none⟩, 0, 0, 0, 0, 1, 1⟩ oneC) => exact_any _ (aloneM M x X Y) _ oneC 0 W (hM'.below hb) hc (by omega) (by omega))
  generalize exactL (aloneM M x X Y) oneC 0 = G at *
  obtain ⟨G1, G2⟩ := G
  clear hM hM' hsub hx
  unfold aloneM at HX0
  obtain ⟨A, B, Cl, D, la, ca, lb, cb, lc, cl, ld, cd⟩ := R
  obtain ⟨name, coils, shells, limits, ⟨r, z, nr, nz, step⟩, sensors⟩ := M
  dsimp only at *
  subst hD
  have HX := Lib.hid (show ∀ (pb : Nat) W, Below w.heap.size w W → IsC W ⟨none, none, some ⟨pb, 0, none⟩, 0, 0, 0, 0, 1, 1⟩ oneC → Calls Tryd.prog 24 #[.agg #[.string name, .slice none 0 0, .slice none 0 0, .slice Cl 1 cl, .int .i64 X, .int .i64 Y, .int .i64 1, .int .i64 1, .int .i64 1, .slice (some ⟨b, o + k * 5, none⟩) 1 (cd - k)], .agg #[.slice none 0 0, .slice none 0 0, .slice (some ⟨pb, 0, none⟩) 1 1], .int .i64 0] W (Ret (.tuple #[.int .i64 G1, .int .i64 G2]) W) from HX0.out)
  clear HX0
  show Calls Tryd.prog 32 #[.agg #[.string name, .slice A la ca, .slice B lb cb, .slice Cl lc cl, .int .i64 r, .int .i64 z, .int .i64 nr, .int .i64 nz, .int .i64 step, .slice (some ⟨b, o, none⟩) ld cd], .int .i64 k, .agg #[.int .i64 X, .int .i64 Y]] w _
  have k0 : (0 : Int) ≤ k := by omega
  have w1 : IntKind.i64.wrap ((k : Int) + 1) = (k : Int) + 1 := IntWalk.i64_in _ (by omega)
  have n1 : ((k : Int)).toNat = k := by omega
  have n2 : ((k : Int) + 1).toNat = k + 1 := by omega
  have n3 : k + 1 - k = 1 := by omega
  have n4 : ¬ k = cd := by omega
  have i0 : (0 : Int) ≤ (cl : Int) := by omega
  have i1 : (1 : Int) ≤ (cl : Int) := by omega
  have i2 : (k : Int) + 1 ≤ (cd : Int) := by omega
  have i3 : (k : Int) ≤ (k : Int) + 1 := by omega
  have i4 : (k : Int) ≤ (cd : Int) := by omega
  have i5 : (0 : Int) ≤ (k : Int) + 1 := by omega
  have i6 : k < cd := by omega
  have i7 : 1 ≤ cl := by omega
  go_enter Tryd.func32, Tryd.ntmps32
  go_upto_region 1 with (fail)
  have m0 : ((w.alloc (.cells #[.string name, .slice A la ca, .slice B lb cb, .slice Cl lc cl, .int .i64 r, .int .i64 z, .int .i64 nr, .int .i64 nz, .int .i64 step, .slice (some ⟨b, o, none⟩) ld cd] 29)).alloc (.cells #[.int .i64 X, .int .i64 Y] 76)).cell? ⟨w.heap.size, 0, none⟩ = some (.string name) := by go_simp
  have m1 : ((w.alloc (.cells #[.string name, .slice A la ca, .slice B lb cb, .slice Cl lc cl, .int .i64 r, .int .i64 z, .int .i64 nr, .int .i64 nz, .int .i64 step, .slice (some ⟨b, o, none⟩) ld cd] 29)).alloc (.cells #[.int .i64 X, .int .i64 Y] 76)).cell? ⟨w.heap.size, 1, none⟩ = some (.slice A la ca) := by go_simp
  have m2 : ((w.alloc (.cells #[.string name, .slice A la ca, .slice B lb cb, .slice Cl lc cl, .int .i64 r, .int .i64 z, .int .i64 nr, .int .i64 nz, .int .i64 step, .slice (some ⟨b, o, none⟩) ld cd] 29)).alloc (.cells #[.int .i64 X, .int .i64 Y] 76)).cell? ⟨w.heap.size, 2, none⟩ = some (.slice B lb cb) := by go_simp
  have m3 : ((w.alloc (.cells #[.string name, .slice A la ca, .slice B lb cb, .slice Cl lc cl, .int .i64 r, .int .i64 z, .int .i64 nr, .int .i64 nz, .int .i64 step, .slice (some ⟨b, o, none⟩) ld cd] 29)).alloc (.cells #[.int .i64 X, .int .i64 Y] 76)).cell? ⟨w.heap.size, 3, none⟩ = some (.slice Cl lc cl) := by go_simp
  have m4 : ((w.alloc (.cells #[.string name, .slice A la ca, .slice B lb cb, .slice Cl lc cl, .int .i64 r, .int .i64 z, .int .i64 nr, .int .i64 nz, .int .i64 step, .slice (some ⟨b, o, none⟩) ld cd] 29)).alloc (.cells #[.int .i64 X, .int .i64 Y] 76)).cell? ⟨w.heap.size, 4, none⟩ = some (.int .i64 r) := by go_simp
  have m5 : ((w.alloc (.cells #[.string name, .slice A la ca, .slice B lb cb, .slice Cl lc cl, .int .i64 r, .int .i64 z, .int .i64 nr, .int .i64 nz, .int .i64 step, .slice (some ⟨b, o, none⟩) ld cd] 29)).alloc (.cells #[.int .i64 X, .int .i64 Y] 76)).cell? ⟨w.heap.size, 5, none⟩ = some (.int .i64 z) := by go_simp
  have m6 : ((w.alloc (.cells #[.string name, .slice A la ca, .slice B lb cb, .slice Cl lc cl, .int .i64 r, .int .i64 z, .int .i64 nr, .int .i64 nz, .int .i64 step, .slice (some ⟨b, o, none⟩) ld cd] 29)).alloc (.cells #[.int .i64 X, .int .i64 Y] 76)).cell? ⟨w.heap.size, 6, none⟩ = some (.int .i64 nr) := by go_simp
  have m7 : ((w.alloc (.cells #[.string name, .slice A la ca, .slice B lb cb, .slice Cl lc cl, .int .i64 r, .int .i64 z, .int .i64 nr, .int .i64 nz, .int .i64 step, .slice (some ⟨b, o, none⟩) ld cd] 29)).alloc (.cells #[.int .i64 X, .int .i64 Y] 76)).cell? ⟨w.heap.size, 7, none⟩ = some (.int .i64 nz) := by go_simp
  have m8 : ((w.alloc (.cells #[.string name, .slice A la ca, .slice B lb cb, .slice Cl lc cl, .int .i64 r, .int .i64 z, .int .i64 nr, .int .i64 nz, .int .i64 step, .slice (some ⟨b, o, none⟩) ld cd] 29)).alloc (.cells #[.int .i64 X, .int .i64 Y] 76)).cell? ⟨w.heap.size, 8, none⟩ = some (.int .i64 step) := by go_simp
  have m9 : ((w.alloc (.cells #[.string name, .slice A la ca, .slice B lb cb, .slice Cl lc cl, .int .i64 r, .int .i64 z, .int .i64 nr, .int .i64 nz, .int .i64 step, .slice (some ⟨b, o, none⟩) ld cd] 29)).alloc (.cells #[.int .i64 X, .int .i64 Y] 76)).cell? ⟨w.heap.size, 9, none⟩ = some (.slice (some ⟨b, o, none⟩) ld cd) := by go_simp
  have p0 : ((w.alloc (.cells #[.string name, .slice A la ca, .slice B lb cb, .slice Cl lc cl, .int .i64 r, .int .i64 z, .int .i64 nr, .int .i64 nz, .int .i64 step, .slice (some ⟨b, o, none⟩) ld cd] 29)).alloc (.cells #[.int .i64 X, .int .i64 Y] 76)).cell? ⟨w.heap.size + 1, 0, none⟩ = some (.int .i64 X) := by go_simp
  have p1 : ((w.alloc (.cells #[.string name, .slice A la ca, .slice B lb cb, .slice Cl lc cl, .int .i64 r, .int .i64 z, .int .i64 nr, .int .i64 nz, .int .i64 step, .slice (some ⟨b, o, none⟩) ld cd] 29)).alloc (.cells #[.int .i64 X, .int .i64 Y] 76)).cell? ⟨w.heap.size + 1, 1, none⟩ = some (.int .i64 Y) := by go_simp
  have hB : Below w.heap.size w ((w.alloc (.cells #[.string name, .slice A la ca, .slice B lb cb, .slice Cl lc cl, .int .i64 r, .int .i64 z, .int .i64 nr, .int .i64 nz, .int .i64 step, .slice (some ⟨b, o, none⟩) ld cd] 29)).alloc (.cells #[.int .i64 X, .int .i64 Y] 76)) := by (with_reducible repeat first | exact Below.refl _ _ | assumption | ((first | refine Below.setCell ?_ ?_ _ | refine Below.alloc ?_ ?_ _); rotate_left; exact (by first | omega | (simp; done) | (simp; omega))) | refine Below.drew ?_ | refine Below_drewN ?_ _)
  have hz : w.heap.size + 1 < ((w.alloc (.cells #[.string name, .slice A la ca, .slice B lb cb, .slice Cl lc cl, .int .i64 r, .int .i64 z, .int .i64 nr, .int .i64 nz, .int .i64 step, .slice (some ⟨b, o, none⟩) ld cd] 29)).alloc (.cells #[.int .i64 X, .int .i64 Y] 76)).heap.size := by simp
  obtain ⟨W0, hW0⟩ : ∃ W, (w.alloc (.cells #[.string name, .slice A la ca, .slice B lb cb, .slice Cl lc cl, .int .i64 r, .int .i64 z, .int .i64 nr, .int .i64 nz, .int .i64 step, .slice (some ⟨b, o, none⟩) ld cd] 29)).alloc (.cells #[.int .i64 X, .int .i64 Y] 76) = W := ⟨_, rfl⟩
  rw [hW0] at m0 m1 m2 m3 m4 m5 m6 m7 m8 m9 p0 p1 hB hz ⊢
  clear hW0
  go_cut [7] (fun s7 wx => ∃ y : Nat, s7 = .pointer (some ⟨y, 0, none⟩) ∧ wx.cell? ⟨y, 0, none⟩ = some (.string name) ∧ wx.cell? ⟨y, 1, none⟩ = some (.slice none 0 0) ∧ wx.cell? ⟨y, 2, none⟩ = some (.slice none 0 0) ∧ wx.cell? ⟨y, 3, none⟩ = some (.slice Cl 1 cl) ∧ wx.cell? ⟨y, 4, none⟩ = some (.int .i64 X) ∧ wx.cell? ⟨y, 5, none⟩ = some (.int .i64 Y) ∧ wx.cell? ⟨y, 6, none⟩ = some (.int .i64 1) ∧ wx.cell? ⟨y, 7, none⟩ = some (.int .i64 1) ∧ wx.cell? ⟨y, 8, none⟩ = some (.int .i64 1) ∧ wx.cell? ⟨y, 9, none⟩ = some (.slice (some ⟨b, o + k * 5, none⟩) 1 (cd - k)) ∧ y < wx.heap.size ∧ W0.heap.size ≤ y ∧ Below W0.heap.size W0 wx)
  case first =>
    have HS : Hid (∀ w' : World, Reg (W0.heap.size) (W0) w' → (Reg (W0.heap.size) (W0) w' ∧ w'.cell? ⟨w.heap.size, 0, none⟩ = some (.string name) ∧ w'.cell? ⟨w.heap.size, 1, none⟩ = some (.slice A la ca) ∧ w'.cell? ⟨w.heap.size, 2, none⟩ = some (.slice B lb cb) ∧ w'.cell? ⟨w.heap.size, 3, none⟩ = some (.slice Cl lc cl) ∧ w'.cell? ⟨w.heap.size, 4, none⟩ = some (.int .i64 r) ∧ w'.cell? ⟨w.heap.size, 5, none⟩ = some (.int .i64 z) ∧ w'.cell? ⟨w.heap.size, 6, none⟩ = some (.int .i64 nr) ∧ w'.cell? ⟨w.heap.size, 7, none⟩ = some (.int .i64 nz) ∧ w'.cell? ⟨w.heap.size, 8, none⟩ = some (.int .i64 step) ∧ w'.cell? ⟨w.heap.size, 9, none⟩ = some (.slice (some ⟨b, o, none⟩) ld cd) ∧ w'.cell? ⟨w.heap.size + 1, 0, none⟩ = some (.int .i64 X) ∧ w'.cell? ⟨w.heap.size + 1, 1, none⟩ = some (.int .i64 Y))) := (fun w' h => by (have hc := h.cells; have hs := h.some; have hf := h.frozen; refine ⟨h, ?_⟩; (try simp only [World.size_alloc, World.size_setCell, size_drew, size_drewN] at hc hs hf); first | (simp (disch := omega) only [hc, hs, hf, cur_iff]; (try go_simp); done) | (simp (disch := first | omega | (simp; done)) only [hc, hs, hf, cur_iff]; (try go_simp); done) | (simp (maxDischargeDepth := 4) [hc, hs, hf, cur_iff, go_sem]; done) | (go_simp; done) | (simp (maxDischargeDepth := 4) [hc, hs, hf, cur_iff, go_sem]; go_simp))); go_region_held3 (fun w' => Reg (W0.heap.size) (W0) w' ∧ w'.cell? ⟨w.heap.size, 0, none⟩ = some (.string name) ∧ w'.cell? ⟨w.heap.size, 1, none⟩ = some (.slice A la ca) ∧ w'.cell? ⟨w.heap.size, 2, none⟩ = some (.slice B lb cb) ∧ w'.cell? ⟨w.heap.size, 3, none⟩ = some (.slice Cl lc cl) ∧ w'.cell? ⟨w.heap.size, 4, none⟩ = some (.int .i64 r) ∧ w'.cell? ⟨w.heap.size, 5, none⟩ = some (.int .i64 z) ∧ w'.cell? ⟨w.heap.size, 6, none⟩ = some (.int .i64 nr) ∧ w'.cell? ⟨w.heap.size, 7, none⟩ = some (.int .i64 nz) ∧ w'.cell? ⟨w.heap.size, 8, none⟩ = some (.int .i64 step) ∧ w'.cell? ⟨w.heap.size, 9, none⟩ = some (.slice (some ⟨b, o, none⟩) ld cd) ∧ w'.cell? ⟨w.heap.size + 1, 0, none⟩ = some (.int .i64 X) ∧ w'.cell? ⟨w.heap.size + 1, 1, none⟩ = some (.int .i64 Y)) (exact HS.out _ (by (repeat first | with_reducible exact Reg.refl _ _ | with_reducible exact Reg.drewN2 _ _ _ _ | with_reducible exact (‹Reg _ _ _ ∧ _›).1 | (with_reducible refine Reg.setCell ?_ ?_ _; rotate_left; exact (by first | omega | ((try simp only [World.size_alloc, World.size_setCell, size_drew, size_drewN]); omega) | (simp; done) | (simp; omega))) | with_reducible refine Reg.alloc ?_ _ | with_reducible refine Reg.drew ?_ | with_reducible refine Reg.drewN ?_ _ | (with_reducible apply Reg.call; rotate_left; with_reducible assumption)))) (first | fail)
    all_goals go_wp2_with fail
    all_goals go_meet
    all_goals exact ⟨_, rfl, by go_simp, by go_simp, by go_simp, by go_simp, by go_simp, by go_simp, by go_simp, by go_simp, by go_simp, by go_simp, (by first | omega | ((try simp only [World.size_alloc, World.size_setCell, size_drew, size_drewN]); omega) | (simp; done) | (simp; omega)), (by first | omega | ((try simp only [World.size_alloc, World.size_setCell, size_drew, size_drewN]); omega) | (simp; done) | (simp; omega)), by (with_reducible repeat first | exact Below.refl _ _ | assumption | ((first | refine Below.setCell ?_ ?_ _ | refine Below.alloc ?_ ?_ _); rotate_left; exact (by first | omega | (simp; done) | (simp; omega))) | refine Below.drew ?_ | refine Below_drewN ?_ _)⟩
  case rest =>
    obtain ⟨y, rfl, a0, a1, a2, a3, a4, a5, a6, a7, a8, a9, hy, ly, hb⟩ := hcut
    have hBc := hB.trans (hb.mono hB.size)
    have hsz := hBc.size
    clear hb ly hz hB m0 m1 m2 m3 m4 m5 m6 m7 m8 m9 p0 p1
    go_wp2_with fail
    refine (HX.out _ _ (by (with_reducible repeat first | exact Below.refl _ _ | assumption | ((first | refine Below.setCell ?_ ?_ _ | refine Below.alloc ?_ ?_ _); rotate_left; exact (by first | omega | (simp; done) | (simp; omega))) | refine Below.drew ?_ | refine Below_drewN ?_ _)) (isC_one (by go_simp) (by simp))).mono ?_
    rintro e w3 ⟨rfl, hb⟩
    have hB3 : Below w.heap.size w w3 := Below.trans (by (with_reducible repeat first | exact Below.refl _ _ | assumption | ((first | refine Below.setCell ?_ ?_ _ | refine Below.alloc ?_ ?_ _); rotate_left; exact (by first | omega | (simp; done) | (simp; omega))) | refine Below.drew ?_ | refine Below_drewN ?_ _)) (hb.mono (by first | omega | ((try simp only [World.size_alloc, World.size_setCell, size_drew, size_drewN]); omega) | (simp; done) | (simp; omega)))
    clear hb a0 a1 a2 a3 a4 a5 a6 a7 a8 a9
    go_wp2_with fail
    go_ret
    exact ⟨rfl, by (with_reducible repeat first | exact Below.refl _ _ | assumption | ((first | refine Below.setCell ?_ ?_ _ | refine Below.alloc ?_ ?_ _); rotate_left; exact (by first | omega | (simp; done) | (simp; omega))) | refine Below.drew ?_ | refine Below_drewN ?_ _)⟩

end Go.Proofs.YtfpjhobhmcfpnaaDoor
end
section
/- Package sense: Response, over this seat's translation (written by mk_bak.py). -/
namespace Go.Proofs.YtfpjhobhmcfpnaaDoor
set_option linter.unusedVariables false
set_option linter.unusedSimpArgs false
open Go.RowKit Go.Shelf

def respL (M : MachD) (s cell : Int) : Int × Int :=
  if (cellL M cell).2.2 = 0 then if wthn s 0 ((M.sensors.length : Int) - 1) = true then match M.sensors[s.toNat]? with
    | some x => ((exactL (aloneM M x (cellL M cell).1 (cellL M cell).2.1) oneC 0).1, 0)
    | none => (0, 7)
  else (0, 7) else (0, (cellL M cell).2.2)
theorem cellL_check {M : MachD} {i : Int} (h : (cellL M i).2.2 = 0) : checkC M = 0 := by
  unfold cellL at h
  by_cases hc : checkC M = 0
  · exact hc
  · rw [if_neg hc] at h; simp at h
theorem limits_pos {M : MachD} (h : checkC M = 0) : 0 < M.limits.length := by
  have h4 := (orL_zero (orL_zero (orL_zero (orL_zero h).2).2).2).1
  unfold limitsC at h4
  by_cases h0 : M.limits.length = 0
  · rw [if_pos h0] at h4; simp at h4
  · omega

set_option maxRecDepth 100000 in
set_option maxHeartbeats 8000000 in
theorem response_any (R : MachR) (M : MachD) (s cell : Int) (w : World) (hM : IsM w R M) :
    Calls Tryd.prog 10 #[.agg (machCells R M), .int .i64 s, .int .i64 cell] w (Ret (.tuple #[.int .i64 (respL M s cell).1, .int .i64 (respL M s cell).2]) w) := by
  have HC0 := Lib.hid (fun W (hb : Below w.heap.size w W) => mcell_any R M cell W (hM.below hb))
  have hl := hM.sensors.1
  have hlim := hM.limits.1
  have hkd := hM.kd
  unfold respL
  by_cases he : (cellL M cell).2.2 = 0
  rotate_left
  · rw [if_neg he]
    clear hM hl hlim hkd
    generalize (cellL M cell).1 = X at *
    generalize (cellL M cell).2.1 = Y at *
    generalize (cellL M cell).2.2 = e at *
    have heb : (e != 0) = true := by rw [bne_iff_ne]; exact he
    obtain ⟨A, B, Cl, D, la, ca, lb, cb, lc, cl, ld, cd⟩ := R
    obtain ⟨name, coils, shells, limits, ⟨r, z, nr, nz, step⟩, sensors⟩ := M
    have HC := Lib.hid (show ∀ W, Below w.heap.size w W → Calls Tryd.prog 30 #[.agg #[.string name, .slice A la ca, .slice B lb cb, .slice Cl lc cl, .int .i64 r, .int .i64 z, .int .i64 nr, .int .i64 nz, .int .i64 step, .slice D ld cd], .int .i64 cell] W (Ret (.tuple #[.agg #[.int .i64 X, .int .i64 Y], .int .i64 e]) W) from HC0.out)
    clear HC0 he
    show Calls Tryd.prog 10 #[.agg #[.string name, .slice A la ca, .slice B lb cb, .slice Cl lc cl, .int .i64 r, .int .i64 z, .int .i64 nr, .int .i64 nz, .int .i64 step, .slice D ld cd], .int .i64 s, .int .i64 cell] w _
    go_enter Tryd.func10, Tryd.ntmps10
    go_wp2_with fail
    refine (HC.out _ (by (with_reducible repeat first | exact Below.refl _ _ | assumption | ((first | refine Below.setCell ?_ ?_ _ | refine Below.alloc ?_ ?_ _); rotate_left; exact (by first | omega | (simp; done) | (simp; omega))) | refine Below.drew ?_ | refine Below_drewN ?_ _))).mono ?_
    rintro _ w1 ⟨rfl, hb⟩
    have hB : Below w.heap.size w w1 := Below.trans (by (with_reducible repeat first | exact Below.refl _ _ | assumption | ((first | refine Below.setCell ?_ ?_ _ | refine Below.alloc ?_ ?_ _); rotate_left; exact (by first | omega | (simp; done) | (simp; omega))) | refine Below.drew ?_ | refine Below_drewN ?_ _)) (hb.mono (by first | omega | ((try simp only [World.size_alloc, World.size_setCell, size_drew, size_drewN]); omega) | (simp; done) | (simp; omega)))
    have hz := hB.size
    clear hb
    go_wp2_with fail
    go_ret2
    exact ⟨rfl, by (with_reducible repeat first | exact Below.refl _ _ | assumption | ((first | refine Below.setCell ?_ ?_ _ | refine Below.alloc ?_ ?_ _); rotate_left; exact (by first | omega | (simp; done) | (simp; omega))) | refine Below.drew ?_ | refine Below_drewN ?_ _)⟩
  rw [if_pos he]
  cases hw : wthn s 0 ((M.sensors.length : Int) - 1)
  · rw [hl] at hw
    clear hM hl hlim
    generalize (cellL M cell).1 = X at *
    generalize (cellL M cell).2.1 = Y at *
    generalize (cellL M cell).2.2 = e at *
    subst he
    obtain ⟨A, B, Cl, D, la, ca, lb, cb, lc, cl, ld, cd⟩ := R
    obtain ⟨name, coils, shells, limits, ⟨r, z, nr, nz, step⟩, sensors⟩ := M
    dsimp only at hw hkd
    have HC := Lib.hid (show ∀ W, Below w.heap.size w W → Calls Tryd.prog 30 #[.agg #[.string name, .slice A la ca, .slice B lb cb, .slice Cl lc cl, .int .i64 r, .int .i64 z, .int .i64 nr, .int .i64 nz, .int .i64 step, .slice D ld cd], .int .i64 cell] W (Ret (.tuple #[.agg #[.int .i64 X, .int .i64 Y], .int .i64 0]) W) from HC0.out)
    clear HC0
    show Calls Tryd.prog 10 #[.agg #[.string name, .slice A la ca, .slice B lb cb, .slice Cl lc cl, .int .i64 r, .int .i64 z, .int .i64 nr, .int .i64 nz, .int .i64 step, .slice D ld cd], .int .i64 s, .int .i64 cell] w _
    go_enter Tryd.func10, Tryd.ntmps10
    go_wp2_with fail
    refine (HC.out _ (by (with_reducible repeat first | exact Below.refl _ _ | assumption | ((first | refine Below.setCell ?_ ?_ _ | refine Below.alloc ?_ ?_ _); rotate_left; exact (by first | omega | (simp; done) | (simp; omega))) | refine Below.drew ?_ | refine Below_drewN ?_ _))).mono ?_
    rintro _ w1 ⟨rfl, hb⟩
    have m9 : w1.cell? ⟨w.heap.size, 9, none⟩ = some (.slice D ld cd) := by rw [hb.cell (p := ⟨w.heap.size, 9, none⟩) (by first | omega | ((try simp only [World.size_alloc, World.size_setCell, size_drew, size_drewN]); omega) | (simp; done) | (simp; omega))]; go_simp
    have hB : Below w.heap.size w w1 := Below.trans (by (with_reducible repeat first | exact Below.refl _ _ | assumption | ((first | refine Below.setCell ?_ ?_ _ | refine Below.alloc ?_ ?_ _); rotate_left; exact (by first | omega | (simp; done) | (simp; omega))) | refine Below.drew ?_ | refine Below_drewN ?_ _)) (hb.mono (by first | omega | ((try simp only [World.size_alloc, World.size_setCell, size_drew, size_drewN]); omega) | (simp; done) | (simp; omega)))
    have hz0 : w.heap.size < w1.heap.size := Nat.lt_of_lt_of_le (by first | omega | ((try simp only [World.size_alloc, World.size_setCell, size_drew, size_drewN]); omega) | (simp; done) | (simp; omega)) hb.size
    clear hb
    go_wp2_with (go_at_call 31; refine (seWithin_any _ _ _ _).mono ?_; rintro e w' ⟨rfl, rfl⟩)
    go_ret2
    exact ⟨rfl, by (with_reducible repeat first | exact Below.refl _ _ | assumption | ((first | refine Below.setCell ?_ ?_ _ | refine Below.alloc ?_ ?_ _); rotate_left; exact (by first | omega | (simp; done) | (simp; omega))) | refine Below.drew ?_ | refine Below_drewN ?_ _)⟩
  obtain ⟨j0, j1⟩ := wthn_iff.1 hw
  obtain ⟨k, rfl⟩ : ∃ k : Nat, s = k := ⟨s.toNat, by omega⟩
  obtain ⟨x, hx⟩ : ∃ x, M.sensors[k]? = some x := ⟨_, List.getElem?_eq_getElem (by omega)⟩
  rw [if_pos rfl, Int.toNat_natCast, hx]
  have hc := cellL_check he
  have hlp := limits_pos hc
  have HR0 := Lib.hid (fun W (hb : Below w.heap.size w W) => respAt_any R M k x (cellL M cell).1 (cellL M cell).2.1 W (hM.below hb) hx (by omega))
  dsimp only
  generalize (exactL (aloneM M x (cellL M cell).1 (cellL M cell).2.1) oneC 0).1 = G at *
  rw [hl] at hw
  clear hM hl hlim hx hc hlp j0 j1
  generalize (cellL M cell).1 = X at *
  generalize (cellL M cell).2.1 = Y at *
  generalize (cellL M cell).2.2 = e at *
  subst he
  obtain ⟨A, B, Cl, D, la, ca, lb, cb, lc, cl, ld, cd⟩ := R
  obtain ⟨name, coils, shells, limits, ⟨r, z, nr, nz, step⟩, sensors⟩ := M
  dsimp only at hw hkd
  have HC := Lib.hid (show ∀ W, Below w.heap.size w W → Calls Tryd.prog 30 #[.agg #[.string name, .slice A la ca, .slice B lb cb, .slice Cl lc cl, .int .i64 r, .int .i64 z, .int .i64 nr, .int .i64 nz, .int .i64 step, .slice D ld cd], .int .i64 cell] W (Ret (.tuple #[.agg #[.int .i64 X, .int .i64 Y], .int .i64 0]) W) from HC0.out)
  have HR := Lib.hid (show ∀ W, Below w.heap.size w W → Calls Tryd.prog 32 #[.agg #[.string name, .slice A la ca, .slice B lb cb, .slice Cl lc cl, .int .i64 r, .int .i64 z, .int .i64 nr, .int .i64 nz, .int .i64 step, .slice D ld cd], .int .i64 k, .agg #[.int .i64 X, .int .i64 Y]] W (Ret (.int .i64 G) W) from HR0.out)
  clear HC0 HR0
  show Calls Tryd.prog 10 #[.agg #[.string name, .slice A la ca, .slice B lb cb, .slice Cl lc cl, .int .i64 r, .int .i64 z, .int .i64 nr, .int .i64 nz, .int .i64 step, .slice D ld cd], .int .i64 k, .int .i64 cell] w _
  go_enter Tryd.func10, Tryd.ntmps10
  go_wp2_with fail
  refine (HC.out _ (by (with_reducible repeat first | exact Below.refl _ _ | assumption | ((first | refine Below.setCell ?_ ?_ _ | refine Below.alloc ?_ ?_ _); rotate_left; exact (by first | omega | (simp; done) | (simp; omega))) | refine Below.drew ?_ | refine Below_drewN ?_ _))).mono ?_
  rintro _ w1 ⟨rfl, hb⟩
  have m0 : w1.cell? ⟨w.heap.size, 0, none⟩ = some (.string name) := by rw [hb.cell (p := ⟨w.heap.size, 0, none⟩) (by first | omega | ((try simp only [World.size_alloc, World.size_setCell, size_drew, size_drewN]); omega) | (simp; done) | (simp; omega))]; go_simp
  have m1 : w1.cell? ⟨w.heap.size, 1, none⟩ = some (.slice A la ca) := by rw [hb.cell (p := ⟨w.heap.size, 1, none⟩) (by first | omega | ((try simp only [World.size_alloc, World.size_setCell, size_drew, size_drewN]); omega) | (simp; done) | (simp; omega))]; go_simp
  have m2 : w1.cell? ⟨w.heap.size, 2, none⟩ = some (.slice B lb cb) := by rw [hb.cell (p := ⟨w.heap.size, 2, none⟩) (by first | omega | ((try simp only [World.size_alloc, World.size_setCell, size_drew, size_drewN]); omega) | (simp; done) | (simp; omega))]; go_simp
  have m3 : w1.cell? ⟨w.heap.size, 3, none⟩ = some (.slice Cl lc cl) := by rw [hb.cell (p := ⟨w.heap.size, 3, none⟩) (by first | omega | ((try simp only [World.size_alloc, World.size_setCell, size_drew, size_drewN]); omega) | (simp; done) | (simp; omega))]; go_simp
  have m4 : w1.cell? ⟨w.heap.size, 4, none⟩ = some (.int .i64 r) := by rw [hb.cell (p := ⟨w.heap.size, 4, none⟩) (by first | omega | ((try simp only [World.size_alloc, World.size_setCell, size_drew, size_drewN]); omega) | (simp; done) | (simp; omega))]; go_simp
  have m5 : w1.cell? ⟨w.heap.size, 5, none⟩ = some (.int .i64 z) := by rw [hb.cell (p := ⟨w.heap.size, 5, none⟩) (by first | omega | ((try simp only [World.size_alloc, World.size_setCell, size_drew, size_drewN]); omega) | (simp; done) | (simp; omega))]; go_simp
  have m6 : w1.cell? ⟨w.heap.size, 6, none⟩ = some (.int .i64 nr) := by rw [hb.cell (p := ⟨w.heap.size, 6, none⟩) (by first | omega | ((try simp only [World.size_alloc, World.size_setCell, size_drew, size_drewN]); omega) | (simp; done) | (simp; omega))]; go_simp
  have m7 : w1.cell? ⟨w.heap.size, 7, none⟩ = some (.int .i64 nz) := by rw [hb.cell (p := ⟨w.heap.size, 7, none⟩) (by first | omega | ((try simp only [World.size_alloc, World.size_setCell, size_drew, size_drewN]); omega) | (simp; done) | (simp; omega))]; go_simp
  have m8 : w1.cell? ⟨w.heap.size, 8, none⟩ = some (.int .i64 step) := by rw [hb.cell (p := ⟨w.heap.size, 8, none⟩) (by first | omega | ((try simp only [World.size_alloc, World.size_setCell, size_drew, size_drewN]); omega) | (simp; done) | (simp; omega))]; go_simp
  have m9 : w1.cell? ⟨w.heap.size, 9, none⟩ = some (.slice D ld cd) := by rw [hb.cell (p := ⟨w.heap.size, 9, none⟩) (by first | omega | ((try simp only [World.size_alloc, World.size_setCell, size_drew, size_drewN]); omega) | (simp; done) | (simp; omega))]; go_simp
  have hB : Below w.heap.size w w1 := Below.trans (by (with_reducible repeat first | exact Below.refl _ _ | assumption | ((first | refine Below.setCell ?_ ?_ _ | refine Below.alloc ?_ ?_ _); rotate_left; exact (by first | omega | (simp; done) | (simp; omega))) | refine Below.drew ?_ | refine Below_drewN ?_ _)) (hb.mono (by first | omega | ((try simp only [World.size_alloc, World.size_setCell, size_drew, size_drewN]); omega) | (simp; done) | (simp; omega)))
  have hz0 : w.heap.size < w1.heap.size := Nat.lt_of_lt_of_le (by first | omega | ((try simp only [World.size_alloc, World.size_setCell, size_drew, size_drewN]); omega) | (simp; done) | (simp; omega)) hb.size
  clear hb
  go_wp2_with (go_at_call 31; refine (seWithin_any _ _ _ _).mono ?_; rintro e w' ⟨rfl, rfl⟩)
  refine (HR.out _ (by (with_reducible repeat first | exact Below.refl _ _ | assumption | ((first | refine Below.setCell ?_ ?_ _ | refine Below.alloc ?_ ?_ _); rotate_left; exact (by first | omega | (simp; done) | (simp; omega))) | refine Below.drew ?_ | refine Below_drewN ?_ _))).mono ?_
  rintro _ w3 ⟨rfl, hb⟩
  have hB3 : Below w.heap.size w w3 := Below.trans (by (with_reducible repeat first | exact Below.refl _ _ | assumption | ((first | refine Below.setCell ?_ ?_ _ | refine Below.alloc ?_ ?_ _); rotate_left; exact (by first | omega | (simp; done) | (simp; omega))) | refine Below.drew ?_ | refine Below_drewN ?_ _)) (hb.mono (by first | omega | ((try simp only [World.size_alloc, World.size_setCell, size_drew, size_drewN]); omega) | (simp; done) | (simp; omega)))
  clear hb
  go_wp2_with fail
  go_ret2
  exact ⟨rfl, by (with_reducible repeat first | exact Below.refl _ _ | assumption | ((first | refine Below.setCell ?_ ?_ _ | refine Below.alloc ?_ ?_ _); rotate_left; exact (by first | omega | (simp; done) | (simp; omega))) | refine Below.drew ?_ | refine Below_drewN ?_ _)⟩

end Go.Proofs.YtfpjhobhmcfpnaaDoor
end
section
/- A filament's reading is the background's and the response's: plain arithmetic, over this seat's translation. -/
namespace Go.Proofs.YtfpjhobhmcfpnaaDoor
set_option linter.unusedVariables false
set_option linter.unusedSimpArgs false
open Go.RowKit Go.Shelf

theorem tot_zeros (n : Nat) (s : Int) (h0 : 0 ≤ s) (h1 : s ≤ 1000000) : tot s (List.replicate n 0) = s := by
  induction n with
  | zero => rfl
  | succ n ih =>
    rw [List.replicate_succ]
    unfold tot
    rw [IntWalk.wrap64_in _ (by omega), show s + 0 = s by omega]
    exact ih
theorem tot_put (c : Int) (c0 : 0 ≤ c) (c1 : c ≤ 1000000) : ∀ (n i : Nat), i < n → tot 0 ((List.replicate n 0).set i c) = c
  | 0, i, h => absurd h (Nat.not_lt_zero i)
  | n + 1, 0, _ => by
    rw [List.replicate_succ, List.set_cons_zero]
    unfold tot
    rw [IntWalk.wrap64_in _ (by omega), show (0 : Int) + c = c by omega]
    exact tot_zeros n c c0 c1
  | n + 1, i + 1, h => by
    rw [List.replicate_succ, List.set_cons_succ]
    unfold tot
    rw [IntWalk.wrap64_in _ (by omega), show (0 : Int) + 0 = 0 by omega]
    exact tot_put c c0 c1 n i (by omega)
theorem set_mem {n i : Nat} {c x : Int} (h : x ∈ (List.replicate n (0 : Int)).set i c) : x = c ∨ x = 0 := by
  rcases List.mem_or_eq_of_mem_set h with h | h
  · exact .inr (List.eq_of_mem_replicate h)
  · exact .inl h
/-- The currents of a filament are valid. -/
theorem fila_fit {M : MachD} {C : CurD} {cell cur : Int} (h : Fit2 M C) (hi : inB C cell cur = true) : Fit2 M (filaD C cell cur) := by
  unfold inB at hi
  rw [Bool.and_eq_true] at hi
  have a := wthn_iff.1 hi.1
  have b := wthn_iff.1 hi.2
  exact ⟨h.check, h.coils, h.shells, ⟨by unfold filaD; simpa using h.plasma.1, fun x hx => by
    rcases set_mem hx with rfl | rfl <;> omega⟩, by
    show tot 0 ((List.replicate C.plasma.length 0).set cell.toNat cur) ≤ 1000000
    rw [tot_put cur b.1 b.2 _ _ (by omega)]; exact b.2⟩
theorem dark_fit {M : MachD} {C : CurD} (h : Fit2 M C) : Fit2 M (darkD C) :=
  ⟨h.check, h.coils, h.shells, ⟨by unfold darkD; simpa using h.plasma.1, fun x hx => by
    have := List.eq_of_mem_replicate hx
    omega⟩, by
    show tot 0 (List.replicate C.plasma.length 0) ≤ 1000000
    rw [tot_zeros _ 0 (by omega) (by omega)]; omega⟩

theorem fluxP_one (p : Int × Int) (x : Src) : fluxP p [x] = infl p.1 p.2 x.1.1 x.1.2 * x.2 := by simp [fluxP]
theorem cells_zero (p : Int × Int) (g : GridD) (n : Nat) : ∀ k, k ≤ n → fluxP p (cellSrc g (List.replicate n 0) k) = 0
  | 0, _ => rfl
  | k + 1, h => by
    rw [cellSrc_succ, fluxP_append, cells_zero p g n k (by omega), fluxP_one]
    simp [List.getElem?_replicate, show k < n by omega]
theorem cells_put (p : Int × Int) (g : GridD) (n i : Nat) (hi : i < n) (c : Int) : ∀ k, k ≤ n → fluxP p (cellSrc g ((List.replicate n 0).set i c) k) = if i < k then infl p.1 p.2 (cellR g i) (cellZ g i) * c else 0
  | 0, _ => by simp [cellSrc, fluxP]
  | k + 1, h => by
    rw [cellSrc_succ, fluxP_append, cells_put p g n i hi c k (by omega), fluxP_one]
    by_cases e : i = k
    · subst e
      simp [hi]
    · rw [List.getElem?_set_ne e, List.getElem?_replicate, if_pos (show k < n by omega)]
      by_cases h1 : i < k
      · rw [if_pos h1, if_pos (by omega)]; simp
      · rw [if_neg h1, if_neg (by omega)]; simp
theorem flux_fila (M : MachD) (C : CurD) (cell cur : Int) (h0 : 0 ≤ cell) (h1 : cell ≤ (C.plasma.length : Int) - 1) (p : Int × Int) :
    fluxP p (srcM M (filaD C cell cur)) = fluxP p (srcM M (darkD C)) + infl p.1 p.2 (cellR M.grid cell) (cellZ M.grid cell) * cur := by
  obtain ⟨i, rfl⟩ : ∃ i : Nat, cell = i := ⟨cell.toNat, by omega⟩
  unfold srcM srcL filaD darkD
  dsimp only
  rw [Int.toNat_natCast]
  simp only [fluxP_append, List.length_set, List.length_replicate]
  rw [cells_zero p M.grid _ _ (Nat.le_refl _), cells_put p M.grid _ i (by omega) cur _ (Nat.le_refl _), if_pos (by omega)]
  omega
/-- The response of a sensor: of a current of 1 at a place. -/
def sensOne (x : SensorD) (X Y : Int) : Int := sensP [((X, Y), 1)] x
theorem sens_fila (M : MachD) (C : CurD) (cell cur : Int) (h0 : 0 ≤ cell) (h1 : cell ≤ (C.plasma.length : Int) - 1) (x : SensorD) :
    sensP (srcM M (filaD C cell cur)) x = sensP (srcM M (darkD C)) x + sensOne x (cellR M.grid cell) (cellZ M.grid cell) * cur := by
  have H := flux_fila M C cell cur h0 h1
  unfold sensOne sensP fieldP
  simp only [H, fluxP_one, Int.mul_one]
  split
  · rfl
  · split
    · rw [Int.sub_mul]; omega
    · rw [Int.sub_mul]; omega
/-- A cell of a machine without an error lies where things may lie. -/
theorem cell_near {M : MachD} (h : checkC M = 0) {i : Int} (h0 : 0 ≤ i) (h1 : i ≤ M.grid.nr * M.grid.nz - 1) : nearB (cellR M.grid i) (cellZ M.grid i) 60 = true := by
  have hg := grid_of h
  have hf := fine_grid hg
  have hc := cells_fine hf
  unfold gridC at hg
  obtain ⟨r0, r1, z0, z1, n0, n1, k0, k1, s0, s1⟩ := hf
  split at hg
  · split at hg
    · have hl := near_iff.1 (rng_zero hg)
      unfold cellR cellZ at *
      generalize M.grid.r = r at *
      generalize M.grid.z = z at *
      generalize M.grid.nr = a at *
      generalize M.grid.nz = b at *
      generalize M.grid.step = s at *
      have m1 : (a * b - 1) % a = a - 1 := by
        rw [show a * b - 1 = (a - 1) + (b - 1) * a by rw [Int.sub_mul, Int.one_mul, Int.mul_comm b a]; omega, Int.add_mul_emod_self_right]
        exact Int.emod_eq_of_lt (by omega) (by omega)
      have d1 : (a * b - 1) / a = b - 1 := by
        rw [show a * b - 1 = (a - 1) + (b - 1) * a by rw [Int.sub_mul, Int.one_mul, Int.mul_comm b a]; omega, Int.add_mul_ediv_right _ _ (by omega), Int.ediv_eq_zero_of_lt (by omega) (by omega)]
        omega
      rw [m1, d1] at hl
      have a0 := Int.emod_nonneg i (show a ≠ 0 by omega)
      have a1 := Int.emod_lt_of_pos i (show 0 < a by omega)
      have b0 := Int.ediv_nonneg h0 (show 0 ≤ a by omega)
      have b1 : i / a ≤ b - 1 := by
        have : i / a < b := Int.ediv_lt_of_lt_mul (by omega) (by rw [Int.mul_comm b a]; omega)
        omega
      have u0 := Int.mul_nonneg a0 (show 0 ≤ s by omega)
      have u1 := Int.mul_le_mul_of_nonneg_right (show i % a ≤ a - 1 by omega) (show 0 ≤ s by omega)
      have v0 := Int.mul_nonneg b0 (show 0 ≤ s by omega)
      have v1 := Int.mul_le_mul_of_nonneg_right b1 (show 0 ≤ s by omega)
      rw [near_iff]
      omega
    · simp at hg
  · simp at hg
theorem eachGo_first {α : Type} {chk : α → List α → Int} {y : α} {r : List α} (h : eachGo chk [] (y :: r) = 0) : chk y [] = 0 := by
  unfold eachGo at h
  by_cases hc : chk y [] = 0
  · exact hc
  · rw [if_neg hc] at h; exact absurd h hc
theorem sensor_alone {x : SensorD} {e : List SensorD} (h : sensorC x e = 0) : sensorC x [] = 0 := by
  unfold sensorC at *
  split at h
  · rename_i hn
    rw [if_pos hn]
    split at h
    · simp at h
    · simpa using h
  · simp at h
theorem alone_check {M : MachD} (h : checkC M = 0) {x : SensorD} (hx : x ∈ M.sensors) {X Y : Int} (hn : nearB X Y 60 = true) : checkC (aloneM M x X Y) = 0 := by
  have g1 := (orL_zero h).1
  have h4 := (orL_zero (orL_zero (orL_zero (orL_zero h).2).2).2).1
  have h6 := (orL_zero (orL_zero (orL_zero (orL_zero (orL_zero (orL_zero h).2).2).2).2).2).1
  obtain ⟨e, he⟩ := (eachC_all h6).2 x hx
  have g6 : eachC sensorC 24 [x] = 0 := by
    unfold eachC
    rw [if_neg (by simp)]
    unfold eachGo
    rw [if_pos (sensor_alone he)]; rfl
  have g4 : limitsC (M.limits.take 1) = 0 := by
    unfold limitsC at *
    cases hm : M.limits with
    | nil => rw [hm] at h4; simp at h4
    | cons y r =>
      rw [hm] at h4
      rw [if_neg (by simp)] at h4
      unfold eachC at h4
      split at h4
      · simp at h4
      · have := eachGo_first h4
        rw [if_neg (by simp)]
        unfold eachC
        rw [if_neg (by simp), List.take_succ_cons, List.take_zero]
        unfold eachGo
        rw [if_pos this]; rfl
  have g5 : gridC ⟨X, Y, 1, 1, 1⟩ = 0 := by
    unfold gridC
    rw [if_pos (by simp [wthn]), if_pos hn]
    have : nearB (cellR ⟨X, Y, 1, 1, 1⟩ (1 * 1 - 1)) (cellZ ⟨X, Y, 1, 1, 1⟩ (1 * 1 - 1)) 60 = nearB X Y 60 := by simp [cellR, cellZ]
    dsimp only at this ⊢
    rw [this, hn]; rfl
  unfold checkC aloneM
  dsimp only
  rw [g1, g4, g5, g6]
  rfl
theorem alone_fit {M : MachD} (h : checkC M = 0) {x : SensorD} (hx : x ∈ M.sensors) {X Y : Int} (hn : nearB X Y 60 = true) : Fit2 (aloneM M x X Y) oneC :=
  ⟨alone_check h hx hn, ⟨rfl, fun y hy => by cases hy⟩, ⟨rfl, fun y hy => by cases hy⟩, ⟨rfl, fun y hy => by
    have : y = 1 := by simpa [oneC] using hy
    omega⟩, by show tot 0 [1] ≤ 1000000; simp only [tot]; rw [IntWalk.wrap64_in _ (by omega)]; omega⟩
theorem alone_exact {M : MachD} (h : checkC M = 0) {x : SensorD} (hx : x ∈ M.sensors) {X Y : Int} (hn : nearB X Y 60 = true) : (exactL (aloneM M x X Y) oneC 0).1 = sensOne x X Y := by
  unfold exactL
  rw [fit2_iff.2 (alone_fit h hx hn), if_pos rfl, if_pos (by rfl)]
  show sensP (srcM (aloneM M x X Y) oneC) x = _
  have : srcM (aloneM M x X Y) oneC = [((X, Y), 1)] := by
    simp [srcM, srcL, aloneM, oneC, cellSrc, cellR, cellZ]
  rw [this]; rfl

end Go.Proofs.YtfpjhobhmcfpnaaDoor
end
section
/- The specification of layer 4: unit, over this seat's translation (written by mk_run.py). -/
namespace Go.Proofs.YtfpjhobhmcfpnaaDoor
set_option linter.unusedVariables false
set_option linter.unusedSimpArgs false
open Go.RowKit Go.Shelf

def unitD (la lb nc cell : Nat) : CurD := ⟨List.replicate la 0, List.replicate lb 0, (List.replicate nc 0).set cell 1⟩
def UnitAt (la lb nc cell : Nat) (w : World) (e : Ending) (w' : World) : Prop :=
  ∃ (pa pb pc : Nat), e = .returned (.agg #[.slice (some ⟨pa, 0, none⟩) la la, .slice (some ⟨pb, 0, none⟩) lb lb, .slice (some ⟨pc, 0, none⟩) nc nc]) ∧ IsC w' ⟨some ⟨pa, 0, none⟩, some ⟨pb, 0, none⟩, some ⟨pc, 0, none⟩, la, la, lb, lb, nc, nc⟩ (unitD la lb nc cell) ∧ Below w.heap.size w w'

set_option maxRecDepth 100000 in
set_option maxHeartbeats 8000000 in
theorem runit_any (R : MachR) (M : MachD) (cell : Nat) (w : World) (hM : IsM w R M) (hc : checkC M = 0) (nc : Nat) (hn : (nc : Int) = M.grid.nr * M.grid.nz) (hin : cell < nc) :
    Calls Tryd.prog 35 #[.agg (machCells R M), .int .i64 cell] w (UnitAt R.la R.lb nc cell w) := by
  have hs := sound_of hc
  have hf := cells_fine hs.grid
  have e1 := hM.coils.1
  have e2 := hM.shells.1
  have b1 := hs.coils.1
  have b2 := hs.shells.1
  have l1 : R.la ≤ 1000 := by omega
  have l2 : R.lb ≤ 1000 := by omega
  have l3 : nc ≤ 1000 := by omega
  have HQ0 := Lib.hid (fun W (hb : Below w.heap.size w W) => rquiet_any R M W (hM.below hb) hc nc hn)
  clear hM hc hn hs hf e1 e2 b1 b2
  obtain ⟨A, B, Cl, D, la, ca, lb, cb, lc, cl, ld, cd⟩ := R
  obtain ⟨name, coils, shells, limits, ⟨r, z, nr, nz, step⟩, sensors⟩ := M
  dsimp only at l1 l2 HQ0 ⊢
  have HQ := Lib.hid (show ∀ W, Below w.heap.size w W → Calls Tryd.prog 73 #[.agg #[.string name, .slice A la ca, .slice B lb cb, .slice Cl lc cl, .int .i64 r, .int .i64 z, .int .i64 nr, .int .i64 nz, .int .i64 step, .slice D ld cd]] W (Quiet la lb nc W) from HQ0.out)
  clear HQ0
  show Calls Tryd.prog 35 #[.agg #[.string name, .slice A la ca, .slice B lb cb, .slice Cl lc cl, .int .i64 r, .int .i64 z, .int .i64 nr, .int .i64 nz, .int .i64 step, .slice D ld cd], .int .i64 cell] w _
  go_enter Tryd.func35, Tryd.ntmps35
  go_upto_region 1 with (fail)
  have Fm : Hid (RowL (w.heap.size) [.string name, .slice A la ca, .slice B lb cb, .slice Cl lc cl, .int .i64 r, .int .i64 z, .int .i64 nr, .int .i64 nz, .int .i64 step, .slice D ld cd] ((w.alloc (.cells #[.string name, .slice A la ca, .slice B lb cb, .slice Cl lc cl, .int .i64 r, .int .i64 z, .int .i64 nr, .int .i64 nz, .int .i64 step, .slice D ld cd] 29)).alloc (.cells #[.slice none 0 0, .slice none 0 0, .slice none 0 0] 32))) := Lib.hid (by have h := RowL.new w #[.string name, .slice A la ca, .slice B lb cb, .slice Cl lc cl, .int .i64 r, .int .i64 z, .int .i64 nr, .int .i64 nz, .int .i64 step, .slice D ld cd] 29; (try simp only [World.size_alloc] at h); exact (h.alloc _))
  have Ft : Hid (RowL (w.heap.size + 1) [.slice none 0 0, .slice none 0 0, .slice none 0 0] ((w.alloc (.cells #[.string name, .slice A la ca, .slice B lb cb, .slice Cl lc cl, .int .i64 r, .int .i64 z, .int .i64 nr, .int .i64 nz, .int .i64 step, .slice D ld cd] 29)).alloc (.cells #[.slice none 0 0, .slice none 0 0, .slice none 0 0] 32))) := Lib.hid (by have h := RowL.new (w.alloc (.cells #[.string name, .slice A la ca, .slice B lb cb, .slice Cl lc cl, .int .i64 r, .int .i64 z, .int .i64 nr, .int .i64 nz, .int .i64 step, .slice D ld cd] 29)) #[.slice none 0 0, .slice none 0 0, .slice none 0 0] 32; (try simp only [World.size_alloc] at h); exact h)
  have hB0 : Below w.heap.size w ((w.alloc (.cells #[.string name, .slice A la ca, .slice B lb cb, .slice Cl lc cl, .int .i64 r, .int .i64 z, .int .i64 nr, .int .i64 nz, .int .i64 step, .slice D ld cd] 29)).alloc (.cells #[.slice none 0 0, .slice none 0 0, .slice none 0 0] 32)) := by (with_reducible repeat first | exact Below.refl _ _ | assumption | ((first | refine Below.setCell ?_ ?_ _ | refine Below.alloc ?_ ?_ _); rotate_left; exact (by first | omega | (simp; done) | (simp; omega))) | refine Below.drew ?_ | refine Below_drewN ?_ _)
  have sW0 : w.heap.size + 1 < ((w.alloc (.cells #[.string name, .slice A la ca, .slice B lb cb, .slice Cl lc cl, .int .i64 r, .int .i64 z, .int .i64 nr, .int .i64 nz, .int .i64 step, .slice D ld cd] 29)).alloc (.cells #[.slice none 0 0, .slice none 0 0, .slice none 0 0] 32)).heap.size := by simp only [World.size_alloc]; omega
  obtain ⟨W0, hW0⟩ : ∃ W, ((w.alloc (.cells #[.string name, .slice A la ca, .slice B lb cb, .slice Cl lc cl, .int .i64 r, .int .i64 z, .int .i64 nr, .int .i64 nz, .int .i64 step, .slice D ld cd] 29)).alloc (.cells #[.slice none 0 0, .slice none 0 0, .slice none 0 0] 32)) = W := ⟨_, rfl⟩
  rw [hW0] at Fm Ft hB0 sW0 ⊢
  clear hW0
  have m0 := Fm.out.cell 0 (.string name) rfl
  have m1 := Fm.out.cell 1 (.slice A la ca) rfl
  have m2 := Fm.out.cell 2 (.slice B lb cb) rfl
  have m3 := Fm.out.cell 3 (.slice Cl lc cl) rfl
  have m4 := Fm.out.cell 4 (.int .i64 r) rfl
  have m5 := Fm.out.cell 5 (.int .i64 z) rfl
  have m6 := Fm.out.cell 6 (.int .i64 nr) rfl
  have m7 := Fm.out.cell 7 (.int .i64 nz) rfl
  have m8 := Fm.out.cell 8 (.int .i64 step) rfl
  have m9 := Fm.out.cell 9 (.slice D ld cd) rfl
  have t0 := Ft.out.cell 0 (.slice none 0 0) rfl
  have tf0 := Ft.out.mark 0 (by simp)
  have t1 := Ft.out.cell 1 (.slice none 0 0) rfl
  have tf1 := Ft.out.mark 1 (by simp)
  have t2 := Ft.out.cell 2 (.slice none 0 0) rfl
  have tf2 := Ft.out.mark 2 (by simp)
  go_wp2_with fail
  refine (HQ.out _ (by (with_reducible repeat first | exact Below.refl _ _ | assumption | ((first | refine Below.setCell ?_ ?_ _ | refine Below.alloc ?_ ?_ _); rotate_left; exact (by first | omega | (simp; done) | (simp; omega))) | refine Below.drew ?_ | refine Below_drewN ?_ _))).mono ?_
  rintro e w1 ⟨pa, pb, pc, rfl, hq, hb⟩
  clear m0 m1 m2 m3 m4 m5 m6 m7 m8 m9 t0 tf0 t1 tf1 t2 tf2
  have Gm := Lib.hid (Fm.out.below hb)
  clear Fm
  have Fm := Lib.hid Gm.out
  clear Gm
  have Gt := Lib.hid (Ft.out.below hb)
  clear Ft
  have Ft := Lib.hid Gt.out
  clear Gt
  have m0 := Fm.out.cell 0 (.string name) rfl
  have m1 := Fm.out.cell 1 (.slice A la ca) rfl
  have m2 := Fm.out.cell 2 (.slice B lb cb) rfl
  have m3 := Fm.out.cell 3 (.slice Cl lc cl) rfl
  have m4 := Fm.out.cell 4 (.int .i64 r) rfl
  have m5 := Fm.out.cell 5 (.int .i64 z) rfl
  have m6 := Fm.out.cell 6 (.int .i64 nr) rfl
  have m7 := Fm.out.cell 7 (.int .i64 nz) rfl
  have m8 := Fm.out.cell 8 (.int .i64 step) rfl
  have m9 := Fm.out.cell 9 (.slice D ld cd) rfl
  have t0 := Ft.out.cell 0 (.slice none 0 0) rfl
  have tf0 := Ft.out.mark 0 (by simp)
  have t1 := Ft.out.cell 1 (.slice none 0 0) rfl
  have tf1 := Ft.out.mark 1 (by simp)
  have t2 := Ft.out.cell 2 (.slice none 0 0) rfl
  have tf2 := Ft.out.mark 2 (by simp)
  have hB1 := hB0.trans (hb.mono hB0.size)
  have hz1 : w.heap.size + 1 < w1.heap.size := Nat.lt_of_lt_of_le sW0 hb.size
  have hbase := hq.base
  have hap := hq.apart
  have hpl := hq.cells.lt
  have Hq := Lib.hid hq
  clear hb hq
  go_upto_region 2 with (fail)
  have Fq : Hid (RowL (w1.heap.size) [.slice (some ⟨pa, 0, none⟩) la la, .slice (some ⟨pb, 0, none⟩) lb lb, .slice (some ⟨pc, 0, none⟩) nc nc] (w1.alloc (.cells #[.slice (some ⟨pa, 0, none⟩) la la, .slice (some ⟨pb, 0, none⟩) lb lb, .slice (some ⟨pc, 0, none⟩) nc nc] 32))) := Lib.hid (by have h := RowL.new w1 #[.slice (some ⟨pa, 0, none⟩) la la, .slice (some ⟨pb, 0, none⟩) lb lb, .slice (some ⟨pc, 0, none⟩) nc nc] 32; (try simp only [World.size_alloc] at h); exact h)
  have hb2 : Below w1.heap.size w1 (w1.alloc (.cells #[.slice (some ⟨pa, 0, none⟩) la la, .slice (some ⟨pb, 0, none⟩) lb lb, .slice (some ⟨pc, 0, none⟩) nc nc] 32)) := by (with_reducible repeat first | exact Below.refl _ _ | assumption | ((first | refine Below.setCell ?_ ?_ _ | refine Below.alloc ?_ ?_ _); rotate_left; exact (by first | omega | (simp; done) | (simp; omega))) | refine Below.drew ?_ | refine Below_drewN ?_ _)
  have sW2 : w1.heap.size < (w1.alloc (.cells #[.slice (some ⟨pa, 0, none⟩) la la, .slice (some ⟨pb, 0, none⟩) lb lb, .slice (some ⟨pc, 0, none⟩) nc nc] 32)).heap.size := by simp only [World.size_alloc]; omega
  obtain ⟨W2, hW2⟩ : ∃ W, (w1.alloc (.cells #[.slice (some ⟨pa, 0, none⟩) la la, .slice (some ⟨pb, 0, none⟩) lb lb, .slice (some ⟨pc, 0, none⟩) nc nc] 32)) = W := ⟨_, rfl⟩
  rw [hW2] at Fq hb2 sW2 ⊢
  clear hW2
  clear m0 m1 m2 m3 m4 m5 m6 m7 m8 m9 t0 tf0 t1 tf1 t2 tf2
  have Gm := Lib.hid (Fm.out.below hb2)
  clear Fm
  have Fm := Lib.hid Gm.out
  clear Gm
  have Gt := Lib.hid (Ft.out.below hb2)
  clear Ft
  have Ft := Lib.hid Gt.out
  clear Gt
  have m0 := Fm.out.cell 0 (.string name) rfl
  have m1 := Fm.out.cell 1 (.slice A la ca) rfl
  have m2 := Fm.out.cell 2 (.slice B lb cb) rfl
  have m3 := Fm.out.cell 3 (.slice Cl lc cl) rfl
  have m4 := Fm.out.cell 4 (.int .i64 r) rfl
  have m5 := Fm.out.cell 5 (.int .i64 z) rfl
  have m6 := Fm.out.cell 6 (.int .i64 nr) rfl
  have m7 := Fm.out.cell 7 (.int .i64 nz) rfl
  have m8 := Fm.out.cell 8 (.int .i64 step) rfl
  have m9 := Fm.out.cell 9 (.slice D ld cd) rfl
  have t0 := Ft.out.cell 0 (.slice none 0 0) rfl
  have tf0 := Ft.out.mark 0 (by simp)
  have t1 := Ft.out.cell 1 (.slice none 0 0) rfl
  have tf1 := Ft.out.mark 1 (by simp)
  have t2 := Ft.out.cell 2 (.slice none 0 0) rfl
  have tf2 := Ft.out.mark 2 (by simp)
  have q0 := Fq.out.cell 0 (.slice (some ⟨pa, 0, none⟩) la la) rfl
  have q1 := Fq.out.cell 1 (.slice (some ⟨pb, 0, none⟩) lb lb) rfl
  have q2 := Fq.out.cell 2 (.slice (some ⟨pc, 0, none⟩) nc nc) rfl
  have hB2 := hB1.trans (hb2.mono hB1.size)
  have zA := Hq.out.coils.below hb2
  have zB := Hq.out.shells.below hb2
  have zC := Hq.out.cells.below hb2
  have zc := zC.cell cell hin
  have zf := zC.mark cell hin
  have hs2 := hb2.size
  have HA := Lib.hid zA
  have HB := Lib.hid zB
  have HC := Lib.hid zC
  clear hb2 Hq zA zB zC
  have g1 : w.heap.size + 1 < pc := by omega
  have g3 : ¬ w1.heap.size = pc := by omega
  have g4 : pc < W2.heap.size := by omega
  have g5 : w1.heap.size < W2.heap.size := by omega
  go_wp2_with fail
  refine bodyPost_ret (resC3 Tryd.results35 _ _ _ _ _ _ rfl ?_ ?_ ?_) rfl ?_
  · exact (by (try simp only [isSome_setCell]); first | assumption | go_simp)
  · exact (by (try simp only [isSome_setCell]); first | assumption | go_simp)
  · exact (by (try simp only [isSome_setCell]); first | assumption | go_simp)
  refine ⟨_, _, _, rfl, ?_, by (with_reducible repeat first | exact Below.refl _ _ | assumption | ((first | refine Below.setCell ?_ ?_ _ | refine Below.alloc ?_ ?_ _); rotate_left; exact (by first | omega | (simp; done) | (simp; omega))) | refine Below.drew ?_ | refine Below_drewN ?_ _)⟩
  refine ⟨?_, ?_, ?_, Nat.le_refl _, Nat.le_refl _, Nat.le_refl _, by dsimp only; omega, by dsimp only; omega, by dsimp only; omega, by dsimp only; omega, by dsimp only; omega, by dsimp only; omega⟩
  · repeat refine isT_set ?_ (fun a ha => by obtain rfl := Option.some.inj ha; dsimp only; omega) _
    exact isT_zero HA.out
  · repeat refine isT_set ?_ (fun a ha => by obtain rfl := Option.some.inj ha; dsimp only; omega) _
    exact isT_zero HB.out
  · refine isT_set (isT_set (isT_set (isT_put HC.out cell hin 1) (fun a ha => ?_) _) (fun a ha => ?_) _) (fun a ha => ?_) _
    all_goals (obtain rfl := Option.some.inj ha; dsimp only; omega)

end Go.Proofs.YtfpjhobhmcfpnaaDoor
end
