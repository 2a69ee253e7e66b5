import Derived.Test.YtapldonpflgnfaaGreatDoorLAK
import Derived.Test.YtapldonpflgnfaaGreatDoorLAM
import Derived.Test.YtapldonpflgnfaaGreatDoorLAN
import Derived.Test.YtapldonpflgnfaaGreatDoorLAV
import Derived.Test.YtapldonpflgnfaaGreatDoorLAX
import Derived.Test.YtapldonpflgnfaaGreatDoorLAZ
import Derived.Test.YtapldonpflgnfaaGreatDoorLBA
import Derived.Handy
import Derived.Outline
import Derived.Test.YtapldonpflgnfaaGreatDoorRows
import Derived.KernelRfl
import Derived.Laws.StructEq
namespace Go.Proofs.YtapldonpflgnfaaGreatDoor
set_option linter.unusedVariables false
set_option linter.unusedSimpArgs false
section
open Go.RowKit Go.Shelf
theorem isT_sub1 {α : Type} {n : Nat} {enc : α → List Value} {w : World} {A : Option Addr} {len : Nat} {zs : List α} (h : IsT n enc w A len zs) {k : Nat} {x : α} (hx : zs[k]? = some x) :
  ∃ b o : Nat, A = some ⟨b, o, none⟩ ∧ b < w.heap.size ∧ IsT n enc w (some ⟨b, o + k * n, none⟩) 1 [x] := by
 have hk : k < len := by rw [← h.1]; exact (List.getElem?_eq_some_iff.1 hx).1
 obtain ⟨b, o, e, h1, h2⟩ := h.2 (by omega)
 refine ⟨b, o, e, h1, rfl, fun _ => ⟨b, o + k * n, rfl, h1, fun j y hy i v hv => ?_⟩⟩
 have hj : j = 0 := by
  have := (List.getElem?_eq_some_iff.1 hy).1
  simp at this; omega
 subst hj
 obtain rfl : x = y := by simpa using hy
 have := h2 k x hx i v hv
 rw [show o + k * n + 0 * n + i = o + k * n + i by omega]
 exact this
def aloneM (M : MachD) (x : SensorD) (X Y : Int) : MachD := ⟨M.name, [], [], M.limits.take 1, ⟨X, Y, 1, 1, 1⟩, [x]⟩
def oneC4 : CurD := ⟨[], [], [1]⟩
theorem isC_one {W : World} {pb : Nat} (h : W.cell? ⟨pb, 0, none⟩ = some (.int .i64 1)) (hp : pb < W.heap.size) : IsC W ⟨none, none, some ⟨pb, 0, none⟩, 0, 0, 0, 0, 1, 1⟩ oneC4 := by
 refine ⟨IsT.nil _ _ _ _, IsT.nil _ _ _ _, ⟨rfl, fun _ => ⟨pb, 0, rfl, hp, fun j x hx i v hv => ?_⟩⟩, by dsimp only; omega, by dsimp only; omega, by dsimp only; omega, by dsimp only; omega, by dsimp only; omega, by dsimp only; omega, by dsimp only; omega, by dsimp only; omega, by dsimp only; omega⟩
 have hj : j = 0 := by
  have := (List.getElem?_eq_some_iff.1 hx).1
  simp [oneC4] at this; omega
 subst hj
 have hi : i = 0 := by
  have := (List.getElem?_eq_some_iff.1 hv).1
  simp [intCells] at this; omega
 subst hi
 obtain rfl : x = 1 := by simpa [oneC4] using hx.symm
 have hv' : v = .int .i64 1 := by simpa [intCells] using hv.symm
 subst hv'
 exact h
set_option maxRecDepth 100000 in
set_option maxHeartbeats 8000000 in
theorem respAt_any (R : MachR) (M : MachD) (k : Nat) (x : SensorD) (X Y : Int) (w : World) (hM : IsM w R M) (hx : M.sensors[k]? = some x) (hl : 1 ≤ R.lc) :
  Calls Tryz.prog 65 #[.agg (machCells R M), .int .i64 k, .agg #[.int .i64 X, .int .i64 Y]] w (Ret (.int .i64 (exactL (aloneM M x X Y) oneC4 0).1) w) := by
 obtain ⟨b, o, hD, hb0, hsub⟩ := isT_sub1 hM.sensors hx
 have hk : k < R.ld := by have := hM.sensors.1; have := (List.getElem?_eq_some_iff.1 hx).1; omega
 have hld := hM.ld
 have hlc := hM.lc
 have hcc := hM.cc
 have hcd := hM.cd
 have hkd := hM.kd
 have hM' : IsM w ⟨none, none, R.C, some ⟨b, o + k * 5, none⟩, 0, 0, 0, 0, 1, R.cc, 1, R.cd - k⟩ (aloneM M x X Y) :=
  ⟨IsT.nil _ _ _ _, IsT.nil _ _ _ _, hM.limits.take hl, hsub, by dsimp only; omega, by dsimp only; omega, by dsimp only; omega, by dsimp only; omega, by dsimp only; omega, by dsimp only; omega, by dsimp only; omega, by dsimp only; omega, by dsimp only; omega, by dsimp only; omega, by dsimp only; omega, by dsimp only; omega⟩
 have HX0 := Lib.hid (fun (pb : Nat) W (hb : Below w.heap.size w W) (hc : IsC W ⟨none, none, some ⟨pb, 0, none⟩, 0, 0, 0, 0, 1, 1⟩ oneC4) => exact9_any _ (aloneM M x X Y) _ oneC4 0 W (hM'.below hb) hc (by omega) (by omega))
 generalize exactL (aloneM M x X Y) oneC4 0 = G at *
 obtain ⟨G1, G2⟩ := G
 clear hM hM' hsub hx
 unfold aloneM at HX0
 obtain ⟨A, B, Cl, D, la, ca, lb, cb, lc, cl, ld, cd⟩ := R
 obtain ⟨name, coils, shells, limits, ⟨r, z, nr, nz, step⟩, sensors⟩ := M
 dsimp only at *
 subst hD
 have HX := Lib.hid (show ∀ (pb : Nat) W, Below w.heap.size w W → IsC W ⟨none, none, some ⟨pb, 0, none⟩, 0, 0, 0, 0, 1, 1⟩ oneC4 → Calls Tryz.prog 58 #[.agg #[.string name, .slice none 0 0, .slice none 0 0, .slice Cl 1 cl, .int .i64 X, .int .i64 Y, .int .i64 1, .int .i64 1, .int .i64 1, .slice (some ⟨b, o + k * 5, none⟩) 1 (cd - k)], .agg #[.slice none 0 0, .slice none 0 0, .slice (some ⟨pb, 0, none⟩) 1 1], .int .i64 0] W (Ret (.tuple #[.int .i64 G1, .int .i64 G2]) W) from HX0.out)
 clear HX0
 show Calls Tryz.prog 65 #[.agg #[.string name, .slice A la ca, .slice B lb cb, .slice Cl lc cl, .int .i64 r, .int .i64 z, .int .i64 nr, .int .i64 nz, .int .i64 step, .slice (some ⟨b, o, none⟩) ld cd], .int .i64 k, .agg #[.int .i64 X, .int .i64 Y]] w _
 have k0 : (0 : Int) ≤ k := by omega
 have w1 : IntKind.i64.wrap ((k : Int) + 1) = (k : Int) + 1 := IntWalk.i64_in _ (by omega)
 have n1 : ((k : Int)).toNat = k := by omega
 have n2 : ((k : Int) + 1).toNat = k + 1 := by omega
 have n3 : k + 1 - k = 1 := by omega
 have n4 : ¬ k = cd := by omega
 have i0 : (0 : Int) ≤ (cl : Int) := by omega
 have i1 : (1 : Int) ≤ (cl : Int) := by omega
 have i2 : (k : Int) + 1 ≤ (cd : Int) := by omega
 have i3 : (k : Int) ≤ (k : Int) + 1 := by omega
 have i4 : (k : Int) ≤ (cd : Int) := by omega
 have i5 : (0 : Int) ≤ (k : Int) + 1 := by omega
 have i6 : k < cd := by omega
 have i7 : 1 ≤ cl := by omega
 go_enter Tryz.func65, Tryz.ntmps65
 go_upto_region 1 with (fail)
 have m0 : ((w.alloc (.cells #[.string name, .slice A la ca, .slice B lb cb, .slice Cl lc cl, .int .i64 r, .int .i64 z, .int .i64 nr, .int .i64 nz, .int .i64 step, .slice (some ⟨b, o, none⟩) ld cd] 29)).alloc (.cells #[.int .i64 X, .int .i64 Y] 79)).cell? ⟨w.heap.size, 0, none⟩ = some (.string name) := by go_simp
 have m1 : ((w.alloc (.cells #[.string name, .slice A la ca, .slice B lb cb, .slice Cl lc cl, .int .i64 r, .int .i64 z, .int .i64 nr, .int .i64 nz, .int .i64 step, .slice (some ⟨b, o, none⟩) ld cd] 29)).alloc (.cells #[.int .i64 X, .int .i64 Y] 79)).cell? ⟨w.heap.size, 1, none⟩ = some (.slice A la ca) := by go_simp
 have m2 : ((w.alloc (.cells #[.string name, .slice A la ca, .slice B lb cb, .slice Cl lc cl, .int .i64 r, .int .i64 z, .int .i64 nr, .int .i64 nz, .int .i64 step, .slice (some ⟨b, o, none⟩) ld cd] 29)).alloc (.cells #[.int .i64 X, .int .i64 Y] 79)).cell? ⟨w.heap.size, 2, none⟩ = some (.slice B lb cb) := by go_simp
 have m3 : ((w.alloc (.cells #[.string name, .slice A la ca, .slice B lb cb, .slice Cl lc cl, .int .i64 r, .int .i64 z, .int .i64 nr, .int .i64 nz, .int .i64 step, .slice (some ⟨b, o, none⟩) ld cd] 29)).alloc (.cells #[.int .i64 X, .int .i64 Y] 79)).cell? ⟨w.heap.size, 3, none⟩ = some (.slice Cl lc cl) := by go_simp
 have m4 : ((w.alloc (.cells #[.string name, .slice A la ca, .slice B lb cb, .slice Cl lc cl, .int .i64 r, .int .i64 z, .int .i64 nr, .int .i64 nz, .int .i64 step, .slice (some ⟨b, o, none⟩) ld cd] 29)).alloc (.cells #[.int .i64 X, .int .i64 Y] 79)).cell? ⟨w.heap.size, 4, none⟩ = some (.int .i64 r) := by go_simp
 have m5 : ((w.alloc (.cells #[.string name, .slice A la ca, .slice B lb cb, .slice Cl lc cl, .int .i64 r, .int .i64 z, .int .i64 nr, .int .i64 nz, .int .i64 step, .slice (some ⟨b, o, none⟩) ld cd] 29)).alloc (.cells #[.int .i64 X, .int .i64 Y] 79)).cell? ⟨w.heap.size, 5, none⟩ = some (.int .i64 z) := by go_simp
 have m6 : ((w.alloc (.cells #[.string name, .slice A la ca, .slice B lb cb, .slice Cl lc cl, .int .i64 r, .int .i64 z, .int .i64 nr, .int .i64 nz, .int .i64 step, .slice (some ⟨b, o, none⟩) ld cd] 29)).alloc (.cells #[.int .i64 X, .int .i64 Y] 79)).cell? ⟨w.heap.size, 6, none⟩ = some (.int .i64 nr) := by go_simp
 have m7 : ((w.alloc (.cells #[.string name, .slice A la ca, .slice B lb cb, .slice Cl lc cl, .int .i64 r, .int .i64 z, .int .i64 nr, .int .i64 nz, .int .i64 step, .slice (some ⟨b, o, none⟩) ld cd] 29)).alloc (.cells #[.int .i64 X, .int .i64 Y] 79)).cell? ⟨w.heap.size, 7, none⟩ = some (.int .i64 nz) := by go_simp
 have m8 : ((w.alloc (.cells #[.string name, .slice A la ca, .slice B lb cb, .slice Cl lc cl, .int .i64 r, .int .i64 z, .int .i64 nr, .int .i64 nz, .int .i64 step, .slice (some ⟨b, o, none⟩) ld cd] 29)).alloc (.cells #[.int .i64 X, .int .i64 Y] 79)).cell? ⟨w.heap.size, 8, none⟩ = some (.int .i64 step) := by go_simp
 have m9 : ((w.alloc (.cells #[.string name, .slice A la ca, .slice B lb cb, .slice Cl lc cl, .int .i64 r, .int .i64 z, .int .i64 nr, .int .i64 nz, .int .i64 step, .slice (some ⟨b, o, none⟩) ld cd] 29)).alloc (.cells #[.int .i64 X, .int .i64 Y] 79)).cell? ⟨w.heap.size, 9, none⟩ = some (.slice (some ⟨b, o, none⟩) ld cd) := by go_simp
 have p0 : ((w.alloc (.cells #[.string name, .slice A la ca, .slice B lb cb, .slice Cl lc cl, .int .i64 r, .int .i64 z, .int .i64 nr, .int .i64 nz, .int .i64 step, .slice (some ⟨b, o, none⟩) ld cd] 29)).alloc (.cells #[.int .i64 X, .int .i64 Y] 79)).cell? ⟨w.heap.size + 1, 0, none⟩ = some (.int .i64 X) := by go_simp
 have p1 : ((w.alloc (.cells #[.string name, .slice A la ca, .slice B lb cb, .slice Cl lc cl, .int .i64 r, .int .i64 z, .int .i64 nr, .int .i64 nz, .int .i64 step, .slice (some ⟨b, o, none⟩) ld cd] 29)).alloc (.cells #[.int .i64 X, .int .i64 Y] 79)).cell? ⟨w.heap.size + 1, 1, none⟩ = some (.int .i64 Y) := by go_simp
 have hB : Below w.heap.size w ((w.alloc (.cells #[.string name, .slice A la ca, .slice B lb cb, .slice Cl lc cl, .int .i64 r, .int .i64 z, .int .i64 nr, .int .i64 nz, .int .i64 step, .slice (some ⟨b, o, none⟩) ld cd] 29)).alloc (.cells #[.int .i64 X, .int .i64 Y] 79)) := by (repeat first | with_reducible exact Below.refl _ _ | (with_reducible refine Below.alloc ?_ ?_ _; rotate_left; exact (by first | omega | (simp; done))))
 have hz : w.heap.size + 1 < ((w.alloc (.cells #[.string name, .slice A la ca, .slice B lb cb, .slice Cl lc cl, .int .i64 r, .int .i64 z, .int .i64 nr, .int .i64 nz, .int .i64 step, .slice (some ⟨b, o, none⟩) ld cd] 29)).alloc (.cells #[.int .i64 X, .int .i64 Y] 79)).heap.size := by simp
 obtain ⟨W0, hW0⟩ : ∃ W, (w.alloc (.cells #[.string name, .slice A la ca, .slice B lb cb, .slice Cl lc cl, .int .i64 r, .int .i64 z, .int .i64 nr, .int .i64 nz, .int .i64 step, .slice (some ⟨b, o, none⟩) ld cd] 29)).alloc (.cells #[.int .i64 X, .int .i64 Y] 79) = W := ⟨_, rfl⟩
 rw [hW0] at m0 m1 m2 m3 m4 m5 m6 m7 m8 m9 p0 p1 hB hz ⊢
 clear hW0
 go_cut [7] (fun s7 wx => ∃ y : Nat, s7 = .pointer (some ⟨y, 0, none⟩) ∧ wx.cell? ⟨y, 0, none⟩ = some (.string name) ∧ wx.cell? ⟨y, 1, none⟩ = some (.slice none 0 0) ∧ wx.cell? ⟨y, 2, none⟩ = some (.slice none 0 0) ∧ wx.cell? ⟨y, 3, none⟩ = some (.slice Cl 1 cl) ∧ wx.cell? ⟨y, 4, none⟩ = some (.int .i64 X) ∧ wx.cell? ⟨y, 5, none⟩ = some (.int .i64 Y) ∧ wx.cell? ⟨y, 6, none⟩ = some (.int .i64 1) ∧ wx.cell? ⟨y, 7, none⟩ = some (.int .i64 1) ∧ wx.cell? ⟨y, 8, none⟩ = some (.int .i64 1) ∧ wx.cell? ⟨y, 9, none⟩ = some (.slice (some ⟨b, o + k * 5, none⟩) 1 (cd - k)) ∧ y < wx.heap.size ∧ W0.heap.size ≤ y ∧ Below W0.heap.size W0 wx)
 case first =>
  have HS : Hid (∀ w' : World, Reg (W0.heap.size) (W0) w' → (Reg (W0.heap.size) (W0) w' ∧ w'.cell? ⟨w.heap.size, 0, none⟩ = some (.string name) ∧ w'.cell? ⟨w.heap.size, 1, none⟩ = some (.slice A la ca) ∧ w'.cell? ⟨w.heap.size, 2, none⟩ = some (.slice B lb cb) ∧ w'.cell? ⟨w.heap.size, 3, none⟩ = some (.slice Cl lc cl) ∧ w'.cell? ⟨w.heap.size, 4, none⟩ = some (.int .i64 r) ∧ w'.cell? ⟨w.heap.size, 5, none⟩ = some (.int .i64 z) ∧ w'.cell? ⟨w.heap.size, 6, none⟩ = some (.int .i64 nr) ∧ w'.cell? ⟨w.heap.size, 7, none⟩ = some (.int .i64 nz) ∧ w'.cell? ⟨w.heap.size, 8, none⟩ = some (.int .i64 step) ∧ w'.cell? ⟨w.heap.size, 9, none⟩ = some (.slice (some ⟨b, o, none⟩) ld cd) ∧ w'.cell? ⟨w.heap.size + 1, 0, none⟩ = some (.int .i64 X) ∧ w'.cell? ⟨w.heap.size + 1, 1, none⟩ = some (.int .i64 Y))) := (fun w' h => by (have hc := h.cells; have hs := h.some; have hf := h.frozen; refine ⟨h, ?_⟩; (try simp only [World.size_alloc, World.size_setCell, size_drew, size_drewN] at hc hs hf); first | (simp (disch := omega) only [hc, hs, hf, cur_iff]; (try go_simp); done) | (simp (disch := first | omega | (simp; done)) only [hc, hs, hf, cur_iff]; (try go_simp); done) | (simp (maxDischargeDepth := 4) [hc, hs, hf, cur_iff, go_sem]; done) | (go_simp; done) | (simp (maxDischargeDepth := 4) [hc, hs, hf, cur_iff, go_sem]; go_simp))); go_region_held3 (fun w' => Reg (W0.heap.size) (W0) w' ∧ w'.cell? ⟨w.heap.size, 0, none⟩ = some (.string name) ∧ w'.cell? ⟨w.heap.size, 1, none⟩ = some (.slice A la ca) ∧ w'.cell? ⟨w.heap.size, 2, none⟩ = some (.slice B lb cb) ∧ w'.cell? ⟨w.heap.size, 3, none⟩ = some (.slice Cl lc cl) ∧ w'.cell? ⟨w.heap.size, 4, none⟩ = some (.int .i64 r) ∧ w'.cell? ⟨w.heap.size, 5, none⟩ = some (.int .i64 z) ∧ w'.cell? ⟨w.heap.size, 6, none⟩ = some (.int .i64 nr) ∧ w'.cell? ⟨w.heap.size, 7, none⟩ = some (.int .i64 nz) ∧ w'.cell? ⟨w.heap.size, 8, none⟩ = some (.int .i64 step) ∧ w'.cell? ⟨w.heap.size, 9, none⟩ = some (.slice (some ⟨b, o, none⟩) ld cd) ∧ w'.cell? ⟨w.heap.size + 1, 0, none⟩ = some (.int .i64 X) ∧ w'.cell? ⟨w.heap.size + 1, 1, none⟩ = some (.int .i64 Y)) (exact HS.out _ (by (repeat first | with_reducible exact Reg.refl _ _ | with_reducible refine Reg.alloc ?_ _ | with_reducible refine Reg.drew ?_))) (first | fail)
  all_goals go_wp2_with fail
  all_goals go_meet
  all_goals exact ⟨_, rfl, by go_simp, by go_simp, by go_simp, by go_simp, by go_simp, by go_simp, by go_simp, by go_simp, by go_simp, by go_simp, (by ((try simp only [World.size_alloc, World.size_setCell, size_drew, size_drewN]); omega)), (by omega), by (repeat first | with_reducible exact Below.refl _ _ | (with_reducible refine Below.alloc ?_ ?_ _; rotate_left; exact (by omega)) | with_reducible refine Below.drew ?_)⟩
 case rest =>
  obtain ⟨y, rfl, a0, a1, a2, a3, a4, a5, a6, a7, a8, a9, hy, ly, hb⟩ := hcut
  have hBc := hB.trans (hb.mono hB.size)
  have hsz := hBc.size
  clear hb ly hz hB m0 m1 m2 m3 m4 m5 m6 m7 m8 m9 p0 p1
  go_wp2_with fail
  refine (HX.out _ _ (by (repeat first | with_reducible assumption | (with_reducible refine Below.alloc ?_ ?_ _; rotate_left; exact (by omega)))) (isC_one (by go_simp) (by simp))).mono ?_
  rintro e w3 ⟨rfl, hb⟩
  have hB3 : Below w.heap.size w w3 := Below.trans (by (repeat first | with_reducible assumption | (with_reducible refine Below.alloc ?_ ?_ _; rotate_left; exact (by omega)))) (hb.mono (by ((try simp only [World.size_alloc, World.size_setCell, size_drew, size_drewN]); omega)))
  clear hb a0 a1 a2 a3 a4 a5 a6 a7 a8 a9
  go_wp2_with fail
  go_ret
  exact ⟨rfl, by (repeat with_reducible assumption)⟩
end
section
open Go.RowKit
theorem cel_bl_apiPoint_ : ∀ w, (Instr.build 79 #[]).run Tryz.prog w = .ok (.agg #[(.int .i64 0), (.int .i64 0)]) w := by
 intro w; simp [Instr.build, Instr.fill, cells_agg, Tryz.runUnderlying79, Tryz.zeroValue79, Tryz.sizeOf3]
set_option maxRecDepth 100000 in
theorem mcell9_any (R : MachR) (M : MachD) (i : Int) (w : World) (hM : IsM w R M) : Calls Tryz.prog 64 #[(.agg (machCells R M)), (.int .i64 i)] w (Ret (.tuple #[.agg #[.int .i64 (cellL M i).1, .int .i64 (cellL M i).2.1], .int .i64 (cellL M i).2.2]) w) := by
 refine calls_ax (vs := [(.agg (machCells R M)), (.int .i64 i)]) Tryz.func64 rfl rfl ?_
 refine ac_seq (ac_region ?_)
 refine al_new (fun b => .pointer (some ⟨b, 0, none⟩)) (r_box rfl rfl) rfl rfl rfl ?_
 intro b1
 refine al_new (fun b => .pointer (some ⟨b, 0, none⟩)) (r_alloc Tryz.zeroValue79 rfl) rfl rfl rfl ?_
 intro b2
 refine al_p (q_assign rfl) (al_end (aq_then ?_))
 refine ac_seq (ac_seq (ac_region ?_))
 refine al_p (q_loadAll (i := 1) rfl rfl Tryz.isAgg29 Tryz.sizeOf29 rfl) (al_call Tryz.call84 (.cons rfl .nil) rfl rfl (fun w1 hs1 => ?_))
 refine (check_any R M _ (hM.below hs1.below)).mono ?_
 rintro e u1 ⟨rfl, hb_1⟩
 refine ⟨_, rfl, hb_1, ?_⟩
 clear hs1
 refine al_p (q_neq rfl rfl) (al_end (aq_then ?_))
 refine ac_cond rfl (fun h1 => ?_) (fun h1 => ?_)
 ·have hc : checkC M ≠ 0 := by simpa using h1
  refine ac_seq (ac_region ?_)
  refine al_p (q_build .nil (cel_bl_apiPoint_)) (al_storeAll (i := 0) rfl rfl rfl rfl Tryz.sizeOf79 rfl rfl .k0 rfl (al_p (q_assign rfl) (al_end (aq_then ?_))))
  refine ac_ret (aq_thenR (retR Tryz.results64 (.agg (i := 0) rfl rfl Tryz.isAgg79 Tryz.sizeOf79 rfl (.tmp rfl .nil)) .two (fun w9 hs => ?_)))
  unfold cellL; rw [if_neg hc]; exact ⟨rfl, hs.below⟩
 ·have hc : checkC M = 0 := by simpa using h1
  have hf := check_fine hc
  have hfc := fine_cells hf
  refine ac_skip (aq_then (ac_seq (ac_seq (ac_region ?_))))
  refine al_p (q_move rfl) ?_
  refine al_p (q_fieldAddr 4 rfl Tryz.runUnderlying29 rfl Tryz.sizeOf26 (by decide) rfl) (al_p (q_loadSub (i := 1) rfl rfl Tryz.isAgg26 Tryz.sizeOf26 .k4 .k5) (al_call Tryz.call96 (.cons rfl .nil) rfl rfl (fun w2 hs2 => ?_)))
  refine (cells_any M.grid _ (by omega) (by omega)).mono ?_
  rintro e u2 ⟨rfl, hb_2⟩
  refine ⟨_, rfl, hb_2, ?_⟩
  clear hs2
  refine al_p (q_sub rfl rfl (by omega)) (al_call Tryz.call101 (.cons rfl (.cons rfl (.cons rfl .nil))) rfl rfl (fun w3 hs3 => ?_))
  refine (mwithin_any i 0 (M.grid.nr * M.grid.nz - 1) _).mono ?_
  rintro e u3 ⟨rfl, rfl⟩
  refine ⟨_, rfl, (Below.refl _ _), ?_⟩
  clear hs3
  refine al_p (q_not rfl) (al_end (aq_then ?_))
  refine ac_cond rfl (fun h2 => ?_) (fun h2 => ?_)
  ·have hi : wthn i 0 (M.grid.nr * M.grid.nz - 1) = false := by simpa using h2
   refine ac_seq (ac_region ?_)
   refine al_p (q_build .nil (cel_bl_apiPoint_)) (al_storeAll (i := 0) rfl rfl rfl rfl Tryz.sizeOf79 rfl rfl .k0 rfl (al_p (q_assign rfl) (al_end (aq_then ?_))))
   refine ac_ret (aq_thenR (retR Tryz.results64 (.agg (i := 0) rfl rfl Tryz.isAgg79 Tryz.sizeOf79 rfl (.tmp rfl .nil)) .two (fun w9 hs => ?_)))
   unfold cellL; rw [if_pos hc, if_neg (by rw [hi]; decide)]; exact ⟨rfl, hs.below⟩
  ·have hi : wthn i 0 (M.grid.nr * M.grid.nz - 1) = true := by simpa using h2
   have hi2 := wthn_iff.1 hi
   refine ac_skip (aq_then (ac_seq (ac_region ?_)))
   refine al_p (q_fieldAddr 4 rfl Tryz.runUnderlying29 rfl Tryz.sizeOf26 (by decide) rfl) (al_p (q_loadSub (i := 1) rfl rfl Tryz.isAgg26 Tryz.sizeOf26 .k4 .k5) (al_p (q_move rfl) (al_call Tryz.call108 (.cons rfl (.cons rfl .nil)) rfl rfl (fun w4 hs4 => ?_))))
   refine (cellPlace_any M.grid i _ hf (by omega) (by omega)).mono ?_
   rintro e u4 ⟨rfl, hb_4⟩
   refine ⟨_, rfl, hb_4, ?_⟩
   clear hs4
   refine al_storeAll (i := 0) rfl rfl rfl rfl Tryz.sizeOf79 rfl rfl .k0 rfl (al_p (q_assign rfl) (al_end (aq_then ?_)))
   refine ac_ret (retR Tryz.results64 (.agg (i := 0) rfl rfl Tryz.isAgg79 Tryz.sizeOf79 rfl (.tmp rfl .nil)) .two (fun w9 hs => ?_))
   unfold cellL; rw [if_pos hc, if_pos hi]; exact ⟨rfl, hs.below⟩
set_option maxRecDepth 100000 in
theorem rcell9_any (R : MachR) (M : MachD) (i : Int) (w : World) (hM : IsM w R M) : Calls Tryz.prog 86 #[(.agg (machCells R M)), (.int .i64 i)] w (Ret (.tuple #[.agg #[.int .i64 (cellL M i).1, .int .i64 (cellL M i).2.1], .int .i64 (cellL M i).2.2]) w) := by
 refine calls_ax (vs := [(.agg (machCells R M)), (.int .i64 i)]) Tryz.func86 rfl rfl ?_
 refine ac_seq (ac_region ?_)
 refine al_new (fun b => .pointer (some ⟨b, 0, none⟩)) (r_box rfl rfl) rfl rfl rfl ?_
 intro b1
 refine al_new (fun b => .pointer (some ⟨b, 0, none⟩)) (r_alloc Tryz.zeroValue79 rfl) rfl rfl rfl ?_
 intro b2
 refine al_p (q_assign rfl) (al_end (aq_then ?_))
 refine ac_seq (ac_block (ac_seq (ac_region ?_)))
 refine al_p (q_loadAll (i := 1) rfl rfl Tryz.isAgg29 Tryz.sizeOf29 rfl) (al_call Tryz.call73 (.cons rfl .nil) rfl rfl (fun w1 hs1 => ?_))
 refine (rcheck_any R M _ (hM.below hs1.below)).mono ?_
 rintro e u1 ⟨rfl, hb_1⟩
 refine ⟨_, rfl, hb_1, ?_⟩
 clear hs1
 refine al_p (q_neq rfl rfl) (al_p (q_assign rfl) (al_end (aq_then ?_)))
 refine ac_cond rfl (fun h1 => ?_) (fun h1 => ?_)
 ·have hc : checkC M ≠ 0 := by simpa using h1
  refine ac_seq (ac_region ?_)
  refine al_p (q_build .nil (cel_bl_apiPoint_)) (al_storeAll (i := 0) rfl rfl rfl rfl Tryz.sizeOf79 rfl rfl .k0 rfl (al_p (q_assign rfl) (al_end (aq_then ?_))))
  refine ac_ret (aq_inR (aq_thenR (retR Tryz.results86 (.agg (i := 0) rfl rfl Tryz.isAgg79 Tryz.sizeOf79 rfl (.tmp rfl .nil)) .two (fun w9 hs => ?_))))
  unfold cellL; rw [if_neg hc]; exact ⟨rfl, hs.below⟩
 ·have hc : checkC M = 0 := by simpa using h1
  have hf := check_fine hc
  have hfc := fine_cells hf
  refine ac_seq (ac_region ?_)
  refine al_p (q_move rfl) (al_p (q_loadAll (i := 1) rfl rfl Tryz.isAgg29 Tryz.sizeOf29 rfl) (al_call Tryz.call34 (.cons rfl .nil) rfl rfl (fun w2 hs2 => ?_)))
  have hcn : cellsN M = M.grid.nr * M.grid.nz := if_pos hc
  refine (hcn ▸ rcellsN_any R M _ (hM.below hs2.below)).mono ?_
  rintro e u2 ⟨rfl, hb_2⟩
  refine ⟨_, rfl, hb_2, ?_⟩
  clear hs2
  refine al_p (q_sub rfl rfl (by omega)) (al_call Tryz.call94 (.cons rfl (.cons rfl (.cons rfl .nil))) rfl rfl (fun w3 hs3 => ?_))
  refine (rwithin2_any i 0 (M.grid.nr * M.grid.nz - 1) _).mono ?_
  rintro e u3 ⟨rfl, rfl⟩
  refine ⟨_, rfl, (Below.refl _ _), ?_⟩
  clear hs3
  refine al_p (q_not rfl) (al_p (q_assign rfl) (al_end (aq_then ?_)))
  refine ac_cond rfl (fun h2 => ?_) (fun h2 => ?_)
  ·have hi : wthn i 0 (M.grid.nr * M.grid.nz - 1) = false := by simpa using h2
   refine ac_seq (ac_region ?_)
   refine al_p (q_build .nil (cel_bl_apiPoint_)) (al_storeAll (i := 0) rfl rfl rfl rfl Tryz.sizeOf79 rfl rfl .k0 rfl (al_p (q_assign rfl) (al_end (aq_then ?_))))
   refine ac_ret (aq_inR (aq_thenR (retR Tryz.results86 (.agg (i := 0) rfl rfl Tryz.isAgg79 Tryz.sizeOf79 rfl (.tmp rfl .nil)) .two (fun w9 hs => ?_))))
   unfold cellL; rw [if_pos hc, if_neg (by rw [hi]; decide)]; exact ⟨rfl, hs.below⟩
  ·have hi : wthn i 0 (M.grid.nr * M.grid.nz - 1) = true := by simpa using h2
   have hi2 := wthn_iff.1 hi
   refine ac_skip (aq_inN (aq_then (ac_seq (ac_region ?_))))
   refine al_p (q_loadAll (i := 1) rfl rfl Tryz.isAgg29 Tryz.sizeOf29 rfl) (al_p (q_move rfl) (al_call Tryz.call134 (.cons rfl (.cons rfl .nil)) rfl rfl (fun w4 hs4 => ?_)))
   refine (rat_any M.name R.A R.B R.C R.D R.la R.ca R.lb R.cb R.lc R.cc R.ld R.cd M.grid.r M.grid.z M.grid.nr M.grid.nz M.grid.step (i) _ hf (by omega) (by omega)).mono ?_
   rintro e u4 ⟨rfl, hb_4⟩
   refine ⟨_, rfl, hb_4, ?_⟩
   clear hs4
   refine al_storeAll (i := 0) rfl rfl rfl rfl Tryz.sizeOf79 rfl rfl .k0 rfl (al_p (q_assign rfl) (al_end (aq_then ?_)))
   refine ac_ret (retR Tryz.results86 (.agg (i := 0) rfl rfl Tryz.isAgg79 Tryz.sizeOf79 rfl (.tmp rfl .nil)) .two (fun w9 hs => ?_))
   unfold cellL; rw [if_pos hc, if_pos hi]; exact ⟨rfl, hs.below⟩
end
section
open Go.RowKit Go.Shelf
def respL (M : MachD) (s cell : Int) : Int × Int :=
 if (cellL M cell).2.2 = 0 then if wthn s 0 ((M.sensors.length : Int) - 1) = true then match M.sensors[s.toNat]? with
  | some x => ((exactL (aloneM M x (cellL M cell).1 (cellL M cell).2.1) oneC4 0).1, 0)
  | none => (0, 7)
 else (0, 7) else (0, (cellL M cell).2.2)
theorem limits_pos {M : MachD} (h : checkC M = 0) : 0 < M.limits.length := by
 have h4 := (orL_zero (orL_zero (orL_zero (orL_zero h).2).2).2).1
 unfold limitsC at h4
 by_cases h0 : M.limits.length = 0
 ·rw [if_pos h0] at h4; simp at h4
 ·omega
end
section
open Go.RowKit Go.Shelf
theorem tot_zeros4 (n : Nat) (s : Int) (h0 : 0 ≤ s) (h1 : s ≤ 1000000) : tot s (List.replicate n 0) = s := by
 induction n with
 | zero => rfl
 | succ n ih =>
  rw [List.replicate_succ]
  unfold tot
  rw [IntWalk.wrap64_in _ (by omega), show s + 0 = s by omega]
  exact ih
theorem tot_put (c : Int) (c0 : 0 ≤ c) (c1 : c ≤ 1000000) : ∀ (n i : Nat), i < n → tot 0 ((List.replicate n 0).set i c) = c
 | 0, i, h => absurd h (Nat.not_lt_zero i)
 | n + 1, 0, _ => by
  rw [List.replicate_succ, List.set_cons_zero]
  unfold tot
  rw [IntWalk.wrap64_in _ (by omega), show (0 : Int) + c = c by omega]
  exact tot_zeros4 n c c0 c1
 | n + 1, i + 1, h => by
  rw [List.replicate_succ, List.set_cons_succ]
  unfold tot
  rw [IntWalk.wrap64_in _ (by omega), show (0 : Int) + 0 = 0 by omega]
  exact tot_put c c0 c1 n i (by omega)
theorem set_mem {n i : Nat} {c x : Int} (h : x ∈ (List.replicate n (0 : Int)).set i c) : x = c ∨ x = 0 := by
 rcases List.mem_or_eq_of_mem_set h with h | h
 ·exact .inr (List.eq_of_mem_replicate h)
 ·exact .inl h
theorem fila_fit {M : MachD} {C : CurD} {cell cur : Int} (h : Fit2 M C) (hi : inB C cell cur = true) : Fit2 M (filaD C cell cur) := by
 unfold inB at hi
 rw [Bool.and_eq_true] at hi
 have a := wthn_iff.1 hi.1
 have b := wthn_iff.1 hi.2
 exact ⟨h.check, h.coils, h.shells, ⟨by unfold filaD; simpa using h.plasma.1, fun x hx => by
  rcases set_mem hx with rfl | rfl <;> omega⟩, by
  show tot 0 ((List.replicate C.plasma.length 0).set cell.toNat cur) ≤ 1000000
  rw [tot_put cur b.1 b.2 _ _ (by omega)]; exact b.2⟩
theorem dark_fit {M : MachD} {C : CurD} (h : Fit2 M C) : Fit2 M (darkD C) :=
 ⟨h.check, h.coils, h.shells, ⟨by unfold darkD; simpa using h.plasma.1, fun x hx => by
  have := List.eq_of_mem_replicate hx
  omega⟩, by
  show tot 0 (List.replicate C.plasma.length 0) ≤ 1000000
  rw [tot_zeros4 _ 0 (by omega) (by omega)]; omega⟩
theorem fluxP_one (p : Int × Int) (x : Src) : fluxP p [x] = infl p.1 p.2 x.1.1 x.1.2 * x.2 := by simp [fluxP]
theorem cells_zero (p : Int × Int) (g : GridD) (n : Nat) : ∀ k, k ≤ n → fluxP p (cellSrc g (List.replicate n 0) k) = 0
 | 0, _ => rfl
 | k + 1, h => by
  rw [cellSrc_succ, fluxP_append, cells_zero p g n k (by omega), fluxP_one]
  simp [List.getElem?_replicate, show k < n by omega]
theorem cells_put (p : Int × Int) (g : GridD) (n i : Nat) (hi : i < n) (c : Int) : ∀ k, k ≤ n → fluxP p (cellSrc g ((List.replicate n 0).set i c) k) = if i < k then infl p.1 p.2 (cellR g i) (cellZ g i) * c else 0
 | 0, _ => by simp [cellSrc, fluxP]
 | k + 1, h => by
  rw [cellSrc_succ, fluxP_append, cells_put p g n i hi c k (by omega), fluxP_one]
  by_cases e : i = k
  ·subst e
   simp [hi]
  ·rw [List.getElem?_set_ne e, List.getElem?_replicate, if_pos (show k < n by omega)]
   by_cases h1 : i < k
   ·rw [if_pos h1, if_pos (by omega)]; simp
   ·rw [if_neg h1, if_neg (by omega)]; simp
theorem flux_fila (M : MachD) (C : CurD) (cell cur : Int) (h0 : 0 ≤ cell) (h1 : cell ≤ (C.plasma.length : Int) - 1) (p : Int × Int) :
  fluxP p (srcM M (filaD C cell cur)) = fluxP p (srcM M (darkD C)) + infl p.1 p.2 (cellR M.grid cell) (cellZ M.grid cell) * cur := by
 obtain ⟨i, rfl⟩ : ∃ i : Nat, cell = i := ⟨cell.toNat, by omega⟩
 unfold srcM srcL filaD darkD
 dsimp only
 rw [Int.toNat_natCast]
 simp only [fluxP_append, List.length_set, List.length_replicate]
 rw [cells_zero p M.grid _ _ (Nat.le_refl _), cells_put p M.grid _ i (by omega) cur _ (Nat.le_refl _), if_pos (by omega)]
 omega
def sensOne (x : SensorD) (X Y : Int) : Int := sensP [((X, Y), 1)] x
theorem sens_fila (M : MachD) (C : CurD) (cell cur : Int) (h0 : 0 ≤ cell) (h1 : cell ≤ (C.plasma.length : Int) - 1) (x : SensorD) :
  sensP (srcM M (filaD C cell cur)) x = sensP (srcM M (darkD C)) x + sensOne x (cellR M.grid cell) (cellZ M.grid cell) * cur := by
 have H := flux_fila M C cell cur h0 h1
 unfold sensOne sensP fieldP
 simp only [H, fluxP_one, Int.mul_one]
 split
 ·rfl
 ·split
  ·rw [Int.sub_mul]; omega
  ·rw [Int.sub_mul]; omega
theorem sensOne_bd (x : SensorD) (X Y : Int) : -250000 ≤ sensOne x X Y ∧ sensOne x X Y ≤ 250000 := by
 unfold sensOne sensP fieldP
 simp only [fluxP_one, Int.mul_one]
 have a := infl_bd x.r x.z X Y
 have b := infl_bd x.r (x.z - 1) X Y
 have c := infl_bd x.r (x.z + 1) X Y
 have d := infl_bd (x.r + 1) x.z X Y
 have e := infl_bd (x.r - 1) x.z X Y
 split
 ·omega
 ·split <;> omega
theorem sensP_bd {S : List Src} (h : Small S) (x : SensorD) : -50000000000000000 ≤ sensP S x ∧ sensP S x ≤ 50000000000000000 := by
 unfold sensP fieldP
 have a := h.bd (x.r, x.z)
 have b := h.bd (x.r, x.z - 1)
 have c := h.bd (x.r, x.z + 1)
 have d := h.bd (x.r + 1, x.z)
 have e := h.bd (x.r - 1, x.z)
 split
 ·omega
 ·split
  ·dsimp only; omega
  ·dsimp only; omega
theorem cell_near {M : MachD} (h : checkC M = 0) {i : Int} (h0 : 0 ≤ i) (h1 : i ≤ M.grid.nr * M.grid.nz - 1) : nearB (cellR M.grid i) (cellZ M.grid i) 60 = true := by
 have hg := grid_of h
 have hf := fine_grid hg
 have hc := cells_fine hf
 unfold gridC at hg
 obtain ⟨r0, r1, z0, z1, n0, n1, k0, k1, s0, s1⟩ := hf
 split at hg
 ·split at hg
  ·have hl := near_iff.1 (rng_zero hg)
   unfold cellR cellZ at *
   generalize M.grid.r = r at *
   generalize M.grid.z = z at *
   generalize M.grid.nr = a at *
   generalize M.grid.nz = b at *
   generalize M.grid.step = s at *
   have m1 : (a * b - 1) % a = a - 1 := by
    rw [show a * b - 1 = (a - 1) + (b - 1) * a by rw [Int.sub_mul, Int.one_mul, Int.mul_comm b a]; omega, Int.add_mul_emod_self_right]
    exact Int.emod_eq_of_lt (by omega) (by omega)
   have d1 : (a * b - 1) / a = b - 1 := by
    rw [show a * b - 1 = (a - 1) + (b - 1) * a by rw [Int.sub_mul, Int.one_mul, Int.mul_comm b a]; omega, Int.add_mul_ediv_right _ _ (by omega), Int.ediv_eq_zero_of_lt (by omega) (by omega)]
    omega
   rw [m1, d1] at hl
   have a0 := Int.emod_nonneg i (show a ≠ 0 by omega)
   have a1 := Int.emod_lt_of_pos i (show 0 < a by omega)
   have b0 := Int.ediv_nonneg h0 (show 0 ≤ a by omega)
   have b1 : i / a ≤ b - 1 := by
    have : i / a < b := Int.ediv_lt_of_lt_mul (by omega) (by rw [Int.mul_comm b a]; omega)
    omega
   have u0 := Int.mul_nonneg a0 (show 0 ≤ s by omega)
   have u1 := Int.mul_le_mul_of_nonneg_right (show i % a ≤ a - 1 by omega) (show 0 ≤ s by omega)
   have v0 := Int.mul_nonneg b0 (show 0 ≤ s by omega)
   have v1 := Int.mul_le_mul_of_nonneg_right b1 (show 0 ≤ s by omega)
   rw [near_iff]
   omega
  ·simp at hg
 ·simp at hg
theorem eachGo_first {α : Type} {chk : α → List α → Int} {y : α} {r : List α} (h : eachGo chk [] (y :: r) = 0) : chk y [] = 0 := by
 unfold eachGo at h
 by_cases hc : chk y [] = 0
 ·exact hc
 ·rw [if_neg hc] at h; exact absurd h hc
theorem sensor_alone {x : SensorD} {e : List SensorD} (h : sensorC x e = 0) : sensorC x [] = 0 := by
 unfold sensorC at *
 split at h
 ·rename_i hn
  rw [if_pos hn]
  split at h
  ·simp at h
  ·simpa using h
 ·simp at h
theorem alone_check {M : MachD} (h : checkC M = 0) {x : SensorD} (hx : x ∈ M.sensors) {X Y : Int} (hn : nearB X Y 60 = true) : checkC (aloneM M x X Y) = 0 := by
 have g1 := (orL_zero h).1
 have h4 := (orL_zero (orL_zero (orL_zero (orL_zero h).2).2).2).1
 have h6 := (orL_zero (orL_zero (orL_zero (orL_zero (orL_zero (orL_zero h).2).2).2).2).2).1
 obtain ⟨e, he⟩ := (eachC_all h6).2 x hx
 have g6 : eachC sensorC 24 [x] = 0 := by
  unfold eachC
  rw [if_neg (by simp)]
  unfold eachGo
  rw [if_pos (sensor_alone he)]; rfl
 have g4 : limitsC (M.limits.take 1) = 0 := by
  unfold limitsC at *
  cases hm : M.limits with
  | nil => rw [hm] at h4; simp at h4
  | cons y r =>
   rw [hm] at h4
   rw [if_neg (by simp)] at h4
   unfold eachC at h4
   split at h4
   ·simp at h4
   ·have := eachGo_first h4
    rw [if_neg (by simp)]
    unfold eachC
    rw [if_neg (by simp), List.take_succ_cons, List.take_zero]
    unfold eachGo
    rw [if_pos this]; rfl
 have g5 : gridC ⟨X, Y, 1, 1, 1⟩ = 0 := by
  unfold gridC
  rw [if_pos (by simp [wthn]), if_pos hn]
  have : nearB (cellR ⟨X, Y, 1, 1, 1⟩ (1 * 1 - 1)) (cellZ ⟨X, Y, 1, 1, 1⟩ (1 * 1 - 1)) 60 = nearB X Y 60 := by simp [cellR, cellZ]
  dsimp only at this ⊢
  rw [this, hn]; rfl
 unfold checkC aloneM
 dsimp only
 rw [g1, g4, g5, g6]
 rfl
theorem alone_fit4 {M : MachD} (h : checkC M = 0) {x : SensorD} (hx : x ∈ M.sensors) {X Y : Int} (hn : nearB X Y 60 = true) : Fit2 (aloneM M x X Y) oneC4 :=
 ⟨alone_check h hx hn, ⟨rfl, fun y hy => by cases hy⟩, ⟨rfl, fun y hy => by cases hy⟩, ⟨rfl, fun y hy => by
  have : y = 1 := by simpa [oneC4] using hy
  omega⟩, by show tot 0 [1] ≤ 1000000; simp only [tot]; rw [IntWalk.wrap64_in _ (by omega)]; omega⟩
theorem alone_exact {M : MachD} (h : checkC M = 0) {x : SensorD} (hx : x ∈ M.sensors) {X Y : Int} (hn : nearB X Y 60 = true) : (exactL (aloneM M x X Y) oneC4 0).1 = sensOne x X Y := by
 unfold exactL
 rw [fit2_iff.2 (alone_fit4 h hx hn), if_pos rfl, if_pos (by rfl)]
 show sensP (srcM (aloneM M x X Y) oneC4) x = _
 have : srcM (aloneM M x X Y) oneC4 = [((X, Y), 1)] := by
  simp [srcM, srcL, aloneM, oneC4, cellSrc, cellR, cellZ]
 rw [this]; rfl
theorem linear {M : MachD} {C : CurD} {s cell cur : Int} (h1 : filaE M C cell cur = 0) (h2 : (backL M C s).2 = 0) (h3 : (respL M s cell).2 = 0) :
  exactL M (filaD C cell cur) s = ((backL M C s).1 + (respL M s cell).1 * cur, 0) ∧ (-50000000000000000 ≤ (backL M C s).1 ∧ (backL M C s).1 ≤ 50000000000000000) ∧ (-250000 ≤ (respL M s cell).1 ∧ (respL M s cell).1 ≤ 250000) ∧ 0 ≤ cur ∧ cur ≤ 1000000 := by
 have hv : validC M C = true := by
  unfold filaE at h1
  cases hv : validC M C
  ·rw [hv] at h1; simp at h1
  ·rfl
 have hi : inB C cell cur = true := by
  unfold filaE at h1
  rw [hv, if_pos rfl] at h1
  cases hi : inB C cell cur
  ·rw [hi] at h1; simp at h1
  ·rfl
 have hf := fit2_iff.1 hv
 have hd := dark_fit hf
 have hl := fila_fit hf hi
 have hi' := hi
 unfold inB at hi'
 rw [Bool.and_eq_true] at hi'
 have a := wthn_iff.1 hi'.1
 have b := wthn_iff.1 hi'.2
 have hp := hf.plasma.1
 have hcl : cellL M cell = (cellR M.grid cell, cellZ M.grid cell, 0) := by
  unfold cellL
  rw [if_pos hf.check, if_pos (wthn_iff.2 (by omega))]
 have hw : wthn s 0 ((M.sensors.length : Int) - 1) = true := by
  unfold respL at h3
  rw [hcl, if_pos rfl] at h3
  cases hw : wthn s 0 ((M.sensors.length : Int) - 1)
  ·rw [hw] at h3; simp at h3
  ·rfl
 have c := wthn_iff.1 hw
 obtain ⟨x, hx⟩ : ∃ x, M.sensors[s.toNat]? = some x := ⟨_, List.getElem?_eq_getElem (by omega)⟩
 have hm := List.mem_of_getElem? hx
 have e1 : exactL M (filaD C cell cur) s = (sensP (srcM M (filaD C cell cur)) x, 0) := by
  unfold exactL; rw [fit2_iff.2 hl, if_pos rfl, hw, if_pos rfl, hx]
 have e2 : backL M C s = (sensP (srcM M (darkD C)) x, 0) := by
  unfold backL exactL; rw [hv, if_pos rfl, fit2_iff.2 hd, if_pos rfl, hw, if_pos rfl, hx]
 have e3 : respL M s cell = (sensOne x (cellR M.grid cell) (cellZ M.grid cell), 0) := by
  unfold respL
  rw [hcl, if_pos rfl, hw, if_pos rfl, hx]
  dsimp only
  rw [alone_exact hf.check hm (cell_near hf.check (by omega) (by omega))]
 rw [e1, e2, e3]
 dsimp only
 exact ⟨by rw [sens_fila M C cell cur (by omega) (by omega) x], sensP_bd (small_of hd) x, sensOne_bd _ _ _, b.1, b.2⟩
end
section
open Go.RowKit Go.Shelf
def unitD (la lb nc cell : Nat) : CurD := ⟨List.replicate la 0, List.replicate lb 0, (List.replicate nc 0).set cell 1⟩
end
end Go.Proofs.YtapldonpflgnfaaGreatDoor
