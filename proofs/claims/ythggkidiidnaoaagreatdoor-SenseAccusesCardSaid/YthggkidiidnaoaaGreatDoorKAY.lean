import Derived.Test.YthggkidiidnaoaaGreatDoorKAJ
import Derived.Test.YthggkidiidnaoaaGreatDoorKAP
import Derived.Test.YthggkidiidnaoaaGreatDoorKAT
import Derived.Test.YthggkidiidnaoaaGreatDoorKAV
import Derived.Test.YthggkidiidnaoaaGreatDoorKAX
import Derived.Handy
import Derived.Outline
import Derived.Test.YthggkidiidnaoaaGreatDoorRows
import Derived.KernelRfl
import Derived.Laws.StructEq
namespace Go.Proofs.YthggkidiidnaoaaGreatDoor
set_option linter.unusedVariables false
set_option linter.unusedSimpArgs false
section
open Go.RowKit Go.Shelf
theorem isT_sub1 {α : Type} {n : Nat} {enc : α → List Value} {w : World} {A : Option Addr} {len : Nat} {zs : List α} (h : IsT n enc w A len zs) {k : Nat} {x : α} (hx : zs[k]? = some x) :
  ∃ b o : Nat, A = some ⟨b, o, none⟩ ∧ b < w.heap.size ∧ IsT n enc w (some ⟨b, o + k * n, none⟩) 1 [x] := by
 have hk : k < len := by rw [← h.1]; exact (List.getElem?_eq_some_iff.1 hx).1
 obtain ⟨b, o, e, h1, h2⟩ := h.2 (by omega)
 refine ⟨b, o, e, h1, rfl, fun _ => ⟨b, o + k * n, rfl, h1, fun j y hy i v hv => ?_⟩⟩
 have hj : j = 0 := by
  have := (List.getElem?_eq_some_iff.1 hy).1
  simp at this; omega
 subst hj
 obtain rfl : x = y := by simpa using hy
 have := h2 k x hx i v hv
 rw [show o + k * n + 0 * n + i = o + k * n + i by omega]
 exact this
def aloneM (M : MachD) (x : SensorD) (X Y : Int) : MachD := ⟨M.name, [], [], M.limits.take 1, ⟨X, Y, 1, 1, 1⟩, [x]⟩
def oneC4 : CurD := ⟨[], [], [1]⟩
theorem isC_one {W : World} {pb : Nat} (h : W.cell? ⟨pb, 0, none⟩ = some (.int .i64 1)) (hp : pb < W.heap.size) : IsC W ⟨none, none, some ⟨pb, 0, none⟩, 0, 0, 0, 0, 1, 1⟩ oneC4 := by
 refine ⟨IsT.nil _ _ _ _, IsT.nil _ _ _ _, ⟨rfl, fun _ => ⟨pb, 0, rfl, hp, fun j x hx i v hv => ?_⟩⟩, by dsimp only; omega, by dsimp only; omega, by dsimp only; omega, by dsimp only; omega, by dsimp only; omega, by dsimp only; omega, by dsimp only; omega, by dsimp only; omega, by dsimp only; omega⟩
 have hj : j = 0 := by
  have := (List.getElem?_eq_some_iff.1 hx).1
  simp [oneC4] at this; omega
 subst hj
 have hi : i = 0 := by
  have := (List.getElem?_eq_some_iff.1 hv).1
  simp [intCells] at this; omega
 subst hi
 obtain rfl : x = 1 := by simpa [oneC4] using hx.symm
 have hv' : v = .int .i64 1 := by simpa [intCells] using hv.symm
 subst hv'
 exact h
set_option maxRecDepth 100000 in
set_option maxHeartbeats 8000000 in
theorem respAt_any (R : MachR) (M : MachD) (k : Nat) (x : SensorD) (X Y : Int) (w : World) (hM : IsM w R M) (hx : M.sensors[k]? = some x) (hl : 1 ≤ R.lc) :
  Calls Tryz.prog 65 #[.agg (machCells R M), .int .i64 k, .agg #[.int .i64 X, .int .i64 Y]] w (Ret (.int .i64 (exactL (aloneM M x X Y) oneC4 0).1) w) := by
 obtain ⟨b, o, hD, hb0, hsub⟩ := isT_sub1 hM.sensors hx
 have hk : k < R.ld := by have := hM.sensors.1; have := (List.getElem?_eq_some_iff.1 hx).1; omega
 have hld := hM.ld
 have hlc := hM.lc
 have hcc := hM.cc
 have hcd := hM.cd
 have hkd := hM.kd
 have hM' : IsM w ⟨none, none, R.C, some ⟨b, o + k * 5, none⟩, 0, 0, 0, 0, 1, R.cc, 1, R.cd - k⟩ (aloneM M x X Y) :=
  ⟨IsT.nil _ _ _ _, IsT.nil _ _ _ _, hM.limits.take hl, hsub, by dsimp only; omega, by dsimp only; omega, by dsimp only; omega, by dsimp only; omega, by dsimp only; omega, by dsimp only; omega, by dsimp only; omega, by dsimp only; omega, by dsimp only; omega, by dsimp only; omega, by dsimp only; omega, by dsimp only; omega⟩
 have HX0 := Lib.hid (fun (pb : Nat) W (hb : Below w.heap.size w W) (hc : IsC W ⟨none, none, some ⟨pb, 0, none⟩, 0, 0, 0, 0, 1, 1⟩ oneC4) => exact9_any _ (aloneM M x X Y) _ oneC4 0 W (hM'.below hb) hc (by omega) (by omega))
 generalize exactL (aloneM M x X Y) oneC4 0 = G at *
 obtain ⟨G1, G2⟩ := G
 clear hM hM' hsub hx
 unfold aloneM at HX0
 obtain ⟨A, B, Cl, D, la, ca, lb, cb, lc, cl, ld, cd⟩ := R
 obtain ⟨name, coils, shells, limits, ⟨r, z, nr, nz, step⟩, sensors⟩ := M
 dsimp only at *
 subst hD
 have HX := Lib.hid (show ∀ (pb : Nat) W, Below w.heap.size w W → IsC W ⟨none, none, some ⟨pb, 0, none⟩, 0, 0, 0, 0, 1, 1⟩ oneC4 → Calls Tryz.prog 42 #[.agg #[.string name, .slice none 0 0, .slice none 0 0, .slice Cl 1 cl, .int .i64 X, .int .i64 Y, .int .i64 1, .int .i64 1, .int .i64 1, .slice (some ⟨b, o + k * 5, none⟩) 1 (cd - k)], .agg #[.slice none 0 0, .slice none 0 0, .slice (some ⟨pb, 0, none⟩) 1 1], .int .i64 0] W (Ret (.tuple #[.int .i64 G1, .int .i64 G2]) W) from HX0.out)
 clear HX0
 show Calls Tryz.prog 65 #[.agg #[.string name, .slice A la ca, .slice B lb cb, .slice Cl lc cl, .int .i64 r, .int .i64 z, .int .i64 nr, .int .i64 nz, .int .i64 step, .slice (some ⟨b, o, none⟩) ld cd], .int .i64 k, .agg #[.int .i64 X, .int .i64 Y]] w _
 have k0 : (0 : Int) ≤ k := by omega
 have w1 : IntKind.i64.wrap ((k : Int) + 1) = (k : Int) + 1 := IntWalk.i64_in _ (by omega)
 have n1 : ((k : Int)).toNat = k := by omega
 have n2 : ((k : Int) + 1).toNat = k + 1 := by omega
 have n3 : k + 1 - k = 1 := by omega
 have n4 : ¬ k = cd := by omega
 have i0 : (0 : Int) ≤ (cl : Int) := by omega
 have i1 : (1 : Int) ≤ (cl : Int) := by omega
 have i2 : (k : Int) + 1 ≤ (cd : Int) := by omega
 have i3 : (k : Int) ≤ (k : Int) + 1 := by omega
 have i4 : (k : Int) ≤ (cd : Int) := by omega
 have i5 : (0 : Int) ≤ (k : Int) + 1 := by omega
 have i6 : k < cd := by omega
 have i7 : 1 ≤ cl := by omega
 go_enter Tryz.func65, Tryz.ntmps65
 go_upto_region 1 with (fail)
 have m0 : ((w.alloc (.cells #[.string name, .slice A la ca, .slice B lb cb, .slice Cl lc cl, .int .i64 r, .int .i64 z, .int .i64 nr, .int .i64 nz, .int .i64 step, .slice (some ⟨b, o, none⟩) ld cd] 29)).alloc (.cells #[.int .i64 X, .int .i64 Y] 76)).cell? ⟨w.heap.size, 0, none⟩ = some (.string name) := by go_simp
 have m1 : ((w.alloc (.cells #[.string name, .slice A la ca, .slice B lb cb, .slice Cl lc cl, .int .i64 r, .int .i64 z, .int .i64 nr, .int .i64 nz, .int .i64 step, .slice (some ⟨b, o, none⟩) ld cd] 29)).alloc (.cells #[.int .i64 X, .int .i64 Y] 76)).cell? ⟨w.heap.size, 1, none⟩ = some (.slice A la ca) := by go_simp
 have m2 : ((w.alloc (.cells #[.string name, .slice A la ca, .slice B lb cb, .slice Cl lc cl, .int .i64 r, .int .i64 z, .int .i64 nr, .int .i64 nz, .int .i64 step, .slice (some ⟨b, o, none⟩) ld cd] 29)).alloc (.cells #[.int .i64 X, .int .i64 Y] 76)).cell? ⟨w.heap.size, 2, none⟩ = some (.slice B lb cb) := by go_simp
 have m3 : ((w.alloc (.cells #[.string name, .slice A la ca, .slice B lb cb, .slice Cl lc cl, .int .i64 r, .int .i64 z, .int .i64 nr, .int .i64 nz, .int .i64 step, .slice (some ⟨b, o, none⟩) ld cd] 29)).alloc (.cells #[.int .i64 X, .int .i64 Y] 76)).cell? ⟨w.heap.size, 3, none⟩ = some (.slice Cl lc cl) := by go_simp
 have m4 : ((w.alloc (.cells #[.string name, .slice A la ca, .slice B lb cb, .slice Cl lc cl, .int .i64 r, .int .i64 z, .int .i64 nr, .int .i64 nz, .int .i64 step, .slice (some ⟨b, o, none⟩) ld cd] 29)).alloc (.cells #[.int .i64 X, .int .i64 Y] 76)).cell? ⟨w.heap.size, 4, none⟩ = some (.int .i64 r) := by go_simp
 have m5 : ((w.alloc (.cells #[.string name, .slice A la ca, .slice B lb cb, .slice Cl lc cl, .int .i64 r, .int .i64 z, .int .i64 nr, .int .i64 nz, .int .i64 step, .slice (some ⟨b, o, none⟩) ld cd] 29)).alloc (.cells #[.int .i64 X, .int .i64 Y] 76)).cell? ⟨w.heap.size, 5, none⟩ = some (.int .i64 z) := by go_simp
 have m6 : ((w.alloc (.cells #[.string name, .slice A la ca, .slice B lb cb, .slice Cl lc cl, .int .i64 r, .int .i64 z, .int .i64 nr, .int .i64 nz, .int .i64 step, .slice (some ⟨b, o, none⟩) ld cd] 29)).alloc (.cells #[.int .i64 X, .int .i64 Y] 76)).cell? ⟨w.heap.size, 6, none⟩ = some (.int .i64 nr) := by go_simp
 have m7 : ((w.alloc (.cells #[.string name, .slice A la ca, .slice B lb cb, .slice Cl lc cl, .int .i64 r, .int .i64 z, .int .i64 nr, .int .i64 nz, .int .i64 step, .slice (some ⟨b, o, none⟩) ld cd] 29)).alloc (.cells #[.int .i64 X, .int .i64 Y] 76)).cell? ⟨w.heap.size, 7, none⟩ = some (.int .i64 nz) := by go_simp
 have m8 : ((w.alloc (.cells #[.string name, .slice A la ca, .slice B lb cb, .slice Cl lc cl, .int .i64 r, .int .i64 z, .int .i64 nr, .int .i64 nz, .int .i64 step, .slice (some ⟨b, o, none⟩) ld cd] 29)).alloc (.cells #[.int .i64 X, .int .i64 Y] 76)).cell? ⟨w.heap.size, 8, none⟩ = some (.int .i64 step) := by go_simp
 have m9 : ((w.alloc (.cells #[.string name, .slice A la ca, .slice B lb cb, .slice Cl lc cl, .int .i64 r, .int .i64 z, .int .i64 nr, .int .i64 nz, .int .i64 step, .slice (some ⟨b, o, none⟩) ld cd] 29)).alloc (.cells #[.int .i64 X, .int .i64 Y] 76)).cell? ⟨w.heap.size, 9, none⟩ = some (.slice (some ⟨b, o, none⟩) ld cd) := by go_simp
 have p0 : ((w.alloc (.cells #[.string name, .slice A la ca, .slice B lb cb, .slice Cl lc cl, .int .i64 r, .int .i64 z, .int .i64 nr, .int .i64 nz, .int .i64 step, .slice (some ⟨b, o, none⟩) ld cd] 29)).alloc (.cells #[.int .i64 X, .int .i64 Y] 76)).cell? ⟨w.heap.size + 1, 0, none⟩ = some (.int .i64 X) := by go_simp
 have p1 : ((w.alloc (.cells #[.string name, .slice A la ca, .slice B lb cb, .slice Cl lc cl, .int .i64 r, .int .i64 z, .int .i64 nr, .int .i64 nz, .int .i64 step, .slice (some ⟨b, o, none⟩) ld cd] 29)).alloc (.cells #[.int .i64 X, .int .i64 Y] 76)).cell? ⟨w.heap.size + 1, 1, none⟩ = some (.int .i64 Y) := by go_simp
 have hB : Below w.heap.size w ((w.alloc (.cells #[.string name, .slice A la ca, .slice B lb cb, .slice Cl lc cl, .int .i64 r, .int .i64 z, .int .i64 nr, .int .i64 nz, .int .i64 step, .slice (some ⟨b, o, none⟩) ld cd] 29)).alloc (.cells #[.int .i64 X, .int .i64 Y] 76)) := by (repeat first | with_reducible exact Below.refl _ _ | (with_reducible refine Below.alloc ?_ ?_ _; rotate_left; exact (by first | omega | (simp; done))))
 have hz : w.heap.size + 1 < ((w.alloc (.cells #[.string name, .slice A la ca, .slice B lb cb, .slice Cl lc cl, .int .i64 r, .int .i64 z, .int .i64 nr, .int .i64 nz, .int .i64 step, .slice (some ⟨b, o, none⟩) ld cd] 29)).alloc (.cells #[.int .i64 X, .int .i64 Y] 76)).heap.size := by simp
 obtain ⟨W0, hW0⟩ : ∃ W, (w.alloc (.cells #[.string name, .slice A la ca, .slice B lb cb, .slice Cl lc cl, .int .i64 r, .int .i64 z, .int .i64 nr, .int .i64 nz, .int .i64 step, .slice (some ⟨b, o, none⟩) ld cd] 29)).alloc (.cells #[.int .i64 X, .int .i64 Y] 76) = W := ⟨_, rfl⟩
 rw [hW0] at m0 m1 m2 m3 m4 m5 m6 m7 m8 m9 p0 p1 hB hz ⊢
 clear hW0
 go_cut [7] (fun s7 wx => ∃ y : Nat, s7 = .pointer (some ⟨y, 0, none⟩) ∧ wx.cell? ⟨y, 0, none⟩ = some (.string name) ∧ wx.cell? ⟨y, 1, none⟩ = some (.slice none 0 0) ∧ wx.cell? ⟨y, 2, none⟩ = some (.slice none 0 0) ∧ wx.cell? ⟨y, 3, none⟩ = some (.slice Cl 1 cl) ∧ wx.cell? ⟨y, 4, none⟩ = some (.int .i64 X) ∧ wx.cell? ⟨y, 5, none⟩ = some (.int .i64 Y) ∧ wx.cell? ⟨y, 6, none⟩ = some (.int .i64 1) ∧ wx.cell? ⟨y, 7, none⟩ = some (.int .i64 1) ∧ wx.cell? ⟨y, 8, none⟩ = some (.int .i64 1) ∧ wx.cell? ⟨y, 9, none⟩ = some (.slice (some ⟨b, o + k * 5, none⟩) 1 (cd - k)) ∧ y < wx.heap.size ∧ W0.heap.size ≤ y ∧ Below W0.heap.size W0 wx)
 case first =>
  have HS : Hid (∀ w' : World, Reg (W0.heap.size) (W0) w' → (Reg (W0.heap.size) (W0) w' ∧ w'.cell? ⟨w.heap.size, 0, none⟩ = some (.string name) ∧ w'.cell? ⟨w.heap.size, 1, none⟩ = some (.slice A la ca) ∧ w'.cell? ⟨w.heap.size, 2, none⟩ = some (.slice B lb cb) ∧ w'.cell? ⟨w.heap.size, 3, none⟩ = some (.slice Cl lc cl) ∧ w'.cell? ⟨w.heap.size, 4, none⟩ = some (.int .i64 r) ∧ w'.cell? ⟨w.heap.size, 5, none⟩ = some (.int .i64 z) ∧ w'.cell? ⟨w.heap.size, 6, none⟩ = some (.int .i64 nr) ∧ w'.cell? ⟨w.heap.size, 7, none⟩ = some (.int .i64 nz) ∧ w'.cell? ⟨w.heap.size, 8, none⟩ = some (.int .i64 step) ∧ w'.cell? ⟨w.heap.size, 9, none⟩ = some (.slice (some ⟨b, o, none⟩) ld cd) ∧ w'.cell? ⟨w.heap.size + 1, 0, none⟩ = some (.int .i64 X) ∧ w'.cell? ⟨w.heap.size + 1, 1, none⟩ = some (.int .i64 Y))) := (fun w' h => by (have hc := h.cells; have hs := h.some; have hf := h.frozen; refine ⟨h, ?_⟩; (try simp only [World.size_alloc, World.size_setCell, size_drew, size_drewN] at hc hs hf); first | (simp (disch := omega) only [hc, hs, hf, cur_iff]; (try go_simp); done) | (simp (disch := first | omega | (simp; done)) only [hc, hs, hf, cur_iff]; (try go_simp); done) | (simp (maxDischargeDepth := 4) [hc, hs, hf, cur_iff, go_sem]; done) | (go_simp; done) | (simp (maxDischargeDepth := 4) [hc, hs, hf, cur_iff, go_sem]; go_simp))); go_region_held3 (fun w' => Reg (W0.heap.size) (W0) w' ∧ w'.cell? ⟨w.heap.size, 0, none⟩ = some (.string name) ∧ w'.cell? ⟨w.heap.size, 1, none⟩ = some (.slice A la ca) ∧ w'.cell? ⟨w.heap.size, 2, none⟩ = some (.slice B lb cb) ∧ w'.cell? ⟨w.heap.size, 3, none⟩ = some (.slice Cl lc cl) ∧ w'.cell? ⟨w.heap.size, 4, none⟩ = some (.int .i64 r) ∧ w'.cell? ⟨w.heap.size, 5, none⟩ = some (.int .i64 z) ∧ w'.cell? ⟨w.heap.size, 6, none⟩ = some (.int .i64 nr) ∧ w'.cell? ⟨w.heap.size, 7, none⟩ = some (.int .i64 nz) ∧ w'.cell? ⟨w.heap.size, 8, none⟩ = some (.int .i64 step) ∧ w'.cell? ⟨w.heap.size, 9, none⟩ = some (.slice (some ⟨b, o, none⟩) ld cd) ∧ w'.cell? ⟨w.heap.size + 1, 0, none⟩ = some (.int .i64 X) ∧ w'.cell? ⟨w.heap.size + 1, 1, none⟩ = some (.int .i64 Y)) (exact HS.out _ (by (repeat first | with_reducible exact Reg.refl _ _ | with_reducible refine Reg.alloc ?_ _ | with_reducible refine Reg.drew ?_))) (first | fail)
  all_goals go_wp2_with fail
  all_goals go_meet
  all_goals exact ⟨_, rfl, by go_simp, by go_simp, by go_simp, by go_simp, by go_simp, by go_simp, by go_simp, by go_simp, by go_simp, by go_simp, (by ((try simp only [World.size_alloc, World.size_setCell, size_drew, size_drewN]); omega)), (by omega), by (repeat first | with_reducible exact Below.refl _ _ | (with_reducible refine Below.alloc ?_ ?_ _; rotate_left; exact (by omega)) | with_reducible refine Below.drew ?_)⟩
 case rest =>
  obtain ⟨y, rfl, a0, a1, a2, a3, a4, a5, a6, a7, a8, a9, hy, ly, hb⟩ := hcut
  have hBc := hB.trans (hb.mono hB.size)
  have hsz := hBc.size
  clear hb ly hz hB m0 m1 m2 m3 m4 m5 m6 m7 m8 m9 p0 p1
  go_wp2_with fail
  refine (HX.out _ _ (by (repeat first | with_reducible assumption | (with_reducible refine Below.alloc ?_ ?_ _; rotate_left; exact (by omega)))) (isC_one (by go_simp) (by simp))).mono ?_
  rintro e w3 ⟨rfl, hb⟩
  have hB3 : Below w.heap.size w w3 := Below.trans (by (repeat first | with_reducible assumption | (with_reducible refine Below.alloc ?_ ?_ _; rotate_left; exact (by omega)))) (hb.mono (by ((try simp only [World.size_alloc, World.size_setCell, size_drew, size_drewN]); omega)))
  clear hb a0 a1 a2 a3 a4 a5 a6 a7 a8 a9
  go_wp2_with fail
  go_ret
  exact ⟨rfl, by (repeat with_reducible assumption)⟩
end
section
open Go.RowKit
theorem flat_ints : ∀ n : Nat, (List.replicate n (0 : Int)).flatMap intCells = List.replicate n (.int .i64 0)
 | 0 => rfl
 | n + 1 => by rw [List.replicate_succ, List.replicate_succ, List.flatMap_cons, flat_ints n]; rfl
end
section
open Go.RowKit Go.Shelf
def dot : List Int → List Int → Int
 | x :: xs, y :: ys => x * y + dot xs ys
 | _, _ => 0
theorem dot_flux (p : Int × Int) : ∀ (ws ls : List Int) (S : List Src), ws.length = S.length → ls.length = S.length → (∀ (k : Nat) (a b : Int) (s : Src), ws[k]? = some a → ls[k]? = some b → S[k]? = some s → a * b = infl p.1 p.2 s.1.1 s.1.2 * s.2) → dot ws ls = fluxP p S
 | [], [], [], _, _, _ => rfl
 | a :: ws, b :: ls, s :: S, h1, h2, h => by
  have e := h 0 a b s rfl rfl rfl
  have ih := dot_flux p ws ls S (by simpa using h1) (by simpa using h2) (fun k a b s ha hb hs => h (k + 1) a b s (by simpa using ha) (by simpa using hb) (by simpa using hs))
  simp only [dot, fluxP, e, ih]
 | [], _ :: _, [], _, h2, _ => by simp at h2
 | _ :: _, _, [], h1, _, _ => by simp at h1
 | [], _, _ :: _, h1, _, _ => by simp at h1
 | _ :: _, [], _ :: _, _, h2, _ => by simp at h2
theorem dot_drop {xs ys : List Int} {k : Nat} {a b : Int} (h1 : xs[k]? = some a) (h2 : ys[k]? = some b) : dot (xs.drop k) (ys.drop k) = a * b + dot (xs.drop (k + 1)) (ys.drop (k + 1)) := by
 obtain ⟨k1, e1⟩ := List.getElem?_eq_some_iff.1 h1
 obtain ⟨k2, e2⟩ := List.getElem?_eq_some_iff.1 h2
 rw [List.drop_eq_getElem_cons k1, List.drop_eq_getElem_cons k2, e1, e2]
 rfl
def allL (C : CurD) : List Int := C.coils ++ C.shells ++ C.plasma
theorem dot_src {M : MachD} {C : CurD} (hv : Fit2 M C) (p : Int × Int) : dot (fromL M p) (allL C) = fluxP p (srcM M C) := by
 have c1 := hv.coils.1
 have c2 := hv.shells.1
 have c3 := hv.plasma.1
 have l1 := from_length M p
 have l2 : (srcM M C).length = M.coils.length + (M.shells.length + C.plasma.length) := srcL_length c1 c2
 have l3 : (allL C).length = C.coils.length + C.shells.length + C.plasma.length := by simp [allL, Nat.add_assoc]
 refine dot_flux p _ _ _ (by omega) (by omega) (fun k a b s ha hb hs => ?_)
 have hk : k < (allL C).length := (List.getElem?_eq_some_iff.1 hb).1
 by_cases h1 : k < M.coils.length
 ·obtain ⟨c, hc⟩ : ∃ c, M.coils[k]? = some c := ⟨_, List.getElem?_eq_getElem h1⟩
  obtain ⟨x, hx⟩ : ∃ x, C.coils[k]? = some x := ⟨_, List.getElem?_eq_getElem (by omega)⟩
  rw [from_coil hc] at ha
  have e : (allL C)[k]? = some x := by unfold allL; rw [List.getElem?_append_left (by simp; omega), List.getElem?_append_left (by omega), hx]
  rw [e] at hb
  have e2 : (srcM M C)[k]? = some ((c.r, c.z), c.turns * x) := srcL_coil c1 k c x hc hx
  rw [e2] at hs
  cases ha; cases hb; cases hs
  show c.turns * infl p.1 p.2 c.r c.z * b = infl p.1 p.2 c.r c.z * (c.turns * b)
  rw [Int.mul_comm c.turns, Int.mul_assoc]
 ·by_cases h2 : k < M.coils.length + M.shells.length
  ·obtain ⟨j, rfl⟩ : ∃ j, k = M.coils.length + j := ⟨k - M.coils.length, by omega⟩
   obtain ⟨c, hc⟩ : ∃ c, M.shells[j]? = some c := ⟨_, List.getElem?_eq_getElem (by omega)⟩
   obtain ⟨x, hx⟩ : ∃ x, C.shells[j]? = some x := ⟨_, List.getElem?_eq_getElem (by omega)⟩
   rw [from_shell hc] at ha
   have e : (allL C)[M.coils.length + j]? = some x := by unfold allL; rw [List.getElem?_append_left (by simp; omega), List.getElem?_append_right (by omega), show M.coils.length + j - C.coils.length = j by omega, hx]
   rw [e] at hb
   have e2 : (srcM M C)[M.coils.length + j]? = some ((c.r, c.z), x) := srcL_shell c1 c2 j c x hc hx
   rw [e2] at hs
   cases ha; cases hb; cases hs
   rfl
  ·obtain ⟨j, rfl⟩ : ∃ j, k = M.coils.length + (M.shells.length + j) := ⟨k - M.coils.length - M.shells.length, by omega⟩
   obtain ⟨x, hx⟩ : ∃ x, C.plasma[j]? = some x := ⟨_, List.getElem?_eq_getElem (by omega)⟩
   rw [from_cell (M := M) (p := p) (k := j) (by have := (List.getElem?_eq_some_iff.1 hx).1; omega)] at ha
   have e : (allL C)[M.coils.length + (M.shells.length + j)]? = some x := by unfold allL; rw [List.getElem?_append_right (by simp; omega), show M.coils.length + (M.shells.length + j) - (C.coils ++ C.shells).length = j by simp; omega, hx]
   rw [e] at hb
   have e2 : (srcM M C)[M.coils.length + (M.shells.length + j)]? = some ((cellR M.grid (j : Int), cellZ M.grid (j : Int)), x) := srcL_cell c1 c2 j x hx
   rw [e2] at hs
   cases ha; cases hb; cases hs
   rfl
theorem from_bd {M : MachD} (hs : Sound M) (p : Int × Int) : ∀ x ∈ fromL M p, 0 ≤ x ∧ x ≤ 25000000 := by
 intro x hx
 unfold fromL at hx
 rcases List.mem_append.1 hx with h | h
 ·obtain ⟨c, hc, rfl⟩ := List.mem_map.1 h
  have t := (hs.coils.2 c hc).1
  have b := infl_bd p.1 p.2 c.r c.z
  have h1 := Int.mul_nonneg (a := c.turns) (b := infl p.1 p.2 c.r c.z) (by omega) b.1
  have h2 := Int.mul_le_mul t.2 b.2 b.1 (by omega)
  omega
 ·rcases List.mem_append.1 h with h | h
  ·obtain ⟨c, hc, rfl⟩ := List.mem_map.1 h
   have b := infl_bd p.1 p.2 c.r c.z
   omega
  ·obtain ⟨c, hc, rfl⟩ := List.mem_map.1 h
   have b := infl_bd p.1 p.2 (cellR M.grid (c : Int)) (cellZ M.grid (c : Int))
   omega
theorem all_bd {M : MachD} {C : CurD} (hv : Fit2 M C) : ∀ x ∈ allL C, -1000000 ≤ x ∧ x ≤ 1000000 := by
 intro x hx
 unfold allL at hx
 rcases List.mem_append.1 hx with h | h
 ·rcases List.mem_append.1 h with h | h
  ·exact hv.coils.2 x h
  ·exact hv.shells.2 x h
 ·have := hv.plasma.2 x h
  omega
end
section
open Go.RowKit Go.Shelf
end
section
open Go.RowKit Go.Shelf
def plasB (n : Int) (l : List Int) : Bool := decide ((l.length : Int) = n) && (allW l 0 1000000 && decide (tot 0 l ≤ 1000000))
theorem allW_drop {l : List Int} {k : Nat} {x : Int} (h : l[k]? = some x) (a b : Int) : allW (l.drop k) a b = (wthn x a b && allW (l.drop (k + 1)) a b) := by
 obtain ⟨hk, rfl⟩ := List.getElem?_eq_some_iff.1 h
 unfold allW
 rw [List.drop_eq_getElem_cons hk]
 rfl
set_option maxRecDepth 100000 in
set_option maxHeartbeats 4000000 in
theorem rplasma_any (name : ByteArray) (A B Cl D : Option Addr) (la ca lb cb lc cl ld cd : Nat) (r z nr nz step : Int) (A1 : Option Addr) (len cap : Nat) (zs : List Int) (w : World) (hI : IsT 1 intCells w A1 len zs) (hl : len ≤ 1000000000000000) (h0 : 1 ≤ nr * nz) (h1 : nr * nz ≤ 64) :
  Calls Tryz.prog 69 #[.agg #[.string name, .slice A la ca, .slice B lb cb, .slice Cl lc cl, .int .i64 r, .int .i64 z, .int .i64 nr, .int .i64 nz, .int .i64 step, .slice D ld cd], .slice A1 len cap] w (Ret (.bool (plasB (nr * nz) zs)) w) := by
 have hlen := hI.1
 have HI := Lib.hid hI
 clear hI
 have u0 : IntKind.i64.wrap (nr * nz) = nr * nz := IntWalk.i64_in _ (by omega)
 have HG : Hid (plasB (nr * nz) zs = (decide ((len : Int) = nr * nz) && (allW (zs.drop 0) 0 1000000 && decide (tot 0 (zs.drop 0) ≤ 1000000)))) := Lib.hid (by unfold plasB; rw [hlen]; rfl)
 generalize plasB (nr * nz) zs = G at *
 by_cases b5 : (len : Int) = nr * nz
 ·have e5 : ((len : Int) == nr * nz) = true := by rw [b5]; simp
  have HG2 : Hid ((allW (zs.drop 0) 0 1000000 && decide (tot 0 (zs.drop 0) ≤ 1000000)) = G) := Lib.hid (by rw [HG.out, decide_eq_true b5, Bool.true_and])
  clear HG
  go_enter Tryz.func69, Tryz.ntmps69
  go_wp2_with fail
  go_loopw [5, 6] (fun s i wr => ∃ (j : Nat) (t : Int), j ≤ len ∧ i = .int .i64 j ∧ s = .int .i64 t ∧ Hid ((allW (zs.drop j) 0 1000000 && decide (tot t (zs.drop j) ≤ 1000000)) = G) ∧ Below w.heap.size w wr) (fun _ i _ => len - (intOf i).toNat)
  case atStart => exact ⟨0, 0, Nat.zero_le _, rfl, rfl, HG2, by (repeat first | with_reducible exact Below.refl _ _ | (with_reducible refine Below.alloc ?_ ?_ _; rotate_left; exact (by omega)))⟩
  case round =>
   obtain ⟨j, t, hj, rfl, rfl, hG, hB⟩ := hrel
   have sz0 := hB.size
   by_cases hlt : j < len
   ·obtain ⟨hzl, hcl⟩ := HI.out.below hB
    obtain ⟨b, o, rfl, hb0, hcl⟩ := hcl (by omega)
    obtain ⟨x, hx⟩ : ∃ x, zs[j]? = some x := ⟨_, List.getElem?_eq_getElem (by omega)⟩
    have x0 : wr.cell? ⟨b, o + j, none⟩ = some (.int .i64 x) := by have h := hcl j x hx 0 _ rfl; simpa using h
    have HS : Hid (((wthn x 0 1000000 && allW (zs.drop (j + 1)) 0 1000000) && decide (tot (wrap64 (t + x)) (zs.drop (j + 1)) ≤ 1000000)) = G) := Lib.hid (by
     have h := hG.out
     rw [tot_drop hx, allW_drop hx] at h
     exact h)
    clear hcl hx hzl hG
    have jc : (0 : Int) ≤ j := by omega
    have jn : ((j : Int)).toNat = j := by omega
    cases hv : wthn x 0 1000000
    ·have HF : Hid (false = G) := Lib.hid (by rw [← HS.out, hv]; rfl)
     clear HS
     go_wp2_with (go_at_call 70; refine (rwithin2_any _ _ _ _).mono ?_; rintro e w2 ⟨rfl, rfl⟩)
     go_ret
     exact ⟨by rw [← HF.out]; first | rfl | (rw [hv]), by (repeat with_reducible assumption)⟩
    ·have HN : Hid ((allW (zs.drop (j + 1)) 0 1000000 && decide (tot (wrap64 (t + x)) (zs.drop (j + 1)) ≤ 1000000)) = G) := Lib.hid (by rw [← HS.out, hv]; rfl)
     clear HS
     go_wp2_with (go_at_call 70; refine (rwithin2_any _ _ _ _).mono ?_; rintro e w2 ⟨rfl, rfl⟩)
     go_roundw
     case rel => exact ⟨j + 1, wrap64 (t + x), by omega, by go_num, rfl, HN, by (repeat with_reducible assumption)⟩
     case measure => simp [intOf]; omega
   ·have je : j = len := by omega
    have hE : Hid (decide (t ≤ 1000000) = G) := Lib.hid (by
     have h := hG.out
     rw [List.drop_of_length_le (by omega)] at h
     exact h)
    clear hG
    go_wp2_with fail
    go_ret
    exact ⟨by rw [← hE.out]; rfl, by (repeat with_reducible assumption)⟩
 ·have e5 : ((len : Int) == nr * nz) = false := by rw [beq_eq_false_iff_ne]; exact b5
  have HF : Hid (false = G) := Lib.hid (by rw [HG.out, decide_eq_false b5]; rfl)
  clear HG
  go_enter Tryz.func69, Tryz.ntmps69
  go_wp2_with fail
  go_ret
  exact ⟨by rw [← HF.out]; rfl, by (repeat first | with_reducible exact Below.refl _ _ | (with_reducible refine Below.alloc ?_ ?_ _; rotate_left; exact (by omega)))⟩
end
end Go.Proofs.YthggkidiidnaoaaGreatDoor
