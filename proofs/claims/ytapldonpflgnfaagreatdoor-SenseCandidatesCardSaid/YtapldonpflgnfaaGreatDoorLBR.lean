import Derived.Test.YtapldonpflgnfaaGreatDoorLAA
import Derived.Test.YtapldonpflgnfaaGreatDoorLAK
import Derived.Test.YtapldonpflgnfaaGreatDoorLBI
import Derived.Test.YtapldonpflgnfaaGreatDoorLBO
import Derived.Test.YtapldonpflgnfaaGreatDoorLBP
import Derived.Test.YtapldonpflgnfaaGreatDoorLBQ
import Derived.Test.YtapldonpflgnfaaGreatDoorRows
import Derived.KernelRfl
import Derived.Laws.StructEq
import Derived.ProofKit
import Derived.OpenShut
import Derived.Lib.SmallJoins
import Derived.Deep.Slices
import Derived.Carry
namespace Go.Proofs.YtapldonpflgnfaaGreatDoor
set_option linter.unusedVariables false
set_option linter.unusedSimpArgs false
section
open Go.RowKit Go.Shelf
set_option maxRecDepth 100000 in
set_option maxHeartbeats 16000000 in
theorem where_law (R : MachR) (M : MachD) (F : Option Addr) (len cap : Nat) (zs : List Tri) (w : World) (hM : IsM w R M) (hF : IsT 3 pairCells w F len zs) (hl : len ≤ 200) :
  Calls Tryz.prog 18 #[.agg (machCells R M), .slice F len cap] w (Ret (.bool true) w) := by
 have H1 := Lib.hid (fun W (hb : Below w.heap.size w W) => where9_any R M F len cap zs W (hM.below hb) (hF.below hb) (by omega))
 have H2 := Lib.hid (fun W (hb : Below w.heap.size w W) => rwhere9_any R M F len cap zs W (hM.below hb) (hF.below hb) (by omega))
 generalize whereL M zs = G at *
 clear hM hF
 obtain ⟨A, B, C, D, la, ca, lb, cb, lc, cc, ld, cd⟩ := R
 obtain ⟨name, coils, shells, limits, ⟨r, z, nr, nz, step⟩, sensors⟩ := M
 obtain ⟨⟨r1, r2, z1, z2, c1, c2⟩, e⟩ := G
 have H1 := Lib.hid (show ∀ W, Below w.heap.size w W → Calls Tryz.prog 46 #[.agg #[.string name, .slice A la ca, .slice B lb cb, .slice C lc cc, .int .i64 r, .int .i64 z, .int .i64 nr, .int .i64 nz, .int .i64 step, .slice D ld cd], .slice F len cap] W (Ret (.tuple #[.agg #[.int .i64 r1, .int .i64 r2], .agg #[.int .i64 z1, .int .i64 z2], .agg #[.int .i64 c1, .int .i64 c2], .int .i64 e]) W) from H1.out)
 have H2 := Lib.hid (show ∀ W, Below w.heap.size w W → Calls Tryz.prog 47 #[.agg #[.string name, .slice A la ca, .slice B lb cb, .slice C lc cc, .int .i64 r, .int .i64 z, .int .i64 nr, .int .i64 nz, .int .i64 step, .slice D ld cd], .slice F len cap] W (Ret (.tuple #[.agg #[.int .i64 r1, .int .i64 r2], .agg #[.int .i64 z1, .int .i64 z2], .agg #[.int .i64 c1, .int .i64 c2], .int .i64 e]) W) from H2.out)
 show Calls Tryz.prog 18 #[.agg #[.string name, .slice A la ca, .slice B lb cb, .slice C lc cc, .int .i64 r, .int .i64 z, .int .i64 nr, .int .i64 nz, .int .i64 step, .slice D ld cd], .slice F len cap] w _
 go_enter Tryz.func18, Tryz.ntmps18
 go_wp2_with fail
 refine (H1.out _ (by (repeat first | with_reducible exact Below.refl _ _ | (with_reducible refine Below.alloc ?_ ?_ _; rotate_left; exact (by omega))))).mono ?_
 rintro _ w1 ⟨rfl, hb⟩
 have m0 : w1.cell? ⟨w.heap.size, 0, none⟩ = some (.string name) := by rw [hb.cell (p := ⟨w.heap.size, 0, none⟩) (by ((try simp only [World.size_alloc, World.size_setCell, size_drew, size_drewN]); omega))]; go_simp
 have m1 : w1.cell? ⟨w.heap.size, 1, none⟩ = some (.slice A la ca) := by rw [hb.cell (p := ⟨w.heap.size, 1, none⟩) (by ((try simp only [World.size_alloc, World.size_setCell, size_drew, size_drewN]); omega))]; go_simp
 have m2 : w1.cell? ⟨w.heap.size, 2, none⟩ = some (.slice B lb cb) := by rw [hb.cell (p := ⟨w.heap.size, 2, none⟩) (by ((try simp only [World.size_alloc, World.size_setCell, size_drew, size_drewN]); omega))]; go_simp
 have m3 : w1.cell? ⟨w.heap.size, 3, none⟩ = some (.slice C lc cc) := by rw [hb.cell (p := ⟨w.heap.size, 3, none⟩) (by ((try simp only [World.size_alloc, World.size_setCell, size_drew, size_drewN]); omega))]; go_simp
 have m4 : w1.cell? ⟨w.heap.size, 4, none⟩ = some (.int .i64 r) := by rw [hb.cell (p := ⟨w.heap.size, 4, none⟩) (by ((try simp only [World.size_alloc, World.size_setCell, size_drew, size_drewN]); omega))]; go_simp
 have m5 : w1.cell? ⟨w.heap.size, 5, none⟩ = some (.int .i64 z) := by rw [hb.cell (p := ⟨w.heap.size, 5, none⟩) (by ((try simp only [World.size_alloc, World.size_setCell, size_drew, size_drewN]); omega))]; go_simp
 have m6 : w1.cell? ⟨w.heap.size, 6, none⟩ = some (.int .i64 nr) := by rw [hb.cell (p := ⟨w.heap.size, 6, none⟩) (by ((try simp only [World.size_alloc, World.size_setCell, size_drew, size_drewN]); omega))]; go_simp
 have m7 : w1.cell? ⟨w.heap.size, 7, none⟩ = some (.int .i64 nz) := by rw [hb.cell (p := ⟨w.heap.size, 7, none⟩) (by ((try simp only [World.size_alloc, World.size_setCell, size_drew, size_drewN]); omega))]; go_simp
 have m8 : w1.cell? ⟨w.heap.size, 8, none⟩ = some (.int .i64 step) := by rw [hb.cell (p := ⟨w.heap.size, 8, none⟩) (by ((try simp only [World.size_alloc, World.size_setCell, size_drew, size_drewN]); omega))]; go_simp
 have m9 : w1.cell? ⟨w.heap.size, 9, none⟩ = some (.slice D ld cd) := by rw [hb.cell (p := ⟨w.heap.size, 9, none⟩) (by ((try simp only [World.size_alloc, World.size_setCell, size_drew, size_drewN]); omega))]; go_simp
 have hB1 : Below w.heap.size w w1 := Below.trans (by (repeat first | with_reducible exact Below.refl _ _ | (with_reducible refine Below.alloc ?_ ?_ _; rotate_left; exact (by omega)))) (hb.mono (by ((try simp only [World.size_alloc, World.size_setCell, size_drew, size_drewN]); omega)))
 have k0 : w.heap.size < w1.heap.size := Nat.lt_of_lt_of_le (by ((try simp only [World.size_alloc, World.size_setCell, size_drew, size_drewN]); omega)) hb.size
 clear hb
 go_upto_region 2 with (fail)
 have hbW : Below w1.heap.size w1 (((w1.alloc (.cells #[.int .i64 r1, .int .i64 r2] 41)).alloc (.cells #[.int .i64 z1, .int .i64 z2] 41)).alloc (.cells #[.int .i64 c1, .int .i64 c2] 41)) := by (repeat first | with_reducible exact Below.refl _ _ | (with_reducible refine Below.alloc ?_ ?_ _; rotate_left; exact (by first | omega | (simp; done) | (simp; omega))))
 have s0 : (((w1.alloc (.cells #[.int .i64 r1, .int .i64 r2] 41)).alloc (.cells #[.int .i64 z1, .int .i64 z2] 41)).alloc (.cells #[.int .i64 c1, .int .i64 c2] 41)).cell? ⟨w1.heap.size, 0, none⟩ = some (.int .i64 r1) := by go_simp
 have s1 : (((w1.alloc (.cells #[.int .i64 r1, .int .i64 r2] 41)).alloc (.cells #[.int .i64 z1, .int .i64 z2] 41)).alloc (.cells #[.int .i64 c1, .int .i64 c2] 41)).cell? ⟨w1.heap.size, 1, none⟩ = some (.int .i64 r2) := by go_simp
 have s2 : (((w1.alloc (.cells #[.int .i64 r1, .int .i64 r2] 41)).alloc (.cells #[.int .i64 z1, .int .i64 z2] 41)).alloc (.cells #[.int .i64 c1, .int .i64 c2] 41)).cell? ⟨w1.heap.size + 1, 0, none⟩ = some (.int .i64 z1) := by go_simp
 have s3 : (((w1.alloc (.cells #[.int .i64 r1, .int .i64 r2] 41)).alloc (.cells #[.int .i64 z1, .int .i64 z2] 41)).alloc (.cells #[.int .i64 c1, .int .i64 c2] 41)).cell? ⟨w1.heap.size + 1, 1, none⟩ = some (.int .i64 z2) := by go_simp
 have s4 : (((w1.alloc (.cells #[.int .i64 r1, .int .i64 r2] 41)).alloc (.cells #[.int .i64 z1, .int .i64 z2] 41)).alloc (.cells #[.int .i64 c1, .int .i64 c2] 41)).cell? ⟨w1.heap.size + 1 + 1, 0, none⟩ = some (.int .i64 c1) := by go_simp
 have s5 : (((w1.alloc (.cells #[.int .i64 r1, .int .i64 r2] 41)).alloc (.cells #[.int .i64 z1, .int .i64 z2] 41)).alloc (.cells #[.int .i64 c1, .int .i64 c2] 41)).cell? ⟨w1.heap.size + 1 + 1, 1, none⟩ = some (.int .i64 c2) := by go_simp
 have hz : w1.heap.size + 1 + 1 < (((w1.alloc (.cells #[.int .i64 r1, .int .i64 r2] 41)).alloc (.cells #[.int .i64 z1, .int .i64 z2] 41)).alloc (.cells #[.int .i64 c1, .int .i64 c2] 41)).heap.size := by simp
 obtain ⟨W, hW⟩ : ∃ W, ((w1.alloc (.cells #[.int .i64 r1, .int .i64 r2] 41)).alloc (.cells #[.int .i64 z1, .int .i64 z2] 41)).alloc (.cells #[.int .i64 c1, .int .i64 c2] 41) = W := ⟨_, rfl⟩
 rw [hW] at hbW hz s0 s1 s2 s3 s4 s5 ⊢
 clear hW
 have n0 : W.cell? ⟨w.heap.size, 0, none⟩ = some (.string name) := (hbW.cell (p := ⟨w.heap.size, 0, none⟩) k0).trans m0
 have n1 : W.cell? ⟨w.heap.size, 1, none⟩ = some (.slice A la ca) := (hbW.cell (p := ⟨w.heap.size, 1, none⟩) k0).trans m1
 have n2 : W.cell? ⟨w.heap.size, 2, none⟩ = some (.slice B lb cb) := (hbW.cell (p := ⟨w.heap.size, 2, none⟩) k0).trans m2
 have n3 : W.cell? ⟨w.heap.size, 3, none⟩ = some (.slice C lc cc) := (hbW.cell (p := ⟨w.heap.size, 3, none⟩) k0).trans m3
 have n4 : W.cell? ⟨w.heap.size, 4, none⟩ = some (.int .i64 r) := (hbW.cell (p := ⟨w.heap.size, 4, none⟩) k0).trans m4
 have n5 : W.cell? ⟨w.heap.size, 5, none⟩ = some (.int .i64 z) := (hbW.cell (p := ⟨w.heap.size, 5, none⟩) k0).trans m5
 have n6 : W.cell? ⟨w.heap.size, 6, none⟩ = some (.int .i64 nr) := (hbW.cell (p := ⟨w.heap.size, 6, none⟩) k0).trans m6
 have n7 : W.cell? ⟨w.heap.size, 7, none⟩ = some (.int .i64 nz) := (hbW.cell (p := ⟨w.heap.size, 7, none⟩) k0).trans m7
 have n8 : W.cell? ⟨w.heap.size, 8, none⟩ = some (.int .i64 step) := (hbW.cell (p := ⟨w.heap.size, 8, none⟩) k0).trans m8
 have n9 : W.cell? ⟨w.heap.size, 9, none⟩ = some (.slice D ld cd) := (hbW.cell (p := ⟨w.heap.size, 9, none⟩) k0).trans m9
 have hBW := hB1.trans (hbW.mono hB1.size)
 have k1 : w.heap.size < W.heap.size := by omega
 have g0 : w1.heap.size < W.heap.size := by omega
 have g1 : w1.heap.size + 1 < W.heap.size := by omega
 clear m0 m1 m2 m3 m4 m5 m6 m7 m8 m9 hbW hB1
 go_wp2_with fail
 refine (H2.out _ (by (repeat with_reducible assumption))).mono ?_
 rintro _ w2 ⟨rfl, hb⟩
 have v0 : w2.cell? ⟨w1.heap.size, 0, none⟩ = some (.int .i64 r1) := (hb.cell (p := ⟨w1.heap.size, 0, none⟩) (by omega)).trans s0
 have v1 : w2.cell? ⟨w1.heap.size, 1, none⟩ = some (.int .i64 r2) := (hb.cell (p := ⟨w1.heap.size, 1, none⟩) (by omega)).trans s1
 have v2 : w2.cell? ⟨w1.heap.size + 1, 0, none⟩ = some (.int .i64 z1) := (hb.cell (p := ⟨w1.heap.size + 1, 0, none⟩) (by omega)).trans s2
 have v3 : w2.cell? ⟨w1.heap.size + 1, 1, none⟩ = some (.int .i64 z2) := (hb.cell (p := ⟨w1.heap.size + 1, 1, none⟩) (by omega)).trans s3
 have v4 : w2.cell? ⟨w1.heap.size + 1 + 1, 0, none⟩ = some (.int .i64 c1) := (hb.cell (p := ⟨w1.heap.size + 1 + 1, 0, none⟩) (by omega)).trans s4
 have v5 : w2.cell? ⟨w1.heap.size + 1 + 1, 1, none⟩ = some (.int .i64 c2) := (hb.cell (p := ⟨w1.heap.size + 1 + 1, 1, none⟩) (by omega)).trans s5
 have h0 : w1.heap.size < w2.heap.size := Nat.lt_of_lt_of_le (by omega) hb.size
 have h1 : w1.heap.size + 1 < w2.heap.size := Nat.lt_of_lt_of_le (by omega) hb.size
 have h2 : w1.heap.size + 1 + 1 < w2.heap.size := Nat.lt_of_lt_of_le (by omega) hb.size
 have hB2 : Below w.heap.size w w2 := Below.trans (by (repeat with_reducible assumption)) (hb.mono (by omega))
 clear hb n0 n1 n2 n3 n4 n5 n6 n7 n8 n9 s0 s1 s2 s3 s4 s5
 go_upto_region 3 with (fail)
 have hbV : Below w2.heap.size w2 (((w2.alloc (.cells #[.int .i64 r1, .int .i64 r2] 41)).alloc (.cells #[.int .i64 z1, .int .i64 z2] 41)).alloc (.cells #[.int .i64 c1, .int .i64 c2] 41)) := by (repeat first | with_reducible exact Below.refl _ _ | (with_reducible refine Below.alloc ?_ ?_ _; rotate_left; exact (by first | omega | (simp; done) | (simp; omega))))
 have u0 : (((w2.alloc (.cells #[.int .i64 r1, .int .i64 r2] 41)).alloc (.cells #[.int .i64 z1, .int .i64 z2] 41)).alloc (.cells #[.int .i64 c1, .int .i64 c2] 41)).cell? ⟨w2.heap.size, 0, none⟩ = some (.int .i64 r1) := by go_simp
 have u1 : (((w2.alloc (.cells #[.int .i64 r1, .int .i64 r2] 41)).alloc (.cells #[.int .i64 z1, .int .i64 z2] 41)).alloc (.cells #[.int .i64 c1, .int .i64 c2] 41)).cell? ⟨w2.heap.size, 1, none⟩ = some (.int .i64 r2) := by go_simp
 have u2 : (((w2.alloc (.cells #[.int .i64 r1, .int .i64 r2] 41)).alloc (.cells #[.int .i64 z1, .int .i64 z2] 41)).alloc (.cells #[.int .i64 c1, .int .i64 c2] 41)).cell? ⟨w2.heap.size + 1, 0, none⟩ = some (.int .i64 z1) := by go_simp
 have u3 : (((w2.alloc (.cells #[.int .i64 r1, .int .i64 r2] 41)).alloc (.cells #[.int .i64 z1, .int .i64 z2] 41)).alloc (.cells #[.int .i64 c1, .int .i64 c2] 41)).cell? ⟨w2.heap.size + 1, 1, none⟩ = some (.int .i64 z2) := by go_simp
 have u4 : (((w2.alloc (.cells #[.int .i64 r1, .int .i64 r2] 41)).alloc (.cells #[.int .i64 z1, .int .i64 z2] 41)).alloc (.cells #[.int .i64 c1, .int .i64 c2] 41)).cell? ⟨w2.heap.size + 1 + 1, 0, none⟩ = some (.int .i64 c1) := by go_simp
 have u5 : (((w2.alloc (.cells #[.int .i64 r1, .int .i64 r2] 41)).alloc (.cells #[.int .i64 z1, .int .i64 z2] 41)).alloc (.cells #[.int .i64 c1, .int .i64 c2] 41)).cell? ⟨w2.heap.size + 1 + 1, 1, none⟩ = some (.int .i64 c2) := by go_simp
 obtain ⟨V, hV⟩ : ∃ V, ((w2.alloc (.cells #[.int .i64 r1, .int .i64 r2] 41)).alloc (.cells #[.int .i64 z1, .int .i64 z2] 41)).alloc (.cells #[.int .i64 c1, .int .i64 c2] 41) = V := ⟨_, rfl⟩
 rw [hV] at hbV u0 u1 u2 u3 u4 u5 ⊢
 clear hV
 have x0 : V.cell? ⟨w1.heap.size, 0, none⟩ = some (.int .i64 r1) := (hbV.cell (p := ⟨w1.heap.size, 0, none⟩) h0).trans v0
 have x1 : V.cell? ⟨w1.heap.size, 1, none⟩ = some (.int .i64 r2) := (hbV.cell (p := ⟨w1.heap.size, 1, none⟩) h0).trans v1
 have x2 : V.cell? ⟨w1.heap.size + 1, 0, none⟩ = some (.int .i64 z1) := (hbV.cell (p := ⟨w1.heap.size + 1, 0, none⟩) h1).trans v2
 have x3 : V.cell? ⟨w1.heap.size + 1, 1, none⟩ = some (.int .i64 z2) := (hbV.cell (p := ⟨w1.heap.size + 1, 1, none⟩) h1).trans v3
 have x4 : V.cell? ⟨w1.heap.size + 1 + 1, 0, none⟩ = some (.int .i64 c1) := (hbV.cell (p := ⟨w1.heap.size + 1 + 1, 0, none⟩) h2).trans v4
 have x5 : V.cell? ⟨w1.heap.size + 1 + 1, 1, none⟩ = some (.int .i64 c2) := (hbV.cell (p := ⟨w1.heap.size + 1 + 1, 1, none⟩) h2).trans v5
 have hBV := hB2.trans (hbV.mono hB2.size)
 clear v0 v1 v2 v3 v4 v5 hbV hB2
 go_wp2_with fail
 go_ret
 exact ⟨rfl, by (repeat with_reducible assumption)⟩
end
section
open Go.RowKit
theorem candZ_len (M : MachD) (C : CurD) (zs : List SpanD) : (candZ M C zs).length ≤ C.plasma.length := by
 unfold candZ
 split
 ·exact candU_len M C zs C.plasma.length
 ·simp
set_option maxRecDepth 100000 in
theorem light9_any (R : MachR) (M : MachD) (Q : CurR) (F : Option Addr) (nf cf : Nat) (w : World) : Calls Tryz.prog 8 #[(.agg #[.string M.name, .slice R.A R.la R.ca, .slice R.B R.lb R.cb, .slice R.C R.lc R.cc, .int .i64 M.grid.r, .int .i64 M.grid.z, .int .i64 M.grid.nr, .int .i64 M.grid.nz, .int .i64 M.grid.step, .slice R.D R.ld R.cd, .slice Q.A Q.la Q.ca, .slice Q.B Q.lb Q.cb, .slice Q.C Q.lc Q.cc, .slice F nf cf])] w (Ret (.bool (briefB R.la R.lb R.lc R.ld Q.la Q.lb Q.lc nf)) w) := by
 refine calls_ax (vs := [(.agg #[.string M.name, .slice R.A R.la R.ca, .slice R.B R.lb R.cb, .slice R.C R.lc R.cc, .int .i64 M.grid.r, .int .i64 M.grid.z, .int .i64 M.grid.nr, .int .i64 M.grid.nz, .int .i64 M.grid.step, .slice R.D R.ld R.cd, .slice Q.A Q.la Q.ca, .slice Q.B Q.lb Q.cb, .slice Q.C Q.lc Q.cc, .slice F nf cf])]) Tryz.func8 rfl rfl ?_
 refine ac_seq (ac_region ?_)
 refine al_new (fun b => .pointer (some ⟨b, 0, none⟩)) (r_box rfl rfl) rfl rfl rfl ?_
 intro b1
 refine al_p (q_assign rfl) (al_end (aq_then ?_))
 refine ac_seq (ac_region ?_)
 refine al_p (q_fieldAddr 0 rfl Tryz.runUnderlying35 rfl Tryz.sizeOf29 (by decide) rfl) (al_p (q_loadSub (i := 0) rfl rfl Tryz.isAgg29 Tryz.sizeOf29 .k0 .k10) ?_)
 refine al_p (q_fieldAddr 10 rfl Tryz.runUnderlying35 rfl Tryz.sizeOf32 (by decide) rfl) (al_p (q_loadSub (i := 0) rfl rfl Tryz.isAgg32 Tryz.sizeOf32 .k10 .k3) ?_)
 refine al_p (q_fieldAddr 13 rfl Tryz.runUnderlying35 rfl Tryz.sizeOf33 (by decide) rfl) (al_p (q_load (i := 0) rfl rfl rfl Tryz.isAgg33) (al_call Tryz.call23 (.cons rfl (.cons rfl (.cons rfl .nil))) rfl rfl (fun w1 hs1 => ?_)))
 refine (brief_any M.name R.A R.B R.C R.D R.la R.ca R.lb R.cb R.lc R.cc R.ld R.cd M.grid.r M.grid.z M.grid.nr M.grid.nz M.grid.step Q.A Q.B Q.C F Q.la Q.ca Q.lb Q.cb Q.lc Q.cc nf cf _).mono ?_
 rintro e u1 ⟨rfl, hb_1⟩
 refine ⟨_, rfl, hb_1, ?_⟩
 clear hs1
 refine al_p (q_assign rfl) (al_end (aq_then ?_))
 refine ac_ret (ret1 Tryz.results8 rfl (fun w9 hs => ?_))
 exact ⟨rfl, hs.below⟩
set_option maxRecDepth 100000 in
theorem neq_cand (a b c : Int) : ∀ w, (binOp .neq 73 (.agg #[.int .i64 a, .int .i64 b, .int .i64 c]) (.agg #[.int .i64 a, .int .i64 b, .int .i64 c])).run Tryz.prog w = .ok (.bool false) w := by
 intro w
 have e : binOp .neq 73 (.agg #[.int .i64 a, .int .i64 b, .int .i64 c]) (.agg #[.int .i64 a, .int .i64 b, .int .i64 c]) = (do pure (.bool (!(← Op.equal 73 (.agg #[.int .i64 a, .int .i64 b, .int .i64 c]) (.agg #[.int .i64 a, .int .i64 b, .int .i64 c])))) : Sem Value) := rfl
 have h2 : ∀ (n : Nat) w, (Op.equalIn (n + 1 + 1) 41 (.agg #[.int .i64 b, .int .i64 c]) (.agg #[.int .i64 b, .int .i64 c])).run Tryz.prog w = .ok true w := by
  intro n w
  rw [run_equalIn_struct w (n + 1) 41 _ _ (by kernel_rfl) (by kernel_rfl)]
  simp [Program.fieldsOf, Tryz.underlying41, Op.eqFields, go_sem, Tryz.underlying3, Tryz.isAgg3, Tryz.sizeOf3]
 have h : ∀ w, (Op.equal 73 (.agg #[.int .i64 a, .int .i64 b, .int .i64 c]) (.agg #[.int .i64 a, .int .i64 b, .int .i64 c])).run Tryz.prog w = .ok true w := by
  intro w
  show (Op.equalIn 10000 73 _ _).run _ w = _
  rw [run_equalIn_struct w 9999 73 _ _ (by kernel_rfl) (by kernel_rfl)]
  simp [Program.fieldsOf, Tryz.underlying73, Op.eqFields, go_sem, Tryz.underlying3, Tryz.isAgg3, Tryz.sizeOf3, Tryz.isAgg41, Tryz.sizeOf41, h2]
 rw [e]; simp [h]
set_option maxRecDepth 100000 in
theorem rsameCd_any (A B : Option Addr) (la ca lb cb : Nat) (zs : List (Int × Int × Int)) (w : World) (hp1 : IsT 3 pairCells w A la zs) (hp2 : IsT 3 pairCells w B lb zs) (l1 : la ≤ 1000000) : Calls Tryz.prog 17 #[(.slice A la ca), (.slice B lb cb)] w (Ret (.bool true) w) := by
 have e1 := hp1.1
 have e2 := hp2.1
 have hnn : la = lb := by omega
 refine calls_ax (vs := [(.slice A la ca), (.slice B lb cb)]) Tryz.func17 rfl rfl ?_
 refine ac_seq (ac_region ?_)
 refine al_p (q_assign rfl) (al_end (aq_then ?_))
 refine ac_seq (ac_seq (ac_region ?_))
 refine al_p (q_move rfl) (al_p (q_lenS rfl Tryz.runUnderlying49) (al_p (q_move rfl) (al_p (q_lenS rfl Tryz.runUnderlying49) ?_)))
 refine al_p (q_same (v' := .bool false) (q_neq rfl rfl) (by simp [hnn])) (al_end (aq_then ?_))
 refine ac_condF rfl (ac_skip (aq_then (ac_seq (ac_seq (ac_region ?_)))))
 refine al_p (q_assign rfl) (al_end (aq_then ?_))
 refine ac_block ?_
 refine ac_loop (β := Nat) (fun k => k ≤ la) (fun k => [(0, (.slice A la ca)), (1, (.slice B lb cb)), (4, (.bool false)), (5, (.int .i64 (k : Int)))]) (fun _ => _) (fun k => []) (fun k => la - k) 0 (by omega) ⟨rfl, rfl, rfl, rfl, trivial⟩ (fun w9 hs => hs) (fun k hF1 => ?_)
 refine ac_seq (ac_seq (ac_region ?_))
 refine al_p (q_move rfl) (al_p (q_move rfl) (al_p (q_lenS rfl Tryz.runUnderlying49) (al_p (q_lss rfl rfl) (al_end (aq_then ?_)))))
 refine ac_cond rfl (fun h1 => ?_) (fun h1 => ?_)
 ·have hkn : k < la := by have := of_decide_eq_true h1; omega
  obtain ⟨b11, o11, hA1, hlt1, hget1⟩ := hp1.2 (by omega)
  have hx1 := getD_get (l := zs) (d := (0, 0, 0)) (k := k) (by omega)
  obtain ⟨b21, o21, hA2, hlt2, hget2⟩ := hp2.2 (by omega)
  have hx2 := getD_get (l := zs) (d := (0, 0, 0)) (k := k) (by omega)
  refine ac_skip (aq_then (ac_seq (ac_block (ac_seq ?_))))
  refine ac_draw 8 (by kernel_rfl) (by kernel_rfl) ?_
  refine ah_t 0 (fun w9 hs => hs) rfl rfl (by kernel_rfl) (q_move rfl) (ah_t 1 (fun w9 hs => hs) rfl rfl (by kernel_rfl) (q_move rfl) ?_)
  refine ah_t 2 (fun w9 hs => hs) rfl rfl (by kernel_rfl) (q_indexAddrA (i := k) (o11 + k * 3 + 0) hA1 rfl rfl rfl (by omega) Tryz.runUnderlying49 Tryz.sizeOf73 rfl) (ah_t 3 (fun w9 hs => hs) rfl rfl (by kernel_rfl) (q_loadXs (pairCells (zs.getD k (0, 0, 0))) rfl Tryz.isAgg73 Tryz.sizeOf73 (fun w9 hs j9 v9 h9 => by rw [addr_add]; exact (hs.below.cell (p := ⟨_, _, none⟩) hlt1).trans ((hget1 k _ hx1) j9 v9 h9)) rfl) (ah_t 4 (fun w9 hs => hs) rfl rfl (by kernel_rfl) (q_move rfl) (ah_t 5 (fun w9 hs => hs) rfl rfl (by kernel_rfl) (q_move rfl) ?_)))
  refine ah_t 6 (fun w9 hs => hs) rfl rfl (by kernel_rfl) (q_indexAddrA (i := k) (o21 + k * 3 + 0) hA2 rfl rfl rfl (by omega) Tryz.runUnderlying49 Tryz.sizeOf73 rfl) (ah_t 7 (fun w9 hs => hs) rfl rfl (by kernel_rfl) (q_loadXs (pairCells (zs.getD k (0, 0, 0))) rfl Tryz.isAgg73 Tryz.sizeOf73 (fun w9 hs j9 v9 h9 => by rw [addr_add]; exact (hs.below.cell (p := ⟨_, _, none⟩) hlt2).trans ((hget2 k _ hx2) j9 v9 h9)) rfl) (ah_t 8 (fun w9 hs => hs) rfl rfl (by kernel_rfl) (q_same (v' := .bool false) (q_cmpS rfl rfl (by kernel_rfl) (neq_cand _ _ _)) (rfl)) (ah_done (by kernel_rfl) ?_)))
  refine aq_then (ac_condF rfl (ac_skip (aq_inN (aq_then ?_))))
  refine ac_region (al_p (q_move rfl) ?_)
  refine al_p (q_add rfl rfl (by omega)) (al_p (q_assign rfl) (al_end (aq_then ?_)))
  skip
  refine aq_round (k + 1) (by omega) (by omega) ⟨rfl, rfl, rfl, rfl, trivial⟩ (fun w9 hs => hs)
 ·skip
  refine ac_exit (aq_thenE (aq_thenE (aq_hit (aq_then ?_))))
  refine ac_seq (ac_region ?_)
  refine al_p (q_assign rfl) (al_end (aq_then ?_))
  refine ac_ret (ret1 Tryz.results17 rfl (fun w9 hs => ?_))
  exact ⟨rfl, hs.below⟩
set_option maxRecDepth 100000 in
theorem candidates_lit (R : MachR) (M : MachD) (Q : CurR) (C : CurD) (F : Option Addr) (nf cf : Nat) (zs : List SpanD) (w : World) (hM0 : R.la ≤ 1000000000000000 → R.lb ≤ 1000000000000000 → R.lc ≤ 1000000000000000 → R.ld ≤ 1000000000000000 → IsM w R M) (hC0 : Q.la ≤ 1000000000000000 → Q.lb ≤ 1000000000000000 → Q.lc ≤ 1000000000000000 → IsC w Q C) (hF : IsT 2 SpanD.cells w F nf zs) : Calls Tryz.prog 4 #[(.agg #[.string M.name, .slice R.A R.la R.ca, .slice R.B R.lb R.cb, .slice R.C R.lc R.cc, .int .i64 M.grid.r, .int .i64 M.grid.z, .int .i64 M.grid.nr, .int .i64 M.grid.nz, .int .i64 M.grid.step, .slice R.D R.ld R.cd, .slice Q.A Q.la Q.ca, .slice Q.B Q.lb Q.cb, .slice Q.C Q.lc Q.cc, .slice F nf cf])] w (Ret (.bool true) w) := by
 refine calls_ax (vs := [(.agg #[.string M.name, .slice R.A R.la R.ca, .slice R.B R.lb R.cb, .slice R.C R.lc R.cc, .int .i64 M.grid.r, .int .i64 M.grid.z, .int .i64 M.grid.nr, .int .i64 M.grid.nz, .int .i64 M.grid.step, .slice R.D R.ld R.cd, .slice Q.A Q.la Q.ca, .slice Q.B Q.lb Q.cb, .slice Q.C Q.lc Q.cc, .slice F nf cf])]) Tryz.func4 rfl rfl ?_
 refine ac_seq (ac_region ?_)
 refine al_new (fun b => .pointer (some ⟨b, 0, none⟩)) (r_box rfl rfl) rfl rfl rfl ?_
 intro b1
 refine al_p (q_assign rfl) (al_end (aq_then ?_))
 refine ac_seq (ac_seq (ac_region ?_))
 refine al_p (q_loadAll (i := 0) rfl rfl Tryz.isAgg35 Tryz.sizeOf35 rfl) (al_call Tryz.call8 (.cons rfl .nil) rfl rfl (fun w1 hs1 => ?_))
 refine (light9_any R M Q F nf cf _).mono ?_
 rintro e u1 ⟨rfl, hb_1⟩
 refine ⟨_, rfl, hb_1, ?_⟩
 clear hs1
 refine al_p (q_not rfl) (al_end (aq_then ?_))
 refine ac_cond rfl (fun h1 => ?_) (fun h1 => ?_)
 ·skip
  refine ac_seq (ac_region ?_)
  refine al_call Tryz.call9 .nil rfl rfl (fun w2 hs2 => ?_)
  refine (awake_any _).mono ?_
  rintro e u2 ⟨rfl, hb_2⟩
  refine ⟨_, rfl, hb_2, ?_⟩
  clear hs2
  refine al_p (q_assign rfl) (al_end (aq_then ?_))
  refine ac_ret (aq_thenR (ret1 Tryz.results4 rfl (fun w9 hs => ?_)))
  exact ⟨rfl, hs.below⟩
 ·obtain ⟨u1, u2, u3, u4, u5, u6, u7, u8⟩ := brief_bd (show briefB R.la R.lb R.lc R.ld Q.la Q.lb Q.lc nf = true by simpa using h1)
  have hM := hM0 (by omega) (by omega) (by omega) (by omega)
  have hC := hC0 (by omega) (by omega) (by omega)
  have hn : nf ≤ 1000000000000000 := by omega
  refine ac_skip (aq_then (ac_seq (ac_region ?_)))
  refine al_p (q_fieldAddr 0 rfl Tryz.runUnderlying35 rfl Tryz.sizeOf29 (by decide) rfl) (al_p (q_loadSub (i := 0) rfl rfl Tryz.isAgg29 Tryz.sizeOf29 .k0 .k10) ?_)
  refine al_p (q_fieldAddr 10 rfl Tryz.runUnderlying35 rfl Tryz.sizeOf32 (by decide) rfl) (al_p (q_loadSub (i := 0) rfl rfl Tryz.isAgg32 Tryz.sizeOf32 .k10 .k3) ?_)
  refine al_p (q_fieldAddr 13 rfl Tryz.runUnderlying35 rfl Tryz.sizeOf33 (by decide) rfl) (al_p (q_load (i := 0) rfl rfl rfl Tryz.isAgg33) (al_call Tryz.call15 (.cons rfl (.cons rfl (.cons rfl .nil))) rfl rfl (fun w3 hs3 => ?_)))
  refine (ccand9_any R M Q C F nf cf zs _ (hM.below hs3.below) (hC.below hs3.below) (hF.below hs3.below) hn).mono ?_
  rintro e u3 ⟨A_a, n_a, c_a, rfl, N_a, hb_3⟩
  refine ⟨_, rfl, hb_3, ?_⟩
  clear hs3
  refine al_p (q_move rfl) (al_p (q_extract rfl rfl) (al_p (q_extract rfl rfl) (al_p (q_assign rfl) (al_p (q_assign rfl) ?_))))
  refine al_end (aq_then ?_)
  refine ac_seq (ac_region ?_)
  refine al_p (q_fieldAddr 0 rfl Tryz.runUnderlying35 rfl Tryz.sizeOf29 (by decide) rfl) (al_p (q_loadSub (i := 0) rfl rfl Tryz.isAgg29 Tryz.sizeOf29 .k0 .k10) ?_)
  refine al_p (q_fieldAddr 10 rfl Tryz.runUnderlying35 rfl Tryz.sizeOf32 (by decide) rfl) (al_p (q_loadSub (i := 0) rfl rfl Tryz.isAgg32 Tryz.sizeOf32 .k10 .k3) ?_)
  refine al_p (q_fieldAddr 13 rfl Tryz.runUnderlying35 rfl Tryz.sizeOf33 (by decide) rfl) (al_p (q_load (i := 0) rfl rfl rfl Tryz.isAgg33) (al_call Tryz.call16 (.cons rfl (.cons rfl (.cons rfl .nil))) rfl rfl (fun w4 hs4 => ?_)))
  refine (rcand4_any R M Q C F nf cf zs _ (hM.below hs4.below) (hC.below hs4.below) (hF.below hs4.below) hn).mono ?_
  rintro e u4 ⟨A_b, n_b, c_b, rfl, N_b, hb_4⟩
  refine ⟨_, rfl, hb_4, ?_⟩
  clear hs4
  refine al_p (q_move rfl) (al_p (q_extract rfl rfl) (al_p (q_extract rfl rfl) (al_p (q_assign rfl) (al_p (q_assign rfl) ?_))))
  refine al_end (aq_then ?_)
  refine ac_seq (ac_seq (ac_region ?_))
  refine al_p (q_move rfl) (al_p (q_move rfl) ?_)
  refine al_p (q_same (v' := .bool false) (q_neq rfl rfl) (by simp)) (al_p (q_move rfl) (al_p (q_move rfl) (al_p (q_move rfl) (al_call Tryz.call17 (.cons rfl (.cons rfl .nil)) rfl rfl (fun w5 hs5 => ?_)))))
  have hia := (hs5.newT (.tail _ (.head _)) N_a)
  have hib := (hs5.newT (.head _) N_b)
  have hl1 := candZ_len M C zs
  have hl2 := hia.1
  have hl3 := hib.1
  have hpl := hC.plasma.1
  refine (rsameCd_any A_a A_b n_a c_a n_b c_b (candZ M C zs) _ hia hib (by omega)).mono ?_
  rintro e u5 ⟨rfl, hb_5⟩
  refine ⟨_, rfl, hb_5, ?_⟩
  clear hs5
  refine al_p (q_not rfl) (al_p (q_pickF rfl rfl) (al_end (aq_then ?_)))
  refine ac_condF rfl (ac_skip (aq_then (ac_seq (ac_region ?_))))
  refine al_p (q_fieldAddr 0 rfl Tryz.runUnderlying35 rfl Tryz.sizeOf29 (by decide) rfl) (al_p (q_loadSub (i := 0) rfl rfl Tryz.isAgg29 Tryz.sizeOf29 .k0 .k10) (al_p (q_move rfl) (al_call Tryz.call18 (.cons rfl (.cons rfl .nil)) rfl rfl (fun w6 hs6 => ?_))))
  refine (where_law R M A_b n_b c_b (candZ M C zs) _ (hM.below hs6.below) (hs6.newT (.tail _ (.head _)) N_b) (by omega)).mono ?_
  rintro e u6 ⟨rfl, hb_6⟩
  refine ⟨_, rfl, hb_6, ?_⟩
  clear hs6
  refine al_p (q_move rfl) (al_call Tryz.call9 .nil rfl rfl (fun w7 hs7 => ?_))
  refine (awake_any _).mono ?_
  rintro e u7 ⟨rfl, hb_7⟩
  refine ⟨_, rfl, hb_7, ?_⟩
  clear hs7
  refine al_p (q_pickT rfl rfl) (al_p (q_assign rfl) (al_end (aq_then ?_)))
  refine ac_ret (ret1 Tryz.results4 rfl (fun w9 hs => ?_))
  exact ⟨rfl, hs.below⟩
theorem candidates_walk (R : MachR) (M : MachD) (Q : CurR) (C : CurD) (F : Option Addr) (nf cf : Nat) (zs : List SpanD) (w : World) (hM0 : R.la ≤ 1000000000000000 → R.lb ≤ 1000000000000000 → R.lc ≤ 1000000000000000 → R.ld ≤ 1000000000000000 → IsM w R M) (hC0 : Q.la ≤ 1000000000000000 → Q.lb ≤ 1000000000000000 → Q.lc ≤ 1000000000000000 → IsC w Q C) (hF : IsT 2 SpanD.cells w F nf zs) : Calls Tryz.prog 4 #[.agg (machCells R M ++ #[.slice Q.A Q.la Q.ca, .slice Q.B Q.lb Q.cb, .slice Q.C Q.lc Q.cc, .slice F nf cf])] w (Ret (.bool true) w) := candidates_lit R M Q C F nf cf zs w hM0 hC0 hF
end
section
set_option maxRecDepth 100000
open Go.ChangeShapes Go.WideShapes Go.ChangeAt Go.RowKit Go.Joins
theorem own : ownKnob Tryz.prog.godebug = none := by kernel_rfl
theorem cells_int : Tryz.prog.cellsOf 3 = 1 := by kernel_rfl
section
variable {H : Type} {enc : TypeId × Value → H}
end
end
section
set_option maxRecDepth 100000
open Go.ChangeShapes Go.WideShapes Go.ChangeAt Go.RowKit Go.Joins Go.Deep
section
variable {H : Type} {enc : TypeId × Value → H}
theorem open_isT {α : Type} {E : α → List Value} {n : Nat} (h0 : ∀ x, (E x).length = n) {t e : TypeId} {W : World} {b0 : Nat} {r : Reach} {v : Value} {d : DataW H} {p : List MemPlace}
  (ht : Tryz.prog.underlying t = some (.slice e)) (hc : Tryz.prog.cellsOf e = n) (hn : 0 < n)
  (dec : ∀ (fuel : Nat) (cs : List Value) (y : DataW H × List MemPlace), DataW.trod enc Tryz.prog W 0 (fun _ => true) true fuel e cs = some y → ∃ x : α, cs = E x)
  (hv : Value.okWide Tryz.prog W r b0 t v) (h : DataW.Trod enc Tryz.prog W 0 (fun _ => true) true t v d p) :
  ∃ (A : Option Addr) (len cap : Nat) (zs : List α), v = .slice A len cap ∧ IsT n E W A len zs ∧ len ≤ maxLen ∧ len ≤ cap ∧ cap ≤ maxLen := by
 obtain ⟨a, len, cap, rfl⟩ := okWide_slice ht hv
 obtain ⟨fuel, hf⟩ := h
 rcases open_slice ht hf with ⟨hcs, hx⟩ | ⟨a', len', cap', m, k, D, Pl, hcs, hb, hl, hm, hmm, hx, hi⟩
 ·have hcs : [Value.slice a len cap] = [Value.slice none 0 0] := hcs
  injection hcs with hcs _
  injection hcs with e1 e2 e3
  subst e1 e2 e3
  exact ⟨_, _, _, [], rfl, IsT.nil _ _ _ _, Nat.zero_le _, Nat.zero_le _, Nat.zero_le _⟩
 ·have hcs : [Value.slice a len cap] = [Value.slice (some a') len' cap'] := hcs
  injection hcs with hcs _
  injection hcs with e1 e2 e3
  subst e1 e2 e3
  simp only [if_true] at hmm
  subst hmm
  have each : ∀ i, i < len → ∃ x : α, ∀ j, j < n → W.cell? (a'.add (i * n + j)) = (E x)[j]? := fun i hil => by
   obtain ⟨cs', h1, h2⟩ := hi i (by omega)
   obtain ⟨x, rfl⟩ := dec _ _ _ h2
   rw [hc] at h1
   obtain ⟨_, _, hcell⟩ := World.cells?_some h1
   refine ⟨x, fun j hj => ?_⟩
   have := hcell j hj
   rwa [add_add] at this
  by_cases hz : len = 0
  ·subst hz
   exact ⟨_, _, _, [], rfl, IsT.nil _ _ _ _, Nat.zero_le _, Nat.zero_le _, hm⟩
  ·obtain ⟨x0, _⟩ := each 0 (by omega)
   haveI : Inhabited α := ⟨x0⟩
   obtain ⟨z, hz'⟩ := choose_lt each
   refine ⟨_, _, _, (List.range len).map z, rfl, ⟨by simp, fun _ => ?_⟩, Nat.le_trans hl hm, hl, hm⟩
   have c0 := hz' 0 (by omega) 0 hn
   obtain ⟨v0, hv0⟩ : ∃ v0, (E (z 0))[0]? = some v0 := ⟨_, List.getElem?_eq_getElem (by rw [h0]; exact hn)⟩
   rw [hv0] at c0
   have hlt := World.block_lt_of_cell? W _ c0
   have hsp := World.cell?_spot c0
   obtain ⟨b, off, spot⟩ := a'
   have hspot : spot = none := by simpa [Addr.add] using hsp
   subst hspot
   rw [block_add] at hlt
   refine ⟨b, off, rfl, hlt, fun j x hx i v hv => ?_⟩
   have hj : j < len := by
    have := (List.getElem?_eq_some_iff.1 hx).1
    simpa using this
   have hx' : x = z j := by
    rw [List.getElem?_map, List.getElem?_range hj] at hx
    simpa using hx.symm
   subst hx'
   have hin : i < n := by
    have := (List.getElem?_eq_some_iff.1 hv).1
    rwa [h0] at this
   have := hz' j hj i hin
   rw [add_plain, hv] at this
   rw [← this]
   congr 2
   omega
end
end
end Go.Proofs.YtapldonpflgnfaaGreatDoor
