import Derived.Test.YtfpjhobhmcfpnaaDoorJBE
import Derived.Test.YtfpjhobhmcfpnaaDoorJBH
import Derived.Test.YtfpjhobhmcfpnaaDoorJBI
import Derived.Deep.QuietTactic
import Derived.BigQuiet
section
/- The law SenseCommon: its walk, over this seat's translation (written by mk_cmn.py). -/
namespace Go.Proofs.YtfpjhobhmcfpnaaDoor
set_option linter.unusedVariables false
set_option linter.unusedSimpArgs false
open Go.RowKit Go.Shelf

theorem any_snoc {α : Type} {l : List α} {k : Nat} {x : α} (p : α → Bool) (h : l[k]? = some x) : (l.take (k + 1)).any p = ((l.take k).any p || p x) := by
  rw [take_snoc h, List.any_append]; simp

set_option maxRecDepth 100000 in
set_option maxHeartbeats 8000000 in
theorem light_any (name : ByteArray) (A B Cl D A1 B1 C1 F : Option Addr) (la ca lb cb lc cl ld cd na qa nb qb nc qc nf cf : Nat) (r z nr nz step : Int) (w : World) :
    Calls Tryd.prog 18 #[.agg #[.string name, .slice A la ca, .slice B lb cb, .slice Cl lc cl, .int .i64 r, .int .i64 z, .int .i64 nr, .int .i64 nz, .int .i64 step, .slice D ld cd, .slice A1 na qa, .slice B1 nb qb, .slice C1 nc qc, .slice F nf cf]] w (Ret (.bool (briefB la lb lc ld na nb nc nf)) w) := by
  have HB := Lib.hid (fun W => brief_any name A B Cl D la ca lb cb lc cl ld cd r z nr nz step A1 B1 C1 F na qa nb qb nc qc nf cf W)
  generalize briefB la lb lc ld na nb nc nf = G at *
  go_enter Tryd.func18, Tryd.ntmps18
  go_upto_region 1 with (fail)
  have Fx : Hid (RowL (w.heap.size) [.string name, .slice A la ca, .slice B lb cb, .slice Cl lc cl, .int .i64 r, .int .i64 z, .int .i64 nr, .int .i64 nz, .int .i64 step, .slice D ld cd, .slice A1 na qa, .slice B1 nb qb, .slice C1 nc qc, .slice F nf cf] (w.alloc (.cells #[.string name, .slice A la ca, .slice B lb cb, .slice Cl lc cl, .int .i64 r, .int .i64 z, .int .i64 nr, .int .i64 nz, .int .i64 step, .slice D ld cd, .slice A1 na qa, .slice B1 nb qb, .slice C1 nc qc, .slice F nf cf] 58))) := Lib.hid (by have h := RowL.new w #[.string name, .slice A la ca, .slice B lb cb, .slice Cl lc cl, .int .i64 r, .int .i64 z, .int .i64 nr, .int .i64 nz, .int .i64 step, .slice D ld cd, .slice A1 na qa, .slice B1 nb qb, .slice C1 nc qc, .slice F nf cf] 58; (try simp only [World.size_alloc] at h); exact h)
  have hB0 : Below w.heap.size w (w.alloc (.cells #[.string name, .slice A la ca, .slice B lb cb, .slice Cl lc cl, .int .i64 r, .int .i64 z, .int .i64 nr, .int .i64 nz, .int .i64 step, .slice D ld cd, .slice A1 na qa, .slice B1 nb qb, .slice C1 nc qc, .slice F nf cf] 58)) := by (with_reducible repeat first | exact Below.refl _ _ | assumption | ((first | refine Below.setCell ?_ ?_ _ | refine Below.alloc ?_ ?_ _); rotate_left; exact (by first | omega | (simp; done) | (simp; omega))) | refine Below.drew ?_ | refine Below_drewN ?_ _)
  have sW0 : w.heap.size < (w.alloc (.cells #[.string name, .slice A la ca, .slice B lb cb, .slice Cl lc cl, .int .i64 r, .int .i64 z, .int .i64 nr, .int .i64 nz, .int .i64 step, .slice D ld cd, .slice A1 na qa, .slice B1 nb qb, .slice C1 nc qc, .slice F nf cf] 58)).heap.size := by simp only [World.size_alloc]; omega
  obtain ⟨W0, hW0⟩ : ∃ W, (w.alloc (.cells #[.string name, .slice A la ca, .slice B lb cb, .slice Cl lc cl, .int .i64 r, .int .i64 z, .int .i64 nr, .int .i64 nz, .int .i64 step, .slice D ld cd, .slice A1 na qa, .slice B1 nb qb, .slice C1 nc qc, .slice F nf cf] 58)) = W := ⟨_, rfl⟩
  rw [hW0] at Fx hB0 sW0 ⊢
  clear hW0
  have x0 := Fx.out.cell 0 (.string name) rfl
  have x1 := Fx.out.cell 1 (.slice A la ca) rfl
  have x2 := Fx.out.cell 2 (.slice B lb cb) rfl
  have x3 := Fx.out.cell 3 (.slice Cl lc cl) rfl
  have x4 := Fx.out.cell 4 (.int .i64 r) rfl
  have x5 := Fx.out.cell 5 (.int .i64 z) rfl
  have x6 := Fx.out.cell 6 (.int .i64 nr) rfl
  have x7 := Fx.out.cell 7 (.int .i64 nz) rfl
  have x8 := Fx.out.cell 8 (.int .i64 step) rfl
  have x9 := Fx.out.cell 9 (.slice D ld cd) rfl
  have x10 := Fx.out.cell 10 (.slice A1 na qa) rfl
  have x11 := Fx.out.cell 11 (.slice B1 nb qb) rfl
  have x12 := Fx.out.cell 12 (.slice C1 nc qc) rfl
  have x13 := Fx.out.cell 13 (.slice F nf cf) rfl
  go_wp2_with fail
  refine (HB.out _).mono ?_
  rintro e w1 ⟨rfl, hb⟩
  have hB1 := hB0.trans (hb.mono hB0.size)
  clear hb
  go_wp2_with fail
  go_ret
  exact ⟨rfl, by (with_reducible repeat first | exact Below.refl _ _ | assumption | ((first | refine Below.setCell ?_ ?_ _ | refine Below.alloc ?_ ?_ _); rotate_left; exact (by first | omega | (simp; done) | (simp; omega))) | refine Below.drew ?_ | refine Below_drewN ?_ _)⟩

set_option maxRecDepth 100000 in
set_option maxHeartbeats 16000000 in
theorem common_walk (R : MachR) (M : MachD) (Qr : CurR) (Cd : CurD) (F : Option Addr) (nf cf : Nat) (zs : List SpanD) (sen cell cur : Int) (w : World)
    (hM : R.la ≤ 1000000000000000 → R.lb ≤ 1000000000000000 → R.lc ≤ 1000000000000000 → R.ld ≤ 1000000000000000 → IsM w R M) (hC : Qr.la ≤ 1000000000000000 → Qr.lb ≤ 1000000000000000 → Qr.lc ≤ 1000000000000000 → IsC w Qr Cd) (hF : IsT 2 SpanD.cells w F nf zs) :
    Calls Tryd.prog 5 #[.agg (machCells R M ++ #[.slice Qr.A Qr.la Qr.ca, .slice Qr.B Qr.lb Qr.cb, .slice Qr.C Qr.lc Qr.cc, .slice F nf cf]), .agg #[.int .i64 sen, .int .i64 cell, .int .i64 cur]] w (Ret (.bool true) w) := by
  have HLi := Lib.hid (fun W => light_any M.name R.A R.B R.C R.D Qr.A Qr.B Qr.C F R.la R.ca R.lb R.cb R.lc R.cc R.ld R.cd Qr.la Qr.ca Qr.lb Qr.cb Qr.lc Qr.cc nf cf M.grid.r M.grid.z M.grid.nr M.grid.nz M.grid.step W)
  cases hbr : briefB R.la R.lb R.lc R.ld Qr.la Qr.lb Qr.lc nf
  · rw [hbr] at HLi
    clear hM hC hF hbr
    obtain ⟨A, B, Cl, D, la, ca, lb, cb, lc, cl, ld, cd⟩ := R
    obtain ⟨name, coils, shells, limits, ⟨r, z, nr, nz, step⟩, sensors⟩ := M
    obtain ⟨A1, B1, C1, na, qa, nb, qb, nc, qc⟩ := Qr
    dsimp only at HLi
    show Calls Tryd.prog 5 #[.agg #[.string name, .slice A la ca, .slice B lb cb, .slice Cl lc cl, .int .i64 r, .int .i64 z, .int .i64 nr, .int .i64 nz, .int .i64 step, .slice D ld cd, .slice A1 na qa, .slice B1 nb qb, .slice C1 nc qc, .slice F nf cf], .agg #[.int .i64 sen, .int .i64 cell, .int .i64 cur]] w _
    go_enter Tryd.func5, Tryd.ntmps5
    go_upto_region 1 with (fail)
    have Fx : Hid (RowL (w.heap.size) [.string name, .slice A la ca, .slice B lb cb, .slice Cl lc cl, .int .i64 r, .int .i64 z, .int .i64 nr, .int .i64 nz, .int .i64 step, .slice D ld cd, .slice A1 na qa, .slice B1 nb qb, .slice C1 nc qc, .slice F nf cf] ((w.alloc (.cells #[.string name, .slice A la ca, .slice B lb cb, .slice Cl lc cl, .int .i64 r, .int .i64 z, .int .i64 nr, .int .i64 nz, .int .i64 step, .slice D ld cd, .slice A1 na qa, .slice B1 nb qb, .slice C1 nc qc, .slice F nf cf] 58)).alloc (.cells #[.int .i64 sen, .int .i64 cell, .int .i64 cur] 34))) := Lib.hid (by have h := RowL.new w #[.string name, .slice A la ca, .slice B lb cb, .slice Cl lc cl, .int .i64 r, .int .i64 z, .int .i64 nr, .int .i64 nz, .int .i64 step, .slice D ld cd, .slice A1 na qa, .slice B1 nb qb, .slice C1 nc qc, .slice F nf cf] 58; (try simp only [World.size_alloc] at h); exact (h.alloc _))
    have Fs : Hid (RowL (w.heap.size + 1) [.int .i64 sen, .int .i64 cell, .int .i64 cur] ((w.alloc (.cells #[.string name, .slice A la ca, .slice B lb cb, .slice Cl lc cl, .int .i64 r, .int .i64 z, .int .i64 nr, .int .i64 nz, .int .i64 step, .slice D ld cd, .slice A1 na qa, .slice B1 nb qb, .slice C1 nc qc, .slice F nf cf] 58)).alloc (.cells #[.int .i64 sen, .int .i64 cell, .int .i64 cur] 34))) := Lib.hid (by have h := RowL.new (w.alloc (.cells #[.string name, .slice A la ca, .slice B lb cb, .slice Cl lc cl, .int .i64 r, .int .i64 z, .int .i64 nr, .int .i64 nz, .int .i64 step, .slice D ld cd, .slice A1 na qa, .slice B1 nb qb, .slice C1 nc qc, .slice F nf cf] 58)) #[.int .i64 sen, .int .i64 cell, .int .i64 cur] 34; (try simp only [World.size_alloc] at h); exact h)
    have hB0 : Below w.heap.size w ((w.alloc (.cells #[.string name, .slice A la ca, .slice B lb cb, .slice Cl lc cl, .int .i64 r, .int .i64 z, .int .i64 nr, .int .i64 nz, .int .i64 step, .slice D ld cd, .slice A1 na qa, .slice B1 nb qb, .slice C1 nc qc, .slice F nf cf] 58)).alloc (.cells #[.int .i64 sen, .int .i64 cell, .int .i64 cur] 34)) := by (with_reducible repeat first | exact Below.refl _ _ | assumption | ((first | refine Below.setCell ?_ ?_ _ | refine Below.alloc ?_ ?_ _); rotate_left; exact (by first | omega | (simp; done) | (simp; omega))) | refine Below.drew ?_ | refine Below_drewN ?_ _)
    have sW0 : w.heap.size + 1 < ((w.alloc (.cells #[.string name, .slice A la ca, .slice B lb cb, .slice Cl lc cl, .int .i64 r, .int .i64 z, .int .i64 nr, .int .i64 nz, .int .i64 step, .slice D ld cd, .slice A1 na qa, .slice B1 nb qb, .slice C1 nc qc, .slice F nf cf] 58)).alloc (.cells #[.int .i64 sen, .int .i64 cell, .int .i64 cur] 34)).heap.size := by simp only [World.size_alloc]; omega
    obtain ⟨W0, hW0⟩ : ∃ W, ((w.alloc (.cells #[.string name, .slice A la ca, .slice B lb cb, .slice Cl lc cl, .int .i64 r, .int .i64 z, .int .i64 nr, .int .i64 nz, .int .i64 step, .slice D ld cd, .slice A1 na qa, .slice B1 nb qb, .slice C1 nc qc, .slice F nf cf] 58)).alloc (.cells #[.int .i64 sen, .int .i64 cell, .int .i64 cur] 34)) = W := ⟨_, rfl⟩
    rw [hW0] at Fx Fs hB0 sW0 ⊢
    clear hW0
    have x0 := Fx.out.cell 0 (.string name) rfl
    have x1 := Fx.out.cell 1 (.slice A la ca) rfl
    have x2 := Fx.out.cell 2 (.slice B lb cb) rfl
    have x3 := Fx.out.cell 3 (.slice Cl lc cl) rfl
    have x4 := Fx.out.cell 4 (.int .i64 r) rfl
    have x5 := Fx.out.cell 5 (.int .i64 z) rfl
    have x6 := Fx.out.cell 6 (.int .i64 nr) rfl
    have x7 := Fx.out.cell 7 (.int .i64 nz) rfl
    have x8 := Fx.out.cell 8 (.int .i64 step) rfl
    have x9 := Fx.out.cell 9 (.slice D ld cd) rfl
    have x10 := Fx.out.cell 10 (.slice A1 na qa) rfl
    have x11 := Fx.out.cell 11 (.slice B1 nb qb) rfl
    have x12 := Fx.out.cell 12 (.slice C1 nc qc) rfl
    have x13 := Fx.out.cell 13 (.slice F nf cf) rfl
    have s0 := Fs.out.cell 0 (.int .i64 sen) rfl
    have s1 := Fs.out.cell 1 (.int .i64 cell) rfl
    have s2 := Fs.out.cell 2 (.int .i64 cur) rfl
    go_wp2_with fail
    refine (HLi.out _).mono ?_
    rintro e w1 ⟨rfl, hb⟩
    have hB1 := hB0.trans (hb.mono hB0.size)
    clear hb
    go_wp2_with fail
    refine (awake_any _).mono ?_
    rintro e wz ⟨rfl, hb⟩
    have hBz := hB1.trans (hb.mono hB1.size)
    clear hb
    go_wp2_with fail
    go_ret
    exact ⟨rfl, by (with_reducible repeat first | exact Below.refl _ _ | assumption | ((first | refine Below.setCell ?_ ?_ _ | refine Below.alloc ?_ ?_ _); rotate_left; exact (by first | omega | (simp; done) | (simp; omega))) | refine Below.drew ?_ | refine Below_drewN ?_ _)⟩
  rw [hbr] at HLi
  obtain ⟨ka, kb, kc, kd, pa, pb, pc, pd⟩ := brief_bd hbr
  have hM := hM (by omega) (by omega) (by omega) (by omega)
  have hC := hC (by omega) (by omega) (by omega)
  have HC1 := Lib.hid (fun W (hb : Below w.heap.size w W) => candidates_any R M Qr Cd F nf cf zs W (hM.below hb) (hC.below hb) (hF.below hb) (by omega))
  have HA1 := Lib.hid (fun W (hb : Below w.heap.size w W) => agreeingX_any R M Qr Cd F nf cf zs cell cur W (hM.below hb) (hC.below hb) (hF.below hb) (by omega))
  by_cases hg : candE M Cd zs = 0 ∧ agE M Cd zs cell cur = 0
  rotate_left
  · clear hM hC hF hbr ka kb kc kd pa pb pc pd
    generalize candE M Cd zs = E1 at *
    generalize agE M Cd zs cell cur = E2 at *
    generalize candZ M Cd zs = Z1 at *
    generalize agZ M Cd zs cell cur = Z2 at *
    obtain ⟨A, B, Cl, D, la, ca, lb, cb, lc, cl, ld, cd⟩ := R
    obtain ⟨name, coils, shells, limits, ⟨r, z, nr, nz, step⟩, sensors⟩ := M
    obtain ⟨A1, B1, C1, na, qa, nb, qb, nc, qc⟩ := Qr
    dsimp only [CurR.v] at HLi HC1 HA1
    have HC := Lib.hid (show ∀ W, Below w.heap.size w W → Calls Tryd.prog 19 #[.agg #[.string name, .slice A la ca, .slice B lb cb, .slice Cl lc cl, .int .i64 r, .int .i64 z, .int .i64 nr, .int .i64 nz, .int .i64 step, .slice D ld cd], .agg #[.slice A1 na qa, .slice B1 nb qb, .slice C1 nc qc], .slice F nf cf] W (ListAt 3 pairCells Z1 E1 W) from HC1.out)
    have HA := Lib.hid (show ∀ W, Below w.heap.size w W → Calls Tryd.prog 20 #[.agg #[.string name, .slice A la ca, .slice B lb cb, .slice Cl lc cl, .int .i64 r, .int .i64 z, .int .i64 nr, .int .i64 nz, .int .i64 step, .slice D ld cd], .agg #[.slice A1 na qa, .slice B1 nb qb, .slice C1 nc qc], .slice F nf cf, .int .i64 cell, .int .i64 cur] W (ListAt 1 intCells Z2 E2 W) from HA1.out)
    clear HC1 HA1
    show Calls Tryd.prog 5 #[.agg #[.string name, .slice A la ca, .slice B lb cb, .slice Cl lc cl, .int .i64 r, .int .i64 z, .int .i64 nr, .int .i64 nz, .int .i64 step, .slice D ld cd, .slice A1 na qa, .slice B1 nb qb, .slice C1 nc qc, .slice F nf cf], .agg #[.int .i64 sen, .int .i64 cell, .int .i64 cur]] w _
    go_enter Tryd.func5, Tryd.ntmps5
    go_upto_region 1 with (fail)
    have Fx : Hid (RowL (w.heap.size) [.string name, .slice A la ca, .slice B lb cb, .slice Cl lc cl, .int .i64 r, .int .i64 z, .int .i64 nr, .int .i64 nz, .int .i64 step, .slice D ld cd, .slice A1 na qa, .slice B1 nb qb, .slice C1 nc qc, .slice F nf cf] ((w.alloc (.cells #[.string name, .slice A la ca, .slice B lb cb, .slice Cl lc cl, .int .i64 r, .int .i64 z, .int .i64 nr, .int .i64 nz, .int .i64 step, .slice D ld cd, .slice A1 na qa, .slice B1 nb qb, .slice C1 nc qc, .slice F nf cf] 58)).alloc (.cells #[.int .i64 sen, .int .i64 cell, .int .i64 cur] 34))) := Lib.hid (by have h := RowL.new w #[.string name, .slice A la ca, .slice B lb cb, .slice Cl lc cl, .int .i64 r, .int .i64 z, .int .i64 nr, .int .i64 nz, .int .i64 step, .slice D ld cd, .slice A1 na qa, .slice B1 nb qb, .slice C1 nc qc, .slice F nf cf] 58; (try simp only [World.size_alloc] at h); exact (h.alloc _))
    have Fs : Hid (RowL (w.heap.size + 1) [.int .i64 sen, .int .i64 cell, .int .i64 cur] ((w.alloc (.cells #[.string name, .slice A la ca, .slice B lb cb, .slice Cl lc cl, .int .i64 r, .int .i64 z, .int .i64 nr, .int .i64 nz, .int .i64 step, .slice D ld cd, .slice A1 na qa, .slice B1 nb qb, .slice C1 nc qc, .slice F nf cf] 58)).alloc (.cells #[.int .i64 sen, .int .i64 cell, .int .i64 cur] 34))) := Lib.hid (by have h := RowL.new (w.alloc (.cells #[.string name, .slice A la ca, .slice B lb cb, .slice Cl lc cl, .int .i64 r, .int .i64 z, .int .i64 nr, .int .i64 nz, .int .i64 step, .slice D ld cd, .slice A1 na qa, .slice B1 nb qb, .slice C1 nc qc, .slice F nf cf] 58)) #[.int .i64 sen, .int .i64 cell, .int .i64 cur] 34; (try simp only [World.size_alloc] at h); exact h)
    have hB0 : Below w.heap.size w ((w.alloc (.cells #[.string name, .slice A la ca, .slice B lb cb, .slice Cl lc cl, .int .i64 r, .int .i64 z, .int .i64 nr, .int .i64 nz, .int .i64 step, .slice D ld cd, .slice A1 na qa, .slice B1 nb qb, .slice C1 nc qc, .slice F nf cf] 58)).alloc (.cells #[.int .i64 sen, .int .i64 cell, .int .i64 cur] 34)) := by (with_reducible repeat first | exact Below.refl _ _ | assumption | ((first | refine Below.setCell ?_ ?_ _ | refine Below.alloc ?_ ?_ _); rotate_left; exact (by first | omega | (simp; done) | (simp; omega))) | refine Below.drew ?_ | refine Below_drewN ?_ _)
    have sW0 : w.heap.size + 1 < ((w.alloc (.cells #[.string name, .slice A la ca, .slice B lb cb, .slice Cl lc cl, .int .i64 r, .int .i64 z, .int .i64 nr, .int .i64 nz, .int .i64 step, .slice D ld cd, .slice A1 na qa, .slice B1 nb qb, .slice C1 nc qc, .slice F nf cf] 58)).alloc (.cells #[.int .i64 sen, .int .i64 cell, .int .i64 cur] 34)).heap.size := by simp only [World.size_alloc]; omega
    obtain ⟨W0, hW0⟩ : ∃ W, ((w.alloc (.cells #[.string name, .slice A la ca, .slice B lb cb, .slice Cl lc cl, .int .i64 r, .int .i64 z, .int .i64 nr, .int .i64 nz, .int .i64 step, .slice D ld cd, .slice A1 na qa, .slice B1 nb qb, .slice C1 nc qc, .slice F nf cf] 58)).alloc (.cells #[.int .i64 sen, .int .i64 cell, .int .i64 cur] 34)) = W := ⟨_, rfl⟩
    rw [hW0] at Fx Fs hB0 sW0 ⊢
    clear hW0
    have x0 := Fx.out.cell 0 (.string name) rfl
    have x1 := Fx.out.cell 1 (.slice A la ca) rfl
    have x2 := Fx.out.cell 2 (.slice B lb cb) rfl
    have x3 := Fx.out.cell 3 (.slice Cl lc cl) rfl
    have x4 := Fx.out.cell 4 (.int .i64 r) rfl
    have x5 := Fx.out.cell 5 (.int .i64 z) rfl
    have x6 := Fx.out.cell 6 (.int .i64 nr) rfl
    have x7 := Fx.out.cell 7 (.int .i64 nz) rfl
    have x8 := Fx.out.cell 8 (.int .i64 step) rfl
    have x9 := Fx.out.cell 9 (.slice D ld cd) rfl
    have x10 := Fx.out.cell 10 (.slice A1 na qa) rfl
    have x11 := Fx.out.cell 11 (.slice B1 nb qb) rfl
    have x12 := Fx.out.cell 12 (.slice C1 nc qc) rfl
    have x13 := Fx.out.cell 13 (.slice F nf cf) rfl
    have s0 := Fs.out.cell 0 (.int .i64 sen) rfl
    have s1 := Fs.out.cell 1 (.int .i64 cell) rfl
    have s2 := Fs.out.cell 2 (.int .i64 cur) rfl
    go_wp2_with fail
    refine (HLi.out _).mono ?_
    rintro e w1 ⟨rfl, hb⟩
    clear x0 x1 x2 x3 x4 x5 x6 x7 x8 x9 x10 x11 x12 x13 s0 s1 s2
    have Gx := Lib.hid (Fx.out.below hb)
    clear Fx
    have Fx := Lib.hid Gx.out
    clear Gx
    have Gs := Lib.hid (Fs.out.below hb)
    clear Fs
    have Fs := Lib.hid Gs.out
    clear Gs
    have x0 := Fx.out.cell 0 (.string name) rfl
    have x1 := Fx.out.cell 1 (.slice A la ca) rfl
    have x2 := Fx.out.cell 2 (.slice B lb cb) rfl
    have x3 := Fx.out.cell 3 (.slice Cl lc cl) rfl
    have x4 := Fx.out.cell 4 (.int .i64 r) rfl
    have x5 := Fx.out.cell 5 (.int .i64 z) rfl
    have x6 := Fx.out.cell 6 (.int .i64 nr) rfl
    have x7 := Fx.out.cell 7 (.int .i64 nz) rfl
    have x8 := Fx.out.cell 8 (.int .i64 step) rfl
    have x9 := Fx.out.cell 9 (.slice D ld cd) rfl
    have x10 := Fx.out.cell 10 (.slice A1 na qa) rfl
    have x11 := Fx.out.cell 11 (.slice B1 nb qb) rfl
    have x12 := Fx.out.cell 12 (.slice C1 nc qc) rfl
    have x13 := Fx.out.cell 13 (.slice F nf cf) rfl
    have s0 := Fs.out.cell 0 (.int .i64 sen) rfl
    have s1 := Fs.out.cell 1 (.int .i64 cell) rfl
    have s2 := Fs.out.cell 2 (.int .i64 cur) rfl
    have hB1 := hB0.trans (hb.mono hB0.size)
    clear hb hB0
    go_wp2_with fail
    refine (HC.out _ (by (with_reducible repeat first | exact Below.refl _ _ | assumption | ((first | refine Below.setCell ?_ ?_ _ | refine Below.alloc ?_ ?_ _); rotate_left; exact (by first | omega | (simp; done) | (simp; omega))) | refine Below.drew ?_ | refine Below_drewN ?_ _))).mono ?_
    rintro e w2 ⟨A9, c9, rfl, -, -, -, hb⟩
    clear x0 x1 x2 x3 x4 x5 x6 x7 x8 x9 x10 x11 x12 x13 s0 s1 s2
    have Gx := Lib.hid (Fx.out.below hb)
    clear Fx
    have Fx := Lib.hid Gx.out
    clear Gx
    have Gs := Lib.hid (Fs.out.below hb)
    clear Fs
    have Fs := Lib.hid Gs.out
    clear Gs
    have x0 := Fx.out.cell 0 (.string name) rfl
    have x1 := Fx.out.cell 1 (.slice A la ca) rfl
    have x2 := Fx.out.cell 2 (.slice B lb cb) rfl
    have x3 := Fx.out.cell 3 (.slice Cl lc cl) rfl
    have x4 := Fx.out.cell 4 (.int .i64 r) rfl
    have x5 := Fx.out.cell 5 (.int .i64 z) rfl
    have x6 := Fx.out.cell 6 (.int .i64 nr) rfl
    have x7 := Fx.out.cell 7 (.int .i64 nz) rfl
    have x8 := Fx.out.cell 8 (.int .i64 step) rfl
    have x9 := Fx.out.cell 9 (.slice D ld cd) rfl
    have x10 := Fx.out.cell 10 (.slice A1 na qa) rfl
    have x11 := Fx.out.cell 11 (.slice B1 nb qb) rfl
    have x12 := Fx.out.cell 12 (.slice C1 nc qc) rfl
    have x13 := Fx.out.cell 13 (.slice F nf cf) rfl
    have s0 := Fs.out.cell 0 (.int .i64 sen) rfl
    have s1 := Fs.out.cell 1 (.int .i64 cell) rfl
    have s2 := Fs.out.cell 2 (.int .i64 cur) rfl
    have hB2 := hB1.trans (hb.mono hB1.size)
    clear hb
    go_wp2_with fail
    refine (HA.out _ (by (with_reducible repeat first | exact Below.refl _ _ | assumption | ((first | refine Below.setCell ?_ ?_ _ | refine Below.alloc ?_ ?_ _); rotate_left; exact (by first | omega | (simp; done) | (simp; omega))) | refine Below.drew ?_ | refine Below_drewN ?_ _))).mono ?_
    rintro e w3 ⟨A8, c8, rfl, -, -, -, hb⟩
    have hB3 := hB2.trans (hb.mono hB2.size)
    clear hb HC HA x0 x1 x2 x3 x4 x5 x6 x7 x8 x9 x10 x11 x12 x13 s0 s1 s2 Fx Fs
    by_cases h1 : E1 = 0
    · have h2 : E2 ≠ 0 := fun e => hg ⟨h1, e⟩
      have h2b : (E2 != 0) = true := by rw [bne_iff_ne]; exact h2
      subst h1
      clear hg h2
      go_wp2_with fail
      refine (awake_any _).mono ?_
      rintro e wz ⟨rfl, hb⟩
      have hBz := hB3.trans (hb.mono hB3.size)
      clear hb
      go_wp2_with fail
      go_ret
      exact ⟨rfl, by (with_reducible repeat first | exact Below.refl _ _ | assumption | ((first | refine Below.setCell ?_ ?_ _ | refine Below.alloc ?_ ?_ _); rotate_left; exact (by first | omega | (simp; done) | (simp; omega))) | refine Below.drew ?_ | refine Below_drewN ?_ _)⟩
    · have h1b : (E1 != 0) = true := by rw [bne_iff_ne]; exact h1
      clear hg h1
      go_wp2_with fail
      refine (awake_any _).mono ?_
      rintro e wz ⟨rfl, hb⟩
      have hBz := hB3.trans (hb.mono hB3.size)
      clear hb
      go_wp2_with fail
      go_ret
      exact ⟨rfl, by (with_reducible repeat first | exact Below.refl _ _ | assumption | ((first | refine Below.setCell ?_ ?_ _ | refine Below.alloc ?_ ?_ _); rotate_left; exact (by first | omega | (simp; done) | (simp; omega))) | refine Below.drew ?_ | refine Below_drewN ?_ _)⟩
  · obtain ⟨g1, g2⟩ := hg
    have he : explB M Cd zs = true := by
      unfold candE at g1
      cases he : explB M Cd zs
      · rw [he] at g1; simp at g1
      · rfl
    have hi : inB Cd cell cur = true := by
      unfold agE at g2
      rw [he, if_pos rfl] at g2
      cases hi : inB Cd cell cur
      · rw [hi] at g2; simp at g2
      · rfl
    have hZ1 : candZ M Cd zs = candL M Cd zs := by unfold candZ; rw [he, if_pos rfl]
    have hZ2 : agZ M Cd zs cell cur = agL (clL M (bgL M Cd) zs cell) cur := by unfold agZ; rw [he, if_pos rfl, hi, if_pos rfl]
    rw [g1, hZ1] at HC1
    rw [g2, hZ2] at HA1
    have hzl := hF.1
    have hany := cand_any he hi
    rw [hzl] at hany
    have HAny := Lib.hid hany
    have HAld := Lib.hid (fun (k : Int) (hk : k ∈ agL (clL M (bgL M Cd) zs cell) cur) => (by
      obtain ⟨⟨a, b, e, h1, h2⟩, k0, k1⟩ := ald_of he hi hk
      refine ⟨a, b, h1, h2, fun W hb => ?_⟩
      have h := allowedX_any R M Qr Cd F nf cf zs k cell W (hM.below hb) (hC.below hb) (hF.below hb) (by omega) (by omega) (by omega)
      rw [e] at h
      exact h : ∃ a b : Int, a ≤ cur ∧ cur ≤ b ∧ ∀ W, Below w.heap.size w W → Calls Tryd.prog 21 #[.agg (machCells R M), Qr.v, .slice F nf cf, .int .i64 k, .int .i64 cell] W (Ret (.tuple #[.agg #[.int .i64 a, .int .i64 b], .int .i64 0]) W)))
    clear hM hC hF hbr ka kb kc kd pa pb pc g1 g2 he hi hZ1 hZ2 hany hzl
    generalize agL (clL M (bgL M Cd) zs cell) cur = ZK at *
    generalize candL M Cd zs = ZL at *
    obtain ⟨A, B, Cl, D, la, ca, lb, cb, lc, cl, ld, cd⟩ := R
    obtain ⟨name, coils, shells, limits, ⟨r, z, nr, nz, step⟩, sensors⟩ := M
    obtain ⟨A1, B1, C1, na, qa, nb, qb, nc, qc⟩ := Qr
    dsimp only [CurR.v] at *
    have HC := Lib.hid (show ∀ W, Below w.heap.size w W → Calls Tryd.prog 19 #[.agg #[.string name, .slice A la ca, .slice B lb cb, .slice Cl lc cl, .int .i64 r, .int .i64 z, .int .i64 nr, .int .i64 nz, .int .i64 step, .slice D ld cd], .agg #[.slice A1 na qa, .slice B1 nb qb, .slice C1 nc qc], .slice F nf cf] W (ListAt 3 pairCells ZL 0 W) from HC1.out)
    have HA := Lib.hid (show ∀ W, Below w.heap.size w W → Calls Tryd.prog 20 #[.agg #[.string name, .slice A la ca, .slice B lb cb, .slice Cl lc cl, .int .i64 r, .int .i64 z, .int .i64 nr, .int .i64 nz, .int .i64 step, .slice D ld cd], .agg #[.slice A1 na qa, .slice B1 nb qb, .slice C1 nc qc], .slice F nf cf, .int .i64 cell, .int .i64 cur] W (ListAt 1 intCells ZK 0 W) from HA1.out)
    have HAl := Lib.hid (show ∀ k : Int, k ∈ ZK → ∃ a b : Int, a ≤ cur ∧ cur ≤ b ∧ ∀ W, Below w.heap.size w W → Calls Tryd.prog 21 #[.agg #[.string name, .slice A la ca, .slice B lb cb, .slice Cl lc cl, .int .i64 r, .int .i64 z, .int .i64 nr, .int .i64 nz, .int .i64 step, .slice D ld cd], .agg #[.slice A1 na qa, .slice B1 nb qb, .slice C1 nc qc], .slice F nf cf, .int .i64 k, .int .i64 cell] W (Ret (.tuple #[.agg #[.int .i64 a, .int .i64 b], .int .i64 0]) W) from HAld.out)
    clear HC1 HA1 HAld
    show Calls Tryd.prog 5 #[.agg #[.string name, .slice A la ca, .slice B lb cb, .slice Cl lc cl, .int .i64 r, .int .i64 z, .int .i64 nr, .int .i64 nz, .int .i64 step, .slice D ld cd, .slice A1 na qa, .slice B1 nb qb, .slice C1 nc qc, .slice F nf cf], .agg #[.int .i64 sen, .int .i64 cell, .int .i64 cur]] w _
    go_enter Tryd.func5, Tryd.ntmps5
    go_upto_region 1 with (fail)
    have Fx : Hid (RowL (w.heap.size) [.string name, .slice A la ca, .slice B lb cb, .slice Cl lc cl, .int .i64 r, .int .i64 z, .int .i64 nr, .int .i64 nz, .int .i64 step, .slice D ld cd, .slice A1 na qa, .slice B1 nb qb, .slice C1 nc qc, .slice F nf cf] ((w.alloc (.cells #[.string name, .slice A la ca, .slice B lb cb, .slice Cl lc cl, .int .i64 r, .int .i64 z, .int .i64 nr, .int .i64 nz, .int .i64 step, .slice D ld cd, .slice A1 na qa, .slice B1 nb qb, .slice C1 nc qc, .slice F nf cf] 58)).alloc (.cells #[.int .i64 sen, .int .i64 cell, .int .i64 cur] 34))) := Lib.hid (by have h := RowL.new w #[.string name, .slice A la ca, .slice B lb cb, .slice Cl lc cl, .int .i64 r, .int .i64 z, .int .i64 nr, .int .i64 nz, .int .i64 step, .slice D ld cd, .slice A1 na qa, .slice B1 nb qb, .slice C1 nc qc, .slice F nf cf] 58; (try simp only [World.size_alloc] at h); exact (h.alloc _))
    have Fs : Hid (RowL (w.heap.size + 1) [.int .i64 sen, .int .i64 cell, .int .i64 cur] ((w.alloc (.cells #[.string name, .slice A la ca, .slice B lb cb, .slice Cl lc cl, .int .i64 r, .int .i64 z, .int .i64 nr, .int .i64 nz, .int .i64 step, .slice D ld cd, .slice A1 na qa, .slice B1 nb qb, .slice C1 nc qc, .slice F nf cf] 58)).alloc (.cells #[.int .i64 sen, .int .i64 cell, .int .i64 cur] 34))) := Lib.hid (by have h := RowL.new (w.alloc (.cells #[.string name, .slice A la ca, .slice B lb cb, .slice Cl lc cl, .int .i64 r, .int .i64 z, .int .i64 nr, .int .i64 nz, .int .i64 step, .slice D ld cd, .slice A1 na qa, .slice B1 nb qb, .slice C1 nc qc, .slice F nf cf] 58)) #[.int .i64 sen, .int .i64 cell, .int .i64 cur] 34; (try simp only [World.size_alloc] at h); exact h)
    have hB0 : Below w.heap.size w ((w.alloc (.cells #[.string name, .slice A la ca, .slice B lb cb, .slice Cl lc cl, .int .i64 r, .int .i64 z, .int .i64 nr, .int .i64 nz, .int .i64 step, .slice D ld cd, .slice A1 na qa, .slice B1 nb qb, .slice C1 nc qc, .slice F nf cf] 58)).alloc (.cells #[.int .i64 sen, .int .i64 cell, .int .i64 cur] 34)) := by (with_reducible repeat first | exact Below.refl _ _ | assumption | ((first | refine Below.setCell ?_ ?_ _ | refine Below.alloc ?_ ?_ _); rotate_left; exact (by first | omega | (simp; done) | (simp; omega))) | refine Below.drew ?_ | refine Below_drewN ?_ _)
    have sW0 : w.heap.size + 1 < ((w.alloc (.cells #[.string name, .slice A la ca, .slice B lb cb, .slice Cl lc cl, .int .i64 r, .int .i64 z, .int .i64 nr, .int .i64 nz, .int .i64 step, .slice D ld cd, .slice A1 na qa, .slice B1 nb qb, .slice C1 nc qc, .slice F nf cf] 58)).alloc (.cells #[.int .i64 sen, .int .i64 cell, .int .i64 cur] 34)).heap.size := by simp only [World.size_alloc]; omega
    obtain ⟨W0, hW0⟩ : ∃ W, ((w.alloc (.cells #[.string name, .slice A la ca, .slice B lb cb, .slice Cl lc cl, .int .i64 r, .int .i64 z, .int .i64 nr, .int .i64 nz, .int .i64 step, .slice D ld cd, .slice A1 na qa, .slice B1 nb qb, .slice C1 nc qc, .slice F nf cf] 58)).alloc (.cells #[.int .i64 sen, .int .i64 cell, .int .i64 cur] 34)) = W := ⟨_, rfl⟩
    rw [hW0] at Fx Fs hB0 sW0 ⊢
    clear hW0
    have x0 := Fx.out.cell 0 (.string name) rfl
    have x1 := Fx.out.cell 1 (.slice A la ca) rfl
    have x2 := Fx.out.cell 2 (.slice B lb cb) rfl
    have x3 := Fx.out.cell 3 (.slice Cl lc cl) rfl
    have x4 := Fx.out.cell 4 (.int .i64 r) rfl
    have x5 := Fx.out.cell 5 (.int .i64 z) rfl
    have x6 := Fx.out.cell 6 (.int .i64 nr) rfl
    have x7 := Fx.out.cell 7 (.int .i64 nz) rfl
    have x8 := Fx.out.cell 8 (.int .i64 step) rfl
    have x9 := Fx.out.cell 9 (.slice D ld cd) rfl
    have x10 := Fx.out.cell 10 (.slice A1 na qa) rfl
    have x11 := Fx.out.cell 11 (.slice B1 nb qb) rfl
    have x12 := Fx.out.cell 12 (.slice C1 nc qc) rfl
    have x13 := Fx.out.cell 13 (.slice F nf cf) rfl
    have s0 := Fs.out.cell 0 (.int .i64 sen) rfl
    have s1 := Fs.out.cell 1 (.int .i64 cell) rfl
    have s2 := Fs.out.cell 2 (.int .i64 cur) rfl
    go_wp2_with fail
    refine (HLi.out _).mono ?_
    rintro e w1 ⟨rfl, hb⟩
    clear x0 x1 x2 x3 x4 x5 x6 x7 x8 x9 x10 x11 x12 x13 s0 s1 s2
    have Gx := Lib.hid (Fx.out.below hb)
    clear Fx
    have Fx := Lib.hid Gx.out
    clear Gx
    have Gs := Lib.hid (Fs.out.below hb)
    clear Fs
    have Fs := Lib.hid Gs.out
    clear Gs
    have x0 := Fx.out.cell 0 (.string name) rfl
    have x1 := Fx.out.cell 1 (.slice A la ca) rfl
    have x2 := Fx.out.cell 2 (.slice B lb cb) rfl
    have x3 := Fx.out.cell 3 (.slice Cl lc cl) rfl
    have x4 := Fx.out.cell 4 (.int .i64 r) rfl
    have x5 := Fx.out.cell 5 (.int .i64 z) rfl
    have x6 := Fx.out.cell 6 (.int .i64 nr) rfl
    have x7 := Fx.out.cell 7 (.int .i64 nz) rfl
    have x8 := Fx.out.cell 8 (.int .i64 step) rfl
    have x9 := Fx.out.cell 9 (.slice D ld cd) rfl
    have x10 := Fx.out.cell 10 (.slice A1 na qa) rfl
    have x11 := Fx.out.cell 11 (.slice B1 nb qb) rfl
    have x12 := Fx.out.cell 12 (.slice C1 nc qc) rfl
    have x13 := Fx.out.cell 13 (.slice F nf cf) rfl
    have s0 := Fs.out.cell 0 (.int .i64 sen) rfl
    have s1 := Fs.out.cell 1 (.int .i64 cell) rfl
    have s2 := Fs.out.cell 2 (.int .i64 cur) rfl
    have hB1 := hB0.trans (hb.mono hB0.size)
    clear hb hB0
    go_wp2_with fail
    refine (HC.out _ (by (with_reducible repeat first | exact Below.refl _ _ | assumption | ((first | refine Below.setCell ?_ ?_ _ | refine Below.alloc ?_ ?_ _); rotate_left; exact (by first | omega | (simp; done) | (simp; omega))) | refine Below.drew ?_ | refine Below_drewN ?_ _))).mono ?_
    rintro e w2 ⟨LA, lcap, rfl, hIL, hl1, hl2, hb⟩
    unfold maxLen at hl2
    have hlz : ZL.length ≤ 9223372036854775807 := by omega
    clear hl1 hl2
    clear x0 x1 x2 x3 x4 x5 x6 x7 x8 x9 x10 x11 x12 x13 s0 s1 s2
    have Gx := Lib.hid (Fx.out.below hb)
    clear Fx
    have Fx := Lib.hid Gx.out
    clear Gx
    have Gs := Lib.hid (Fs.out.below hb)
    clear Fs
    have Fs := Lib.hid Gs.out
    clear Gs
    have x0 := Fx.out.cell 0 (.string name) rfl
    have x1 := Fx.out.cell 1 (.slice A la ca) rfl
    have x2 := Fx.out.cell 2 (.slice B lb cb) rfl
    have x3 := Fx.out.cell 3 (.slice Cl lc cl) rfl
    have x4 := Fx.out.cell 4 (.int .i64 r) rfl
    have x5 := Fx.out.cell 5 (.int .i64 z) rfl
    have x6 := Fx.out.cell 6 (.int .i64 nr) rfl
    have x7 := Fx.out.cell 7 (.int .i64 nz) rfl
    have x8 := Fx.out.cell 8 (.int .i64 step) rfl
    have x9 := Fx.out.cell 9 (.slice D ld cd) rfl
    have x10 := Fx.out.cell 10 (.slice A1 na qa) rfl
    have x11 := Fx.out.cell 11 (.slice B1 nb qb) rfl
    have x12 := Fx.out.cell 12 (.slice C1 nc qc) rfl
    have x13 := Fx.out.cell 13 (.slice F nf cf) rfl
    have s0 := Fs.out.cell 0 (.int .i64 sen) rfl
    have s1 := Fs.out.cell 1 (.int .i64 cell) rfl
    have s2 := Fs.out.cell 2 (.int .i64 cur) rfl
    have hB2 := hB1.trans (hb.mono hB1.size)
    have HIL := Lib.hid hIL
    clear hb hIL
    go_wp2_with fail
    refine (HA.out _ (by (with_reducible repeat first | exact Below.refl _ _ | assumption | ((first | refine Below.setCell ?_ ?_ _ | refine Below.alloc ?_ ?_ _); rotate_left; exact (by first | omega | (simp; done) | (simp; omega))) | refine Below.drew ?_ | refine Below_drewN ?_ _))).mono ?_
    rintro e w3 ⟨KA, kcap, rfl, hIK, hk1, hk2, hb⟩
    unfold maxLen at hk2
    have hkz : ZK.length ≤ 9223372036854775807 := by omega
    clear hk1 hk2
    clear x0 x1 x2 x3 x4 x5 x6 x7 x8 x9 x10 x11 x12 x13 s0 s1 s2
    have Gx := Lib.hid (Fx.out.below hb)
    clear Fx
    have Fx := Lib.hid Gx.out
    clear Gx
    have Gs := Lib.hid (Fs.out.below hb)
    clear Fs
    have Fs := Lib.hid Gs.out
    clear Gs
    have x0 := Fx.out.cell 0 (.string name) rfl
    have x1 := Fx.out.cell 1 (.slice A la ca) rfl
    have x2 := Fx.out.cell 2 (.slice B lb cb) rfl
    have x3 := Fx.out.cell 3 (.slice Cl lc cl) rfl
    have x4 := Fx.out.cell 4 (.int .i64 r) rfl
    have x5 := Fx.out.cell 5 (.int .i64 z) rfl
    have x6 := Fx.out.cell 6 (.int .i64 nr) rfl
    have x7 := Fx.out.cell 7 (.int .i64 nz) rfl
    have x8 := Fx.out.cell 8 (.int .i64 step) rfl
    have x9 := Fx.out.cell 9 (.slice D ld cd) rfl
    have x10 := Fx.out.cell 10 (.slice A1 na qa) rfl
    have x11 := Fx.out.cell 11 (.slice B1 nb qb) rfl
    have x12 := Fx.out.cell 12 (.slice C1 nc qc) rfl
    have x13 := Fx.out.cell 13 (.slice F nf cf) rfl
    have s0 := Fs.out.cell 0 (.int .i64 sen) rfl
    have s1 := Fs.out.cell 1 (.int .i64 cell) rfl
    have s2 := Fs.out.cell 2 (.int .i64 cur) rfl
    have hB3 := hB2.trans (hb.mono hB2.size)
    have HIK := Lib.hid hIK
    have HLL := Lib.hid (HIL.out.below hb)
    have hz3 : w.heap.size + 1 < w3.heap.size := Fs.out.lt
    have hy3 : w.heap.size < w3.heap.size := by omega
    clear hb hIK HC HA HIL x0 x1 x2 x3 x4 x5 x6 x7 x8 x9 x10 x11 x12 x13 s0 s1 s2
    go_wp2_with fail
    go_loopw [9, 10] (fun s9 i wx => ∃ n : Nat, n ≤ ZL.length ∧ i = .int .i64 n ∧ s9 = .bool ((ZL.take n).any (inP cell cur)) ∧ Below w3.heap.size w3 wx) (fun _ i _ => ZL.length - (intOf i).toNat)
    case atStart => exact ⟨0, Nat.zero_le _, rfl, rfl, by (with_reducible repeat first | exact Below.refl _ _ | assumption | ((first | refine Below.setCell ?_ ?_ _ | refine Below.alloc ?_ ?_ _); rotate_left; exact (by first | omega | (simp; done) | (simp; omega))) | refine Below.drew ?_ | refine Below_drewN ?_ _)⟩
    case round =>
      obtain ⟨n, hn, rfl, rfl, hY⟩ := hrel
      have sY := hY.size
      have nn : ((n : Int)).toNat = n := by omega
      have n0 : (0 : Int) ≤ n := by omega
      have hzr : w.heap.size + 1 < wr.heap.size := by omega
      have hyr : w.heap.size < wr.heap.size := by omega
      by_cases hnl : n < ZL.length
      · obtain ⟨-, hcl⟩ := HLL.out.below hY
        obtain ⟨bl, ol, rfl, hbl, hcL⟩ := hcl (by omega)
        obtain ⟨y, hy⟩ : ∃ y, ZL[n]? = some y := ⟨_, List.getElem?_eq_getElem hnl⟩
        have a1 := (Fs.out.below hY).cell 1 (.int .i64 cell) rfl
        have a2 := (Fs.out.below hY).cell 2 (.int .i64 cur) rfl
        have c0 : wr.cell? ⟨bl, ol + n * 3, none⟩ = some (.int .i64 y.1) := by have h := hcL n _ hy 0 _ rfl; simpa using h
        have c1 : wr.cell? ⟨bl, ol + n * 3 + 1, none⟩ = some (.int .i64 y.2.1) := by have h := hcL n _ hy 1 _ rfl; simpa using h
        have c2 : wr.cell? ⟨bl, ol + n * 3 + 2, none⟩ = some (.int .i64 y.2.2) := by have h := hcL n _ hy 2 _ rfl; simpa using h
        have HS := Lib.hid (any_snoc (inP cell cur) hy)
        obtain ⟨y1, y2, y3⟩ := y
        dsimp only at c0 c1 c2
        clear hcl hcL hy
        generalize (ZL.take n).any (inP cell cur) = q at *
        cases q
        · by_cases d1 : y1 = cell
          · subst d1
            by_cases d2 : y2 ≤ cur
            · by_cases d3 : cur ≤ y3
              · have b2 : decide (y2 ≤ cur) = true := decide_eq_true d2
                have b3 : decide (cur ≤ y3) = true := decide_eq_true d3
                have HN : Hid ((ZL.take (n + 1)).any (inP y1 cur) = true) := Lib.hid (by rw [HS.out]; simp [inP, *])
                clear HS
                go_wp2_with fail
                go_quiet (fail)
                go_wp2_with fail
                go_roundw
                case rel => exact ⟨n + 1, by omega, by go_num, by rw [HN.out], by (with_reducible repeat first | exact Below.refl _ _ | assumption | ((first | refine Below.setCell ?_ ?_ _ | refine Below.alloc ?_ ?_ _); rotate_left; exact (by first | omega | (simp; done) | (simp; omega))) | refine Below.drew ?_ | refine Below_drewN ?_ _)⟩
                case measure => simp [intOf]; omega
              · have b2 : decide (y2 ≤ cur) = true := decide_eq_true d2
                have b3 : decide (cur ≤ y3) = false := decide_eq_false d3
                have HN : Hid ((ZL.take (n + 1)).any (inP y1 cur) = false) := Lib.hid (by rw [HS.out]; simp [inP, *])
                clear HS
                go_wp2_with fail
                go_quiet (fail)
                go_wp2_with fail
                go_roundw
                case rel => exact ⟨n + 1, by omega, by go_num, by rw [HN.out], by (with_reducible repeat first | exact Below.refl _ _ | assumption | ((first | refine Below.setCell ?_ ?_ _ | refine Below.alloc ?_ ?_ _); rotate_left; exact (by first | omega | (simp; done) | (simp; omega))) | refine Below.drew ?_ | refine Below_drewN ?_ _)⟩
                case measure => simp [intOf]; omega
            · have b2 : decide (y2 ≤ cur) = false := decide_eq_false d2
              have HN : Hid ((ZL.take (n + 1)).any (inP y1 cur) = false) := Lib.hid (by rw [HS.out]; simp [inP, *])
              clear HS
              go_wp2_with fail
              go_quiet (fail)
              go_wp2_with fail
              go_roundw
              case rel => exact ⟨n + 1, by omega, by go_num, by rw [HN.out], by (with_reducible repeat first | exact Below.refl _ _ | assumption | ((first | refine Below.setCell ?_ ?_ _ | refine Below.alloc ?_ ?_ _); rotate_left; exact (by first | omega | (simp; done) | (simp; omega))) | refine Below.drew ?_ | refine Below_drewN ?_ _)⟩
              case measure => simp [intOf]; omega
          · have b1 : (y1 == cell) = false := by rw [beq_eq_false_iff_ne]; exact d1
            have HN : Hid ((ZL.take (n + 1)).any (inP cell cur) = false) := Lib.hid (by rw [HS.out]; simp [inP, *])
            clear HS
            go_wp2_with fail
            go_quiet (fail)
            go_wp2_with fail
            go_roundw
            case rel => exact ⟨n + 1, by omega, by go_num, by rw [HN.out], by (with_reducible repeat first | exact Below.refl _ _ | assumption | ((first | refine Below.setCell ?_ ?_ _ | refine Below.alloc ?_ ?_ _); rotate_left; exact (by first | omega | (simp; done) | (simp; omega))) | refine Below.drew ?_ | refine Below_drewN ?_ _)⟩
            case measure => simp [intOf]; omega
        · have HN : Hid ((ZL.take (n + 1)).any (inP cell cur) = true) := Lib.hid (by rw [HS.out]; simp [inP, *])
          clear HS
          go_wp2_with fail
          go_quiet (fail)
          go_wp2_with fail
          go_roundw
          case rel => exact ⟨n + 1, by omega, by go_num, by rw [HN.out], by (with_reducible repeat first | exact Below.refl _ _ | assumption | ((first | refine Below.setCell ?_ ?_ _ | refine Below.alloc ?_ ?_ _); rotate_left; exact (by first | omega | (simp; done) | (simp; omega))) | refine Below.drew ?_ | refine Below_drewN ?_ _)⟩
          case measure => simp [intOf]; omega
      · obtain rfl : n = ZL.length := by omega
        rw [List.take_of_length_le (Nat.le_refl _), HAny.out]
        have x13 := (Fx.out.below hY).cell 13 (.slice F nf cf) rfl
        by_cases hq : ZK.length = nf
        · have q1 : decide (ZK.length = nf) = true := decide_eq_true hq
          have q2 := (int_eq ZK.length nf).trans q1
          rw [q1]
          clear q1 hq
          go_wp2_with fail
          clear q2 x13
          go_loopw [11] (fun i wx => ∃ k : Nat, k ≤ ZK.length ∧ i = .int .i64 k ∧ Below w3.heap.size w3 wx) (fun i _ => ZK.length - (intOf i).toNat)
          case atStart => exact ⟨0, Nat.zero_le _, rfl, by (with_reducible repeat first | exact Below.refl _ _ | assumption | ((first | refine Below.setCell ?_ ?_ _ | refine Below.alloc ?_ ?_ _); rotate_left; exact (by first | omega | (simp; done) | (simp; omega))) | refine Below.drew ?_ | refine Below_drewN ?_ _)⟩
          case round =>
            clear hY sY hzr hyr
            obtain ⟨k, hk, rfl, hX⟩ := hrel
            have sX := hX.size
            have kn : ((k : Int)).toNat = k := by omega
            have k0 : (0 : Int) ≤ k := by omega
            have hzr : w.heap.size + 1 < wr.heap.size := by omega
            have hyr : w.heap.size < wr.heap.size := by omega
            by_cases hkl : k < ZK.length
            · obtain ⟨-, hck⟩ := HIK.out.below hX
              obtain ⟨bk, ok, rfl, hbk, hcK⟩ := hck (by omega)
              obtain ⟨v, hv⟩ : ∃ v, ZK[k]? = some v := ⟨_, List.getElem?_eq_getElem hkl⟩
              have e0 : wr.cell? ⟨bk, ok + k, none⟩ = some (.int .i64 v) := by have h := hcK k _ hv 0 _ rfl; simpa using h
              obtain ⟨a, b, ha, hb', HAlk⟩ := HAl.out v (List.mem_of_getElem? hv)
              have HK := Lib.hid HAlk
              have hbkr : bk < wr.heap.size := hbk
              have x0 := (Fx.out.below hX).cell 0 (.string name) rfl
              have x1 := (Fx.out.below hX).cell 1 (.slice A la ca) rfl
              have x2 := (Fx.out.below hX).cell 2 (.slice B lb cb) rfl
              have x3 := (Fx.out.below hX).cell 3 (.slice Cl lc cl) rfl
              have x4 := (Fx.out.below hX).cell 4 (.int .i64 r) rfl
              have x5 := (Fx.out.below hX).cell 5 (.int .i64 z) rfl
              have x6 := (Fx.out.below hX).cell 6 (.int .i64 nr) rfl
              have x7 := (Fx.out.below hX).cell 7 (.int .i64 nz) rfl
              have x8 := (Fx.out.below hX).cell 8 (.int .i64 step) rfl
              have x9 := (Fx.out.below hX).cell 9 (.slice D ld cd) rfl
              have x10 := (Fx.out.below hX).cell 10 (.slice A1 na qa) rfl
              have x11 := (Fx.out.below hX).cell 11 (.slice B1 nb qb) rfl
              have x12 := (Fx.out.below hX).cell 12 (.slice C1 nc qc) rfl
              have x13 := (Fx.out.below hX).cell 13 (.slice F nf cf) rfl
              have s0 := (Fs.out.below hX).cell 0 (.int .i64 sen) rfl
              have s1 := (Fs.out.below hX).cell 1 (.int .i64 cell) rfl
              have s2 := (Fs.out.below hX).cell 2 (.int .i64 cur) rfl
              clear hck hcK hv HAlk
              have hBX := hB3.trans (hX.mono hB3.size)
              go_wp2_with fail
              go_cut [12, 13] (fun s12 s13 wx => ∃ y : Nat, s12 = .pointer (some ⟨y, 0, none⟩) ∧ s13 = .int .i64 0 ∧ wx.cell? ⟨y, 0, none⟩ = some (.int .i64 a) ∧ wx.cell? ⟨y, 1, none⟩ = some (.int .i64 b) ∧ y < wx.heap.size ∧ Below wr.heap.size wr wx)
              case first =>
                have HS : Hid (∀ w' : World, Reg (wr.heap.size) (wr) w' → (Reg (wr.heap.size) (wr) w' ∧ w'.cell? ⟨w.heap.size, 0, none⟩ = some (.string name) ∧ w'.cell? ⟨w.heap.size, 1, none⟩ = some (.slice A la ca) ∧ w'.cell? ⟨w.heap.size, 2, none⟩ = some (.slice B lb cb) ∧ w'.cell? ⟨w.heap.size, 3, none⟩ = some (.slice Cl lc cl) ∧ w'.cell? ⟨w.heap.size, 4, none⟩ = some (.int .i64 r) ∧ w'.cell? ⟨w.heap.size, 5, none⟩ = some (.int .i64 z) ∧ w'.cell? ⟨w.heap.size, 6, none⟩ = some (.int .i64 nr) ∧ w'.cell? ⟨w.heap.size, 7, none⟩ = some (.int .i64 nz) ∧ w'.cell? ⟨w.heap.size, 8, none⟩ = some (.int .i64 step) ∧ w'.cell? ⟨w.heap.size, 9, none⟩ = some (.slice D ld cd) ∧ w'.cell? ⟨w.heap.size, 10, none⟩ = some (.slice A1 na qa) ∧ w'.cell? ⟨w.heap.size, 11, none⟩ = some (.slice B1 nb qb) ∧ w'.cell? ⟨w.heap.size, 12, none⟩ = some (.slice C1 nc qc) ∧ w'.cell? ⟨w.heap.size, 13, none⟩ = some (.slice F nf cf) ∧ w'.cell? ⟨w.heap.size + 1, 0, none⟩ = some (.int .i64 sen) ∧ w'.cell? ⟨w.heap.size + 1, 1, none⟩ = some (.int .i64 cell) ∧ w'.cell? ⟨w.heap.size + 1, 2, none⟩ = some (.int .i64 cur) ∧ w'.cell? ⟨bk, ok + k, none⟩ = some (.int .i64 v))) := (fun w' h => by (have hc := h.cells; have hs := h.some; have hf := h.frozen; refine ⟨h, ?_⟩; (try simp only [World.size_alloc, World.size_setCell, size_drew, size_drewN] at hc hs hf); first | (simp (disch := omega) only [hc, hs, hf, cur_iff]; (try go_simp); done) | (simp (disch := first | omega | (simp; done)) only [hc, hs, hf, cur_iff]; (try go_simp); done) | (simp (maxDischargeDepth := 4) [hc, hs, hf, cur_iff, go_sem]; done) | (go_simp; done) | (simp (maxDischargeDepth := 4) [hc, hs, hf, cur_iff, go_sem]; go_simp))); go_region_held3 (fun w' => Reg (wr.heap.size) (wr) w' ∧ w'.cell? ⟨w.heap.size, 0, none⟩ = some (.string name) ∧ w'.cell? ⟨w.heap.size, 1, none⟩ = some (.slice A la ca) ∧ w'.cell? ⟨w.heap.size, 2, none⟩ = some (.slice B lb cb) ∧ w'.cell? ⟨w.heap.size, 3, none⟩ = some (.slice Cl lc cl) ∧ w'.cell? ⟨w.heap.size, 4, none⟩ = some (.int .i64 r) ∧ w'.cell? ⟨w.heap.size, 5, none⟩ = some (.int .i64 z) ∧ w'.cell? ⟨w.heap.size, 6, none⟩ = some (.int .i64 nr) ∧ w'.cell? ⟨w.heap.size, 7, none⟩ = some (.int .i64 nz) ∧ w'.cell? ⟨w.heap.size, 8, none⟩ = some (.int .i64 step) ∧ w'.cell? ⟨w.heap.size, 9, none⟩ = some (.slice D ld cd) ∧ w'.cell? ⟨w.heap.size, 10, none⟩ = some (.slice A1 na qa) ∧ w'.cell? ⟨w.heap.size, 11, none⟩ = some (.slice B1 nb qb) ∧ w'.cell? ⟨w.heap.size, 12, none⟩ = some (.slice C1 nc qc) ∧ w'.cell? ⟨w.heap.size, 13, none⟩ = some (.slice F nf cf) ∧ w'.cell? ⟨w.heap.size + 1, 0, none⟩ = some (.int .i64 sen) ∧ w'.cell? ⟨w.heap.size + 1, 1, none⟩ = some (.int .i64 cell) ∧ w'.cell? ⟨w.heap.size + 1, 2, none⟩ = some (.int .i64 cur) ∧ w'.cell? ⟨bk, ok + k, none⟩ = some (.int .i64 v)) (exact HS.out _ (by (repeat first | with_reducible exact Reg.refl _ _ | with_reducible exact Reg.drewN2 _ _ _ _ | with_reducible exact (‹Reg _ _ _ ∧ _›).1 | (with_reducible refine Reg.setCell ?_ ?_ _; rotate_left; exact (by first | omega | ((try simp only [World.size_alloc, World.size_setCell, size_drew, size_drewN]); omega) | (simp; done) | (simp; omega))) | with_reducible refine Reg.alloc ?_ _ | with_reducible refine Reg.drew ?_ | with_reducible refine Reg.drewN ?_ _ | (with_reducible apply Reg.call; rotate_left; with_reducible assumption)))) (first | (go_at_call 21; (with_reducible refine (HK.out _ (Reg.out (‹Reg _ _ _ ∧ _›).1 hBX (by first | omega | (simp; done) | (simp; omega)))).mono ?_); rintro e w8 ⟨rfl, hb8⟩; have hb := hb8; (first | (with_reducible have hk := Nat.lt_of_lt_of_le (size_alloc_lt _ _) hb.size) | (with_reducible have hk := Nat.lt_of_lt_of_le (size_alloc_drew_lt _ _) hb.size) | (with_reducible have hk := Nat.lt_of_lt_of_le hk hb.size) | skip); (try simp only [World.size_alloc, World.size_setCell, size_drew, size_drewN] at hk); obtain ⟨hc, hf⟩ := bcell hb; have hs := hb.size; (try simp only [World.size_alloc, World.size_setCell, size_drew, size_drewN] at hs); clear hb))
                all_goals go_wp2_with fail
                all_goals go_meet
                all_goals exact ⟨_, rfl, rfl, by go_simp, by go_simp, (by first | omega | ((try simp only [World.size_alloc, World.size_setCell, size_drew, size_drewN]); omega) | (simp; done) | (simp; omega)), by first | ((with_reducible repeat first | exact Below.refl _ _ | assumption | ((first | refine Below.setCell ?_ ?_ _ | refine Below.alloc ?_ ?_ _); rotate_left; exact (by first | omega | (simp; done) | (simp; omega))) | refine Below.drew ?_ | refine Below_drewN ?_ _); done) | exact (Reg.out (‹Reg _ _ _ ∧ _›).1 (Below.refl _ _) (Nat.le_refl _))⟩
              case rest =>
                obtain ⟨y, rfl, rfl, y0, y1, hyl, hbx⟩ := hcut
                have d1 : decide (cur < a) = false := decide_eq_false (by omega)
                have d2 : decide (b < cur) = false := decide_eq_false (by omega)
                have a2 := ((Fs.out.below hX).below hbx).cell 2 (.int .i64 cur) rfl
                have hBn := hX.trans (hbx.mono hX.size)
                clear x0 x1 x2 x3 x4 x5 x6 x7 x8 x9 x10 x11 x12 x13 s0 s1 s2 e0 HK
                go_wp2_with fail
                go_roundw
                case rel => exact ⟨k + 1, by omega, by go_num, by (with_reducible repeat first | exact Below.refl _ _ | assumption | ((first | refine Below.setCell ?_ ?_ _ | refine Below.alloc ?_ ?_ _); rotate_left; exact (by first | omega | (simp; done) | (simp; omega))) | refine Below.drew ?_ | refine Below_drewN ?_ _)⟩
                case measure => simp [intOf]; omega
            · have hBX := hB3.trans (hX.mono hB3.size)
              go_wp2_with fail
              refine (awake_any _).mono ?_
              rintro e wz ⟨rfl, hb⟩
              have hBz := hBX.trans (hb.mono hBX.size)
              clear hb
              go_wp2_with fail
              go_ret
              exact ⟨rfl, by (with_reducible repeat first | exact Below.refl _ _ | assumption | ((first | refine Below.setCell ?_ ?_ _ | refine Below.alloc ?_ ?_ _); rotate_left; exact (by first | omega | (simp; done) | (simp; omega))) | refine Below.drew ?_ | refine Below_drewN ?_ _)⟩
        · have q1 : decide (ZK.length = nf) = false := decide_eq_false hq
          have q2 := (int_eq ZK.length nf).trans q1
          rw [q1]
          clear q1 hq
          go_wp2_with fail
          clear q2 x13
          go_loopw [11] (fun i wx => ∃ k : Nat, k ≤ ZK.length ∧ i = .int .i64 k ∧ Below w3.heap.size w3 wx) (fun i _ => ZK.length - (intOf i).toNat)
          case atStart => exact ⟨0, Nat.zero_le _, rfl, by (with_reducible repeat first | exact Below.refl _ _ | assumption | ((first | refine Below.setCell ?_ ?_ _ | refine Below.alloc ?_ ?_ _); rotate_left; exact (by first | omega | (simp; done) | (simp; omega))) | refine Below.drew ?_ | refine Below_drewN ?_ _)⟩
          case round =>
            clear hY sY hzr hyr
            obtain ⟨k, hk, rfl, hX⟩ := hrel
            have sX := hX.size
            have kn : ((k : Int)).toNat = k := by omega
            have k0 : (0 : Int) ≤ k := by omega
            have hzr : w.heap.size + 1 < wr.heap.size := by omega
            have hyr : w.heap.size < wr.heap.size := by omega
            by_cases hkl : k < ZK.length
            · obtain ⟨-, hck⟩ := HIK.out.below hX
              obtain ⟨bk, ok, rfl, hbk, hcK⟩ := hck (by omega)
              obtain ⟨v, hv⟩ : ∃ v, ZK[k]? = some v := ⟨_, List.getElem?_eq_getElem hkl⟩
              have e0 : wr.cell? ⟨bk, ok + k, none⟩ = some (.int .i64 v) := by have h := hcK k _ hv 0 _ rfl; simpa using h
              obtain ⟨a, b, ha, hb', HAlk⟩ := HAl.out v (List.mem_of_getElem? hv)
              have HK := Lib.hid HAlk
              have hbkr : bk < wr.heap.size := hbk
              have x0 := (Fx.out.below hX).cell 0 (.string name) rfl
              have x1 := (Fx.out.below hX).cell 1 (.slice A la ca) rfl
              have x2 := (Fx.out.below hX).cell 2 (.slice B lb cb) rfl
              have x3 := (Fx.out.below hX).cell 3 (.slice Cl lc cl) rfl
              have x4 := (Fx.out.below hX).cell 4 (.int .i64 r) rfl
              have x5 := (Fx.out.below hX).cell 5 (.int .i64 z) rfl
              have x6 := (Fx.out.below hX).cell 6 (.int .i64 nr) rfl
              have x7 := (Fx.out.below hX).cell 7 (.int .i64 nz) rfl
              have x8 := (Fx.out.below hX).cell 8 (.int .i64 step) rfl
              have x9 := (Fx.out.below hX).cell 9 (.slice D ld cd) rfl
              have x10 := (Fx.out.below hX).cell 10 (.slice A1 na qa) rfl
              have x11 := (Fx.out.below hX).cell 11 (.slice B1 nb qb) rfl
              have x12 := (Fx.out.below hX).cell 12 (.slice C1 nc qc) rfl
              have x13 := (Fx.out.below hX).cell 13 (.slice F nf cf) rfl
              have s0 := (Fs.out.below hX).cell 0 (.int .i64 sen) rfl
              have s1 := (Fs.out.below hX).cell 1 (.int .i64 cell) rfl
              have s2 := (Fs.out.below hX).cell 2 (.int .i64 cur) rfl
              clear hck hcK hv HAlk
              have hBX := hB3.trans (hX.mono hB3.size)
              go_wp2_with fail
              go_cut [12, 13] (fun s12 s13 wx => ∃ y : Nat, s12 = .pointer (some ⟨y, 0, none⟩) ∧ s13 = .int .i64 0 ∧ wx.cell? ⟨y, 0, none⟩ = some (.int .i64 a) ∧ wx.cell? ⟨y, 1, none⟩ = some (.int .i64 b) ∧ y < wx.heap.size ∧ Below wr.heap.size wr wx)
              case first =>
                have HS : Hid (∀ w' : World, Reg (wr.heap.size) (wr) w' → (Reg (wr.heap.size) (wr) w' ∧ w'.cell? ⟨w.heap.size, 0, none⟩ = some (.string name) ∧ w'.cell? ⟨w.heap.size, 1, none⟩ = some (.slice A la ca) ∧ w'.cell? ⟨w.heap.size, 2, none⟩ = some (.slice B lb cb) ∧ w'.cell? ⟨w.heap.size, 3, none⟩ = some (.slice Cl lc cl) ∧ w'.cell? ⟨w.heap.size, 4, none⟩ = some (.int .i64 r) ∧ w'.cell? ⟨w.heap.size, 5, none⟩ = some (.int .i64 z) ∧ w'.cell? ⟨w.heap.size, 6, none⟩ = some (.int .i64 nr) ∧ w'.cell? ⟨w.heap.size, 7, none⟩ = some (.int .i64 nz) ∧ w'.cell? ⟨w.heap.size, 8, none⟩ = some (.int .i64 step) ∧ w'.cell? ⟨w.heap.size, 9, none⟩ = some (.slice D ld cd) ∧ w'.cell? ⟨w.heap.size, 10, none⟩ = some (.slice A1 na qa) ∧ w'.cell? ⟨w.heap.size, 11, none⟩ = some (.slice B1 nb qb) ∧ w'.cell? ⟨w.heap.size, 12, none⟩ = some (.slice C1 nc qc) ∧ w'.cell? ⟨w.heap.size, 13, none⟩ = some (.slice F nf cf) ∧ w'.cell? ⟨w.heap.size + 1, 0, none⟩ = some (.int .i64 sen) ∧ w'.cell? ⟨w.heap.size + 1, 1, none⟩ = some (.int .i64 cell) ∧ w'.cell? ⟨w.heap.size + 1, 2, none⟩ = some (.int .i64 cur) ∧ w'.cell? ⟨bk, ok + k, none⟩ = some (.int .i64 v))) := (fun w' h => by (have hc := h.cells; have hs := h.some; have hf := h.frozen; refine ⟨h, ?_⟩; (try simp only [World.size_alloc, World.size_setCell, size_drew, size_drewN] at hc hs hf); first | (simp (disch := omega) only [hc, hs, hf, cur_iff]; (try go_simp); done) | (simp (disch := first | omega | (simp; done)) only [hc, hs, hf, cur_iff]; (try go_simp); done) | (simp (maxDischargeDepth := 4) [hc, hs, hf, cur_iff, go_sem]; done) | (go_simp; done) | (simp (maxDischargeDepth := 4) [hc, hs, hf, cur_iff, go_sem]; go_simp))); go_region_held3 (fun w' => Reg (wr.heap.size) (wr) w' ∧ w'.cell? ⟨w.heap.size, 0, none⟩ = some (.string name) ∧ w'.cell? ⟨w.heap.size, 1, none⟩ = some (.slice A la ca) ∧ w'.cell? ⟨w.heap.size, 2, none⟩ = some (.slice B lb cb) ∧ w'.cell? ⟨w.heap.size, 3, none⟩ = some (.slice Cl lc cl) ∧ w'.cell? ⟨w.heap.size, 4, none⟩ = some (.int .i64 r) ∧ w'.cell? ⟨w.heap.size, 5, none⟩ = some (.int .i64 z) ∧ w'.cell? ⟨w.heap.size, 6, none⟩ = some (.int .i64 nr) ∧ w'.cell? ⟨w.heap.size, 7, none⟩ = some (.int .i64 nz) ∧ w'.cell? ⟨w.heap.size, 8, none⟩ = some (.int .i64 step) ∧ w'.cell? ⟨w.heap.size, 9, none⟩ = some (.slice D ld cd) ∧ w'.cell? ⟨w.heap.size, 10, none⟩ = some (.slice A1 na qa) ∧ w'.cell? ⟨w.heap.size, 11, none⟩ = some (.slice B1 nb qb) ∧ w'.cell? ⟨w.heap.size, 12, none⟩ = some (.slice C1 nc qc) ∧ w'.cell? ⟨w.heap.size, 13, none⟩ = some (.slice F nf cf) ∧ w'.cell? ⟨w.heap.size + 1, 0, none⟩ = some (.int .i64 sen) ∧ w'.cell? ⟨w.heap.size + 1, 1, none⟩ = some (.int .i64 cell) ∧ w'.cell? ⟨w.heap.size + 1, 2, none⟩ = some (.int .i64 cur) ∧ w'.cell? ⟨bk, ok + k, none⟩ = some (.int .i64 v)) (exact HS.out _ (by (repeat first | with_reducible exact Reg.refl _ _ | with_reducible exact Reg.drewN2 _ _ _ _ | with_reducible exact (‹Reg _ _ _ ∧ _›).1 | (with_reducible refine Reg.setCell ?_ ?_ _; rotate_left; exact (by first | omega | ((try simp only [World.size_alloc, World.size_setCell, size_drew, size_drewN]); omega) | (simp; done) | (simp; omega))) | with_reducible refine Reg.alloc ?_ _ | with_reducible refine Reg.drew ?_ | with_reducible refine Reg.drewN ?_ _ | (with_reducible apply Reg.call; rotate_left; with_reducible assumption)))) (first | (go_at_call 21; (with_reducible refine (HK.out _ (Reg.out (‹Reg _ _ _ ∧ _›).1 hBX (by first | omega | (simp; done) | (simp; omega)))).mono ?_); rintro e w8 ⟨rfl, hb8⟩; have hb := hb8; (first | (with_reducible have hk := Nat.lt_of_lt_of_le (size_alloc_lt _ _) hb.size) | (with_reducible have hk := Nat.lt_of_lt_of_le (size_alloc_drew_lt _ _) hb.size) | (with_reducible have hk := Nat.lt_of_lt_of_le hk hb.size) | skip); (try simp only [World.size_alloc, World.size_setCell, size_drew, size_drewN] at hk); obtain ⟨hc, hf⟩ := bcell hb; have hs := hb.size; (try simp only [World.size_alloc, World.size_setCell, size_drew, size_drewN] at hs); clear hb))
                all_goals go_wp2_with fail
                all_goals go_meet
                all_goals exact ⟨_, rfl, rfl, by go_simp, by go_simp, (by first | omega | ((try simp only [World.size_alloc, World.size_setCell, size_drew, size_drewN]); omega) | (simp; done) | (simp; omega)), by first | ((with_reducible repeat first | exact Below.refl _ _ | assumption | ((first | refine Below.setCell ?_ ?_ _ | refine Below.alloc ?_ ?_ _); rotate_left; exact (by first | omega | (simp; done) | (simp; omega))) | refine Below.drew ?_ | refine Below_drewN ?_ _); done) | exact (Reg.out (‹Reg _ _ _ ∧ _›).1 (Below.refl _ _) (Nat.le_refl _))⟩
              case rest =>
                obtain ⟨y, rfl, rfl, y0, y1, hyl, hbx⟩ := hcut
                have d1 : decide (cur < a) = false := decide_eq_false (by omega)
                have d2 : decide (b < cur) = false := decide_eq_false (by omega)
                have a2 := ((Fs.out.below hX).below hbx).cell 2 (.int .i64 cur) rfl
                have hBn := hX.trans (hbx.mono hX.size)
                clear x0 x1 x2 x3 x4 x5 x6 x7 x8 x9 x10 x11 x12 x13 s0 s1 s2 e0 HK
                go_wp2_with fail
                go_roundw
                case rel => exact ⟨k + 1, by omega, by go_num, by (with_reducible repeat first | exact Below.refl _ _ | assumption | ((first | refine Below.setCell ?_ ?_ _ | refine Below.alloc ?_ ?_ _); rotate_left; exact (by first | omega | (simp; done) | (simp; omega))) | refine Below.drew ?_ | refine Below_drewN ?_ _)⟩
                case measure => simp [intOf]; omega
            · have hBX := hB3.trans (hX.mono hB3.size)
              go_wp2_with fail
              refine (awake_any _).mono ?_
              rintro e wz ⟨rfl, hb⟩
              have hBz := hBX.trans (hb.mono hBX.size)
              clear hb
              go_wp2_with fail
              go_ret
              exact ⟨rfl, by (with_reducible repeat first | exact Below.refl _ _ | assumption | ((first | refine Below.setCell ?_ ?_ _ | refine Below.alloc ?_ ?_ _); rotate_left; exact (by first | omega | (simp; done) | (simp; omega))) | refine Below.drew ?_ | refine Below_drewN ?_ _)⟩

end Go.Proofs.YtfpjhobhmcfpnaaDoor
end
