import Derived.Test.YtfpjhobhmcfpnaaDoorJAY
import Derived.Test.YtfpjhobhmcfpnaaDoorJBA
import Derived.Test.YtfpjhobhmcfpnaaDoorJBD
import Derived.Test.YtfpjhobhmcfpnaaDoorJBE
import Derived.Test.YtfpjhobhmcfpnaaDoorJBG
section
/- Package sense: Allowed, over this seat's translation (written by mk_ald.py). -/
namespace Go.Proofs.YtfpjhobhmcfpnaaDoor
set_option linter.unusedVariables false
set_option linter.unusedSimpArgs false
open Go.RowKit Go.Shelf

/-- What Allowed answers. -/
def aldL (M : MachD) (C : CurD) (zs : List SpanD) (s cell : Int) : Int × Int × Int :=
  if explB M C zs = true then if (respL M s cell).2 = 0 then
    if vld (allowL (zs.getD s.toNat ⟨0, 0⟩).lo (zs.getD s.toNat ⟨0, 0⟩).hi (backL M C s).1 (respL M s cell).1).1 (allowL (zs.getD s.toNat ⟨0, 0⟩).lo (zs.getD s.toNat ⟨0, 0⟩).hi (backL M C s).1 (respL M s cell).1).2 = true
    then ((allowL (zs.getD s.toNat ⟨0, 0⟩).lo (zs.getD s.toNat ⟨0, 0⟩).hi (backL M C s).1 (respL M s cell).1).1, (allowL (zs.getD s.toNat ⟨0, 0⟩).lo (zs.getD s.toNat ⟨0, 0⟩).hi (backL M C s).1 (respL M s cell).1).2, 0) else (0, 0, 8)
  else (0, 0, (respL M s cell).2) else (0, 0, 1)
theorem respL_in {M : MachD} {s cell : Int} (h : (respL M s cell).2 = 0) : checkC M = 0 ∧ wthn s 0 ((M.sensors.length : Int) - 1) = true ∧ (cellL M cell).2.2 = 0 := by
  unfold respL at h
  by_cases hc : (cellL M cell).2.2 = 0
  · rw [if_pos hc] at h
    refine ⟨cellL_check hc, ?_, hc⟩
    cases hs : wthn s 0 ((M.sensors.length : Int) - 1)
    · rw [hs] at h; simp at h
    · rfl
  · rw [if_neg hc] at h
    exact absurd h hc

set_option maxRecDepth 100000 in
set_option maxHeartbeats 8000000 in
theorem allowedX_any (R : MachR) (M : MachD) (Qr : CurR) (Cd : CurD) (F : Option Addr) (nf cf : Nat) (zs : List SpanD) (s cell : Int) (w : World) (hM : IsM w R M) (hC : IsC w Qr Cd) (hF : IsT 2 SpanD.cells w F nf zs) (hn : nf ≤ 1000000000000000) (i0 : -9223372036854775808 ≤ s) (i1 : s ≤ 9223372036854775807) :
    Calls Tryd.prog 21 #[.agg (machCells R M), Qr.v, .slice F nf cf, .int .i64 s, .int .i64 cell] w (Ret (.tuple #[.agg #[.int .i64 (aldL M Cd zs s cell).1, .int .i64 (aldL M Cd zs s cell).2.1], .int .i64 (aldL M Cd zs s cell).2.2]) w) := by
  have HE0 := Lib.hid (fun W (hb : Below w.heap.size w W) => explainable_any R M Qr Cd F nf cf zs W (hM.below hb) (hC.below hb) (hF.below hb) hn)
  unfold aldL
  cases he : explB M Cd zs
  · rw [he] at HE0
    rw [if_neg (by decide)]
    clear hM hC hF he
    obtain ⟨A, B, Cl, D, la, ca, lb, cb, lc, cl, ld, cd⟩ := R
    obtain ⟨name, coils, shells, limits, ⟨r, z, nr, nz, step⟩, sensors⟩ := M
    obtain ⟨A1, B1, C1, na, qa, nb, qb, nc, qc⟩ := Qr
    dsimp only [CurR.v] at *
    have HE := Lib.hid (show ∀ W, Below w.heap.size w W → Calls Tryd.prog 43 #[.agg #[.string name, .slice A la ca, .slice B lb cb, .slice Cl lc cl, .int .i64 r, .int .i64 z, .int .i64 nr, .int .i64 nz, .int .i64 step, .slice D ld cd], .agg #[.slice A1 na qa, .slice B1 nb qb, .slice C1 nc qc], .slice F nf cf] W (Ret (.bool false) W) from HE0.out)
    clear HE0
    show Calls Tryd.prog 21 #[.agg #[.string name, .slice A la ca, .slice B lb cb, .slice Cl lc cl, .int .i64 r, .int .i64 z, .int .i64 nr, .int .i64 nz, .int .i64 step, .slice D ld cd], .agg #[.slice A1 na qa, .slice B1 nb qb, .slice C1 nc qc], .slice F nf cf, .int .i64 s, .int .i64 cell] w _
    go_enter Tryd.func21, Tryd.ntmps21
    go_upto_region 1 with (fail)
    have Fm : Hid (RowL (w.heap.size) [.string name, .slice A la ca, .slice B lb cb, .slice Cl lc cl, .int .i64 r, .int .i64 z, .int .i64 nr, .int .i64 nz, .int .i64 step, .slice D ld cd] (((w.alloc (.cells #[.string name, .slice A la ca, .slice B lb cb, .slice Cl lc cl, .int .i64 r, .int .i64 z, .int .i64 nr, .int .i64 nz, .int .i64 step, .slice D ld cd] 29)).alloc (.cells #[.slice A1 na qa, .slice B1 nb qb, .slice C1 nc qc] 32)).alloc (.cells #[.int .i64 0, .int .i64 0] 66))) := Lib.hid (by have h := RowL.new w #[.string name, .slice A la ca, .slice B lb cb, .slice Cl lc cl, .int .i64 r, .int .i64 z, .int .i64 nr, .int .i64 nz, .int .i64 step, .slice D ld cd] 29; (try simp only [World.size_alloc] at h); exact ((h.alloc _).alloc _))
    have Fc : Hid (RowL (w.heap.size + 1) [.slice A1 na qa, .slice B1 nb qb, .slice C1 nc qc] (((w.alloc (.cells #[.string name, .slice A la ca, .slice B lb cb, .slice Cl lc cl, .int .i64 r, .int .i64 z, .int .i64 nr, .int .i64 nz, .int .i64 step, .slice D ld cd] 29)).alloc (.cells #[.slice A1 na qa, .slice B1 nb qb, .slice C1 nc qc] 32)).alloc (.cells #[.int .i64 0, .int .i64 0] 66))) := Lib.hid (by have h := RowL.new (w.alloc (.cells #[.string name, .slice A la ca, .slice B lb cb, .slice Cl lc cl, .int .i64 r, .int .i64 z, .int .i64 nr, .int .i64 nz, .int .i64 step, .slice D ld cd] 29)) #[.slice A1 na qa, .slice B1 nb qb, .slice C1 nc qc] 32; (try simp only [World.size_alloc] at h); exact (h.alloc _))
    have Ft : Hid (RowL (w.heap.size + 1 + 1) [.int .i64 0, .int .i64 0] (((w.alloc (.cells #[.string name, .slice A la ca, .slice B lb cb, .slice Cl lc cl, .int .i64 r, .int .i64 z, .int .i64 nr, .int .i64 nz, .int .i64 step, .slice D ld cd] 29)).alloc (.cells #[.slice A1 na qa, .slice B1 nb qb, .slice C1 nc qc] 32)).alloc (.cells #[.int .i64 0, .int .i64 0] 66))) := Lib.hid (by have h := RowL.new ((w.alloc (.cells #[.string name, .slice A la ca, .slice B lb cb, .slice Cl lc cl, .int .i64 r, .int .i64 z, .int .i64 nr, .int .i64 nz, .int .i64 step, .slice D ld cd] 29)).alloc (.cells #[.slice A1 na qa, .slice B1 nb qb, .slice C1 nc qc] 32)) #[.int .i64 0, .int .i64 0] 66; (try simp only [World.size_alloc] at h); exact h)
    have hB0 : Below w.heap.size w (((w.alloc (.cells #[.string name, .slice A la ca, .slice B lb cb, .slice Cl lc cl, .int .i64 r, .int .i64 z, .int .i64 nr, .int .i64 nz, .int .i64 step, .slice D ld cd] 29)).alloc (.cells #[.slice A1 na qa, .slice B1 nb qb, .slice C1 nc qc] 32)).alloc (.cells #[.int .i64 0, .int .i64 0] 66)) := by (with_reducible repeat first | exact Below.refl _ _ | assumption | ((first | refine Below.setCell ?_ ?_ _ | refine Below.alloc ?_ ?_ _); rotate_left; exact (by first | omega | (simp; done) | (simp; omega))) | refine Below.drew ?_ | refine Below_drewN ?_ _)
    have sW0 : w.heap.size + 1 + 1 < (((w.alloc (.cells #[.string name, .slice A la ca, .slice B lb cb, .slice Cl lc cl, .int .i64 r, .int .i64 z, .int .i64 nr, .int .i64 nz, .int .i64 step, .slice D ld cd] 29)).alloc (.cells #[.slice A1 na qa, .slice B1 nb qb, .slice C1 nc qc] 32)).alloc (.cells #[.int .i64 0, .int .i64 0] 66)).heap.size := by simp only [World.size_alloc]; omega
    obtain ⟨W0, hW0⟩ : ∃ W, (((w.alloc (.cells #[.string name, .slice A la ca, .slice B lb cb, .slice Cl lc cl, .int .i64 r, .int .i64 z, .int .i64 nr, .int .i64 nz, .int .i64 step, .slice D ld cd] 29)).alloc (.cells #[.slice A1 na qa, .slice B1 nb qb, .slice C1 nc qc] 32)).alloc (.cells #[.int .i64 0, .int .i64 0] 66)) = W := ⟨_, rfl⟩
    rw [hW0] at Fm Fc Ft hB0 sW0 ⊢
    clear hW0
    have m0 := Fm.out.cell 0 (.string name) rfl
    have m1 := Fm.out.cell 1 (.slice A la ca) rfl
    have m2 := Fm.out.cell 2 (.slice B lb cb) rfl
    have m3 := Fm.out.cell 3 (.slice Cl lc cl) rfl
    have m4 := Fm.out.cell 4 (.int .i64 r) rfl
    have m5 := Fm.out.cell 5 (.int .i64 z) rfl
    have m6 := Fm.out.cell 6 (.int .i64 nr) rfl
    have m7 := Fm.out.cell 7 (.int .i64 nz) rfl
    have m8 := Fm.out.cell 8 (.int .i64 step) rfl
    have m9 := Fm.out.cell 9 (.slice D ld cd) rfl
    have c0 := Fc.out.cell 0 (.slice A1 na qa) rfl
    have c1 := Fc.out.cell 1 (.slice B1 nb qb) rfl
    have c2 := Fc.out.cell 2 (.slice C1 nc qc) rfl
    have t0 := Ft.out.cell 0 (.int .i64 0) rfl
    have tf0 := Ft.out.mark 0 (by simp)
    have t1 := Ft.out.cell 1 (.int .i64 0) rfl
    have tf1 := Ft.out.mark 1 (by simp)
    go_wp2_with fail
    refine (HE.out _ hB0).mono ?_
    rintro e w1 ⟨rfl, hb⟩
    clear m0 m1 m2 m3 m4 m5 m6 m7 m8 m9 c0 c1 c2 t0 tf0 t1 tf1
    have Gm := Lib.hid (Fm.out.below hb)
    clear Fm
    have Fm := Lib.hid Gm.out
    clear Gm
    have Gc := Lib.hid (Fc.out.below hb)
    clear Fc
    have Fc := Lib.hid Gc.out
    clear Gc
    have Gt := Lib.hid (Ft.out.below hb)
    clear Ft
    have Ft := Lib.hid Gt.out
    clear Gt
    have m0 := Fm.out.cell 0 (.string name) rfl
    have m1 := Fm.out.cell 1 (.slice A la ca) rfl
    have m2 := Fm.out.cell 2 (.slice B lb cb) rfl
    have m3 := Fm.out.cell 3 (.slice Cl lc cl) rfl
    have m4 := Fm.out.cell 4 (.int .i64 r) rfl
    have m5 := Fm.out.cell 5 (.int .i64 z) rfl
    have m6 := Fm.out.cell 6 (.int .i64 nr) rfl
    have m7 := Fm.out.cell 7 (.int .i64 nz) rfl
    have m8 := Fm.out.cell 8 (.int .i64 step) rfl
    have m9 := Fm.out.cell 9 (.slice D ld cd) rfl
    have c0 := Fc.out.cell 0 (.slice A1 na qa) rfl
    have c1 := Fc.out.cell 1 (.slice B1 nb qb) rfl
    have c2 := Fc.out.cell 2 (.slice C1 nc qc) rfl
    have t0 := Ft.out.cell 0 (.int .i64 0) rfl
    have tf0 := Ft.out.mark 0 (by simp)
    have t1 := Ft.out.cell 1 (.int .i64 0) rfl
    have tf1 := Ft.out.mark 1 (by simp)
    have hBw1 := hB0.trans (hb.mono hB0.size)
    have hzw1 : w.heap.size + 1 + 1 < w1.heap.size := Nat.lt_of_lt_of_le (by assumption) hb.size
    have hyw1 : w.heap.size + 1 < w1.heap.size := by omega
    clear hb
    clear hB0 HE
    go_wp2_with fail
    exact bodyPost_ret (res3p Tryd.results21 _ _ _ _ _ _ rfl rfl (by go_simp) (by go_simp)) rfl ⟨rfl, by (with_reducible repeat first | exact Below.refl _ _ | assumption | ((first | refine Below.setCell ?_ ?_ _ | refine Below.alloc ?_ ?_ _); rotate_left; exact (by first | omega | (simp; done) | (simp; omega))) | refine Below.drew ?_ | refine Below_drewN ?_ _)⟩
  rw [he] at HE0
  rw [if_pos rfl]
  have HR0 := Lib.hid (fun W (hb : Below w.heap.size w W) => response_any R M s cell W (hM.below hb))
  by_cases hr : (respL M s cell).2 = 0
  rotate_left
  · rw [if_neg hr]
    clear hM hC hF he
    generalize respL M s cell = G at *
    obtain ⟨g1, g2⟩ := G
    dsimp only at *
    have hgb : (g2 != 0) = true := by rw [bne_iff_ne]; exact hr
    clear hr
    obtain ⟨A, B, Cl, D, la, ca, lb, cb, lc, cl, ld, cd⟩ := R
    obtain ⟨name, coils, shells, limits, ⟨r, z, nr, nz, step⟩, sensors⟩ := M
    obtain ⟨A1, B1, C1, na, qa, nb, qb, nc, qc⟩ := Qr
    dsimp only [CurR.v] at *
    have HE := Lib.hid (show ∀ W, Below w.heap.size w W → Calls Tryd.prog 43 #[.agg #[.string name, .slice A la ca, .slice B lb cb, .slice Cl lc cl, .int .i64 r, .int .i64 z, .int .i64 nr, .int .i64 nz, .int .i64 step, .slice D ld cd], .agg #[.slice A1 na qa, .slice B1 nb qb, .slice C1 nc qc], .slice F nf cf] W (Ret (.bool true) W) from HE0.out)
    clear HE0
    have HR := Lib.hid (show ∀ W, Below w.heap.size w W → Calls Tryd.prog 10 #[.agg #[.string name, .slice A la ca, .slice B lb cb, .slice Cl lc cl, .int .i64 r, .int .i64 z, .int .i64 nr, .int .i64 nz, .int .i64 step, .slice D ld cd], .int .i64 s, .int .i64 cell] W (Ret (.tuple #[.int .i64 g1, .int .i64 g2]) W) from HR0.out)
    clear HR0
    show Calls Tryd.prog 21 #[.agg #[.string name, .slice A la ca, .slice B lb cb, .slice Cl lc cl, .int .i64 r, .int .i64 z, .int .i64 nr, .int .i64 nz, .int .i64 step, .slice D ld cd], .agg #[.slice A1 na qa, .slice B1 nb qb, .slice C1 nc qc], .slice F nf cf, .int .i64 s, .int .i64 cell] w _
    go_enter Tryd.func21, Tryd.ntmps21
    go_upto_region 1 with (fail)
    have Fm : Hid (RowL (w.heap.size) [.string name, .slice A la ca, .slice B lb cb, .slice Cl lc cl, .int .i64 r, .int .i64 z, .int .i64 nr, .int .i64 nz, .int .i64 step, .slice D ld cd] (((w.alloc (.cells #[.string name, .slice A la ca, .slice B lb cb, .slice Cl lc cl, .int .i64 r, .int .i64 z, .int .i64 nr, .int .i64 nz, .int .i64 step, .slice D ld cd] 29)).alloc (.cells #[.slice A1 na qa, .slice B1 nb qb, .slice C1 nc qc] 32)).alloc (.cells #[.int .i64 0, .int .i64 0] 66))) := Lib.hid (by have h := RowL.new w #[.string name, .slice A la ca, .slice B lb cb, .slice Cl lc cl, .int .i64 r, .int .i64 z, .int .i64 nr, .int .i64 nz, .int .i64 step, .slice D ld cd] 29; (try simp only [World.size_alloc] at h); exact ((h.alloc _).alloc _))
    have Fc : Hid (RowL (w.heap.size + 1) [.slice A1 na qa, .slice B1 nb qb, .slice C1 nc qc] (((w.alloc (.cells #[.string name, .slice A la ca, .slice B lb cb, .slice Cl lc cl, .int .i64 r, .int .i64 z, .int .i64 nr, .int .i64 nz, .int .i64 step, .slice D ld cd] 29)).alloc (.cells #[.slice A1 na qa, .slice B1 nb qb, .slice C1 nc qc] 32)).alloc (.cells #[.int .i64 0, .int .i64 0] 66))) := Lib.hid (by have h := RowL.new (w.alloc (.cells #[.string name, .slice A la ca, .slice B lb cb, .slice Cl lc cl, .int .i64 r, .int .i64 z, .int .i64 nr, .int .i64 nz, .int .i64 step, .slice D ld cd] 29)) #[.slice A1 na qa, .slice B1 nb qb, .slice C1 nc qc] 32; (try simp only [World.size_alloc] at h); exact (h.alloc _))
    have Ft : Hid (RowL (w.heap.size + 1 + 1) [.int .i64 0, .int .i64 0] (((w.alloc (.cells #[.string name, .slice A la ca, .slice B lb cb, .slice Cl lc cl, .int .i64 r, .int .i64 z, .int .i64 nr, .int .i64 nz, .int .i64 step, .slice D ld cd] 29)).alloc (.cells #[.slice A1 na qa, .slice B1 nb qb, .slice C1 nc qc] 32)).alloc (.cells #[.int .i64 0, .int .i64 0] 66))) := Lib.hid (by have h := RowL.new ((w.alloc (.cells #[.string name, .slice A la ca, .slice B lb cb, .slice Cl lc cl, .int .i64 r, .int .i64 z, .int .i64 nr, .int .i64 nz, .int .i64 step, .slice D ld cd] 29)).alloc (.cells #[.slice A1 na qa, .slice B1 nb qb, .slice C1 nc qc] 32)) #[.int .i64 0, .int .i64 0] 66; (try simp only [World.size_alloc] at h); exact h)
    have hB0 : Below w.heap.size w (((w.alloc (.cells #[.string name, .slice A la ca, .slice B lb cb, .slice Cl lc cl, .int .i64 r, .int .i64 z, .int .i64 nr, .int .i64 nz, .int .i64 step, .slice D ld cd] 29)).alloc (.cells #[.slice A1 na qa, .slice B1 nb qb, .slice C1 nc qc] 32)).alloc (.cells #[.int .i64 0, .int .i64 0] 66)) := by (with_reducible repeat first | exact Below.refl _ _ | assumption | ((first | refine Below.setCell ?_ ?_ _ | refine Below.alloc ?_ ?_ _); rotate_left; exact (by first | omega | (simp; done) | (simp; omega))) | refine Below.drew ?_ | refine Below_drewN ?_ _)
    have sW0 : w.heap.size + 1 + 1 < (((w.alloc (.cells #[.string name, .slice A la ca, .slice B lb cb, .slice Cl lc cl, .int .i64 r, .int .i64 z, .int .i64 nr, .int .i64 nz, .int .i64 step, .slice D ld cd] 29)).alloc (.cells #[.slice A1 na qa, .slice B1 nb qb, .slice C1 nc qc] 32)).alloc (.cells #[.int .i64 0, .int .i64 0] 66)).heap.size := by simp only [World.size_alloc]; omega
    obtain ⟨W0, hW0⟩ : ∃ W, (((w.alloc (.cells #[.string name, .slice A la ca, .slice B lb cb, .slice Cl lc cl, .int .i64 r, .int .i64 z, .int .i64 nr, .int .i64 nz, .int .i64 step, .slice D ld cd] 29)).alloc (.cells #[.slice A1 na qa, .slice B1 nb qb, .slice C1 nc qc] 32)).alloc (.cells #[.int .i64 0, .int .i64 0] 66)) = W := ⟨_, rfl⟩
    rw [hW0] at Fm Fc Ft hB0 sW0 ⊢
    clear hW0
    have m0 := Fm.out.cell 0 (.string name) rfl
    have m1 := Fm.out.cell 1 (.slice A la ca) rfl
    have m2 := Fm.out.cell 2 (.slice B lb cb) rfl
    have m3 := Fm.out.cell 3 (.slice Cl lc cl) rfl
    have m4 := Fm.out.cell 4 (.int .i64 r) rfl
    have m5 := Fm.out.cell 5 (.int .i64 z) rfl
    have m6 := Fm.out.cell 6 (.int .i64 nr) rfl
    have m7 := Fm.out.cell 7 (.int .i64 nz) rfl
    have m8 := Fm.out.cell 8 (.int .i64 step) rfl
    have m9 := Fm.out.cell 9 (.slice D ld cd) rfl
    have c0 := Fc.out.cell 0 (.slice A1 na qa) rfl
    have c1 := Fc.out.cell 1 (.slice B1 nb qb) rfl
    have c2 := Fc.out.cell 2 (.slice C1 nc qc) rfl
    have t0 := Ft.out.cell 0 (.int .i64 0) rfl
    have tf0 := Ft.out.mark 0 (by simp)
    have t1 := Ft.out.cell 1 (.int .i64 0) rfl
    have tf1 := Ft.out.mark 1 (by simp)
    go_wp2_with fail
    refine (HE.out _ hB0).mono ?_
    rintro e w1 ⟨rfl, hb⟩
    clear m0 m1 m2 m3 m4 m5 m6 m7 m8 m9 c0 c1 c2 t0 tf0 t1 tf1
    have Gm := Lib.hid (Fm.out.below hb)
    clear Fm
    have Fm := Lib.hid Gm.out
    clear Gm
    have Gc := Lib.hid (Fc.out.below hb)
    clear Fc
    have Fc := Lib.hid Gc.out
    clear Gc
    have Gt := Lib.hid (Ft.out.below hb)
    clear Ft
    have Ft := Lib.hid Gt.out
    clear Gt
    have m0 := Fm.out.cell 0 (.string name) rfl
    have m1 := Fm.out.cell 1 (.slice A la ca) rfl
    have m2 := Fm.out.cell 2 (.slice B lb cb) rfl
    have m3 := Fm.out.cell 3 (.slice Cl lc cl) rfl
    have m4 := Fm.out.cell 4 (.int .i64 r) rfl
    have m5 := Fm.out.cell 5 (.int .i64 z) rfl
    have m6 := Fm.out.cell 6 (.int .i64 nr) rfl
    have m7 := Fm.out.cell 7 (.int .i64 nz) rfl
    have m8 := Fm.out.cell 8 (.int .i64 step) rfl
    have m9 := Fm.out.cell 9 (.slice D ld cd) rfl
    have c0 := Fc.out.cell 0 (.slice A1 na qa) rfl
    have c1 := Fc.out.cell 1 (.slice B1 nb qb) rfl
    have c2 := Fc.out.cell 2 (.slice C1 nc qc) rfl
    have t0 := Ft.out.cell 0 (.int .i64 0) rfl
    have tf0 := Ft.out.mark 0 (by simp)
    have t1 := Ft.out.cell 1 (.int .i64 0) rfl
    have tf1 := Ft.out.mark 1 (by simp)
    have hBw1 := hB0.trans (hb.mono hB0.size)
    have hzw1 : w.heap.size + 1 + 1 < w1.heap.size := Nat.lt_of_lt_of_le (by assumption) hb.size
    have hyw1 : w.heap.size + 1 < w1.heap.size := by omega
    clear hb
    clear hB0 HE
    go_wp2_with fail
    refine (HR.out _ (by (with_reducible repeat first | exact Below.refl _ _ | assumption | ((first | refine Below.setCell ?_ ?_ _ | refine Below.alloc ?_ ?_ _); rotate_left; exact (by first | omega | (simp; done) | (simp; omega))) | refine Below.drew ?_ | refine Below_drewN ?_ _))).mono ?_
    rintro e w2 ⟨rfl, hb⟩
    clear m0 m1 m2 m3 m4 m5 m6 m7 m8 m9 c0 c1 c2 t0 tf0 t1 tf1
    have Gm := Lib.hid (Fm.out.below hb)
    clear Fm
    have Fm := Lib.hid Gm.out
    clear Gm
    have Gc := Lib.hid (Fc.out.below hb)
    clear Fc
    have Fc := Lib.hid Gc.out
    clear Gc
    have Gt := Lib.hid (Ft.out.below hb)
    clear Ft
    have Ft := Lib.hid Gt.out
    clear Gt
    have m0 := Fm.out.cell 0 (.string name) rfl
    have m1 := Fm.out.cell 1 (.slice A la ca) rfl
    have m2 := Fm.out.cell 2 (.slice B lb cb) rfl
    have m3 := Fm.out.cell 3 (.slice Cl lc cl) rfl
    have m4 := Fm.out.cell 4 (.int .i64 r) rfl
    have m5 := Fm.out.cell 5 (.int .i64 z) rfl
    have m6 := Fm.out.cell 6 (.int .i64 nr) rfl
    have m7 := Fm.out.cell 7 (.int .i64 nz) rfl
    have m8 := Fm.out.cell 8 (.int .i64 step) rfl
    have m9 := Fm.out.cell 9 (.slice D ld cd) rfl
    have c0 := Fc.out.cell 0 (.slice A1 na qa) rfl
    have c1 := Fc.out.cell 1 (.slice B1 nb qb) rfl
    have c2 := Fc.out.cell 2 (.slice C1 nc qc) rfl
    have t0 := Ft.out.cell 0 (.int .i64 0) rfl
    have tf0 := Ft.out.mark 0 (by simp)
    have t1 := Ft.out.cell 1 (.int .i64 0) rfl
    have tf1 := Ft.out.mark 1 (by simp)
    have hBw2 := hBw1.trans (hb.mono hBw1.size)
    have hzw2 : w.heap.size + 1 + 1 < w2.heap.size := Nat.lt_of_lt_of_le (by assumption) hb.size
    have hyw2 : w.heap.size + 1 < w2.heap.size := by omega
    clear hb
    go_wp2_with fail
    exact bodyPost_ret (res3p Tryd.results21 _ _ _ _ _ _ rfl rfl (by go_simp) (by go_simp)) rfl ⟨rfl, by (with_reducible repeat first | exact Below.refl _ _ | assumption | ((first | refine Below.setCell ?_ ?_ _ | refine Below.alloc ?_ ?_ _); rotate_left; exact (by first | omega | (simp; done) | (simp; omega))) | refine Below.drew ?_ | refine Below_drewN ?_ _)⟩
  · rw [if_pos hr]
    obtain ⟨hc, hs, -⟩ := respL_in hr
    obtain ⟨j0, j1⟩ := wthn_iff.1 hs
    obtain ⟨k, rfl⟩ : ∃ k : Nat, s = k := ⟨s.toNat, by omega⟩
    have hx := he
    unfold explB readsB at hx
    rw [Bool.and_eq_true, Bool.and_eq_true, Bool.and_eq_true, decide_eq_true_iff, decide_eq_true_iff] at hx
    obtain ⟨x, hxk⟩ : ∃ x, zs[k]? = some x := ⟨_, List.getElem?_eq_getElem (by omega)⟩
    have hv := vld_iff.1 (List.all_eq_true.1 hx.2.2.2 x (List.mem_of_getElem? hxk))
    have hkn : k < nf := by have := hF.1; have := (List.getElem?_eq_some_iff.1 hxk).1; omega
    obtain ⟨bf, of, hFe, hbf, hcf⟩ := hF.2 (by omega)
    subst hFe
    have e0 : w.cell? ⟨bf, of + k * 2, none⟩ = some (.int .i64 x.lo) := by have h := hcf k x hxk 0 _ rfl; simpa using h
    have e1 : w.cell? ⟨bf, of + k * 2 + 1, none⟩ = some (.int .i64 x.hi) := by have h := hcf k x hxk 1 _ rfl; simpa using h
    rw [Int.toNat_natCast, List.getD_eq_getElem?_getD, hxk, Option.getD_some]
    have hb1 := backL_bd M Cd (k : Int)
    have hb2 := respL_bd M (k : Int) cell
    have HB0 := Lib.hid (fun W (hb : Below w.heap.size w W) => background_any R M Qr Cd (k : Int) W (hM.below hb) (hC.below hb) i0 i1)
    clear hcf hxk hx hs hc he hM hC hF j0 j1
    generalize respL M (k : Int) cell = G at *
    obtain ⟨g1, g2⟩ := G
    generalize backL M Cd (k : Int) = B0 at *
    obtain ⟨b1, b2⟩ := B0
    obtain ⟨xl, xh⟩ := x
    dsimp only at *
    subst hr
    have HA := Lib.hid (fun W => allowed_any xl xh b1 g1 W (by omega) (by omega) (by omega) (by omega) (by omega) (by omega) (by omega) (by omega))
    clear hv hb1 hb2
    generalize allowL xl xh b1 g1 = U at *
    obtain ⟨u, v⟩ := U
    dsimp only at HA ⊢
    obtain ⟨⟨t1, t2, t3⟩, hT⟩ : ∃ T : Int × Int × Int, (if vld u v = true then (u, v, (0 : Int)) else (0, 0, 8)) = T := ⟨_, rfl⟩
    rw [hT]
    have HT := Lib.hid hT
    clear hT
    dsimp only
    obtain ⟨A, B, Cl, D, la, ca, lb, cb, lc, cl, ld, cd⟩ := R
    obtain ⟨name, coils, shells, limits, ⟨r, z, nr, nz, step⟩, sensors⟩ := M
    obtain ⟨A1, B1, C1, na, qa, nb, qb, nc, qc⟩ := Qr
    dsimp only [CurR.v] at *
    have HE := Lib.hid (show ∀ W, Below w.heap.size w W → Calls Tryd.prog 43 #[.agg #[.string name, .slice A la ca, .slice B lb cb, .slice Cl lc cl, .int .i64 r, .int .i64 z, .int .i64 nr, .int .i64 nz, .int .i64 step, .slice D ld cd], .agg #[.slice A1 na qa, .slice B1 nb qb, .slice C1 nc qc], .slice (some ⟨bf, of, none⟩) nf cf] W (Ret (.bool true) W) from HE0.out)
    clear HE0
    have HR := Lib.hid (show ∀ W, Below w.heap.size w W → Calls Tryd.prog 10 #[.agg #[.string name, .slice A la ca, .slice B lb cb, .slice Cl lc cl, .int .i64 r, .int .i64 z, .int .i64 nr, .int .i64 nz, .int .i64 step, .slice D ld cd], .int .i64 k, .int .i64 cell] W (Ret (.tuple #[.int .i64 g1, .int .i64 0]) W) from HR0.out)
    have HB := Lib.hid (show ∀ W, Below w.heap.size w W → Calls Tryd.prog 8 #[.agg #[.string name, .slice A la ca, .slice B lb cb, .slice Cl lc cl, .int .i64 r, .int .i64 z, .int .i64 nr, .int .i64 nz, .int .i64 step, .slice D ld cd], .agg #[.slice A1 na qa, .slice B1 nb qb, .slice C1 nc qc], .int .i64 k] W (Ret (.tuple #[.int .i64 b1, .int .i64 b2]) W) from HB0.out)
    clear HR0 HB0
    have kn : ((k : Int)).toNat = k := by omega
    have k0 : (0 : Int) ≤ k := by omega
    have E0 := Lib.hid e0
    have E1 := Lib.hid e1
    clear e0 e1
    have HV := Lib.hid (fun W => valid_any u v W)
    show Calls Tryd.prog 21 #[.agg #[.string name, .slice A la ca, .slice B lb cb, .slice Cl lc cl, .int .i64 r, .int .i64 z, .int .i64 nr, .int .i64 nz, .int .i64 step, .slice D ld cd], .agg #[.slice A1 na qa, .slice B1 nb qb, .slice C1 nc qc], .slice (some ⟨bf, of, none⟩) nf cf, .int .i64 k, .int .i64 cell] w _
    go_enter Tryd.func21, Tryd.ntmps21
    go_upto_region 1 with (fail)
    have Fm : Hid (RowL (w.heap.size) [.string name, .slice A la ca, .slice B lb cb, .slice Cl lc cl, .int .i64 r, .int .i64 z, .int .i64 nr, .int .i64 nz, .int .i64 step, .slice D ld cd] (((w.alloc (.cells #[.string name, .slice A la ca, .slice B lb cb, .slice Cl lc cl, .int .i64 r, .int .i64 z, .int .i64 nr, .int .i64 nz, .int .i64 step, .slice D ld cd] 29)).alloc (.cells #[.slice A1 na qa, .slice B1 nb qb, .slice C1 nc qc] 32)).alloc (.cells #[.int .i64 0, .int .i64 0] 66))) := Lib.hid (by have h := RowL.new w #[.string name, .slice A la ca, .slice B lb cb, .slice Cl lc cl, .int .i64 r, .int .i64 z, .int .i64 nr, .int .i64 nz, .int .i64 step, .slice D ld cd] 29; (try simp only [World.size_alloc] at h); exact ((h.alloc _).alloc _))
    have Fc : Hid (RowL (w.heap.size + 1) [.slice A1 na qa, .slice B1 nb qb, .slice C1 nc qc] (((w.alloc (.cells #[.string name, .slice A la ca, .slice B lb cb, .slice Cl lc cl, .int .i64 r, .int .i64 z, .int .i64 nr, .int .i64 nz, .int .i64 step, .slice D ld cd] 29)).alloc (.cells #[.slice A1 na qa, .slice B1 nb qb, .slice C1 nc qc] 32)).alloc (.cells #[.int .i64 0, .int .i64 0] 66))) := Lib.hid (by have h := RowL.new (w.alloc (.cells #[.string name, .slice A la ca, .slice B lb cb, .slice Cl lc cl, .int .i64 r, .int .i64 z, .int .i64 nr, .int .i64 nz, .int .i64 step, .slice D ld cd] 29)) #[.slice A1 na qa, .slice B1 nb qb, .slice C1 nc qc] 32; (try simp only [World.size_alloc] at h); exact (h.alloc _))
    have Ft : Hid (RowL (w.heap.size + 1 + 1) [.int .i64 0, .int .i64 0] (((w.alloc (.cells #[.string name, .slice A la ca, .slice B lb cb, .slice Cl lc cl, .int .i64 r, .int .i64 z, .int .i64 nr, .int .i64 nz, .int .i64 step, .slice D ld cd] 29)).alloc (.cells #[.slice A1 na qa, .slice B1 nb qb, .slice C1 nc qc] 32)).alloc (.cells #[.int .i64 0, .int .i64 0] 66))) := Lib.hid (by have h := RowL.new ((w.alloc (.cells #[.string name, .slice A la ca, .slice B lb cb, .slice Cl lc cl, .int .i64 r, .int .i64 z, .int .i64 nr, .int .i64 nz, .int .i64 step, .slice D ld cd] 29)).alloc (.cells #[.slice A1 na qa, .slice B1 nb qb, .slice C1 nc qc] 32)) #[.int .i64 0, .int .i64 0] 66; (try simp only [World.size_alloc] at h); exact h)
    have hB0 : Below w.heap.size w (((w.alloc (.cells #[.string name, .slice A la ca, .slice B lb cb, .slice Cl lc cl, .int .i64 r, .int .i64 z, .int .i64 nr, .int .i64 nz, .int .i64 step, .slice D ld cd] 29)).alloc (.cells #[.slice A1 na qa, .slice B1 nb qb, .slice C1 nc qc] 32)).alloc (.cells #[.int .i64 0, .int .i64 0] 66)) := by (with_reducible repeat first | exact Below.refl _ _ | assumption | ((first | refine Below.setCell ?_ ?_ _ | refine Below.alloc ?_ ?_ _); rotate_left; exact (by first | omega | (simp; done) | (simp; omega))) | refine Below.drew ?_ | refine Below_drewN ?_ _)
    have sW0 : w.heap.size + 1 + 1 < (((w.alloc (.cells #[.string name, .slice A la ca, .slice B lb cb, .slice Cl lc cl, .int .i64 r, .int .i64 z, .int .i64 nr, .int .i64 nz, .int .i64 step, .slice D ld cd] 29)).alloc (.cells #[.slice A1 na qa, .slice B1 nb qb, .slice C1 nc qc] 32)).alloc (.cells #[.int .i64 0, .int .i64 0] 66)).heap.size := by simp only [World.size_alloc]; omega
    obtain ⟨W0, hW0⟩ : ∃ W, (((w.alloc (.cells #[.string name, .slice A la ca, .slice B lb cb, .slice Cl lc cl, .int .i64 r, .int .i64 z, .int .i64 nr, .int .i64 nz, .int .i64 step, .slice D ld cd] 29)).alloc (.cells #[.slice A1 na qa, .slice B1 nb qb, .slice C1 nc qc] 32)).alloc (.cells #[.int .i64 0, .int .i64 0] 66)) = W := ⟨_, rfl⟩
    rw [hW0] at Fm Fc Ft hB0 sW0 ⊢
    clear hW0
    have m0 := Fm.out.cell 0 (.string name) rfl
    have m1 := Fm.out.cell 1 (.slice A la ca) rfl
    have m2 := Fm.out.cell 2 (.slice B lb cb) rfl
    have m3 := Fm.out.cell 3 (.slice Cl lc cl) rfl
    have m4 := Fm.out.cell 4 (.int .i64 r) rfl
    have m5 := Fm.out.cell 5 (.int .i64 z) rfl
    have m6 := Fm.out.cell 6 (.int .i64 nr) rfl
    have m7 := Fm.out.cell 7 (.int .i64 nz) rfl
    have m8 := Fm.out.cell 8 (.int .i64 step) rfl
    have m9 := Fm.out.cell 9 (.slice D ld cd) rfl
    have c0 := Fc.out.cell 0 (.slice A1 na qa) rfl
    have c1 := Fc.out.cell 1 (.slice B1 nb qb) rfl
    have c2 := Fc.out.cell 2 (.slice C1 nc qc) rfl
    have t0 := Ft.out.cell 0 (.int .i64 0) rfl
    have tf0 := Ft.out.mark 0 (by simp)
    have t1 := Ft.out.cell 1 (.int .i64 0) rfl
    have tf1 := Ft.out.mark 1 (by simp)
    go_wp2_with fail
    refine (HE.out _ hB0).mono ?_
    rintro e w1 ⟨rfl, hb⟩
    clear m0 m1 m2 m3 m4 m5 m6 m7 m8 m9 c0 c1 c2 t0 tf0 t1 tf1
    have Gm := Lib.hid (Fm.out.below hb)
    clear Fm
    have Fm := Lib.hid Gm.out
    clear Gm
    have Gc := Lib.hid (Fc.out.below hb)
    clear Fc
    have Fc := Lib.hid Gc.out
    clear Gc
    have Gt := Lib.hid (Ft.out.below hb)
    clear Ft
    have Ft := Lib.hid Gt.out
    clear Gt
    have m0 := Fm.out.cell 0 (.string name) rfl
    have m1 := Fm.out.cell 1 (.slice A la ca) rfl
    have m2 := Fm.out.cell 2 (.slice B lb cb) rfl
    have m3 := Fm.out.cell 3 (.slice Cl lc cl) rfl
    have m4 := Fm.out.cell 4 (.int .i64 r) rfl
    have m5 := Fm.out.cell 5 (.int .i64 z) rfl
    have m6 := Fm.out.cell 6 (.int .i64 nr) rfl
    have m7 := Fm.out.cell 7 (.int .i64 nz) rfl
    have m8 := Fm.out.cell 8 (.int .i64 step) rfl
    have m9 := Fm.out.cell 9 (.slice D ld cd) rfl
    have c0 := Fc.out.cell 0 (.slice A1 na qa) rfl
    have c1 := Fc.out.cell 1 (.slice B1 nb qb) rfl
    have c2 := Fc.out.cell 2 (.slice C1 nc qc) rfl
    have t0 := Ft.out.cell 0 (.int .i64 0) rfl
    have tf0 := Ft.out.mark 0 (by simp)
    have t1 := Ft.out.cell 1 (.int .i64 0) rfl
    have tf1 := Ft.out.mark 1 (by simp)
    have hBw1 := hB0.trans (hb.mono hB0.size)
    have hzw1 : w.heap.size + 1 + 1 < w1.heap.size := Nat.lt_of_lt_of_le (by assumption) hb.size
    have hyw1 : w.heap.size + 1 < w1.heap.size := by omega
    clear hb
    clear hB0 HE
    go_wp2_with fail
    refine (HR.out _ (by (with_reducible repeat first | exact Below.refl _ _ | assumption | ((first | refine Below.setCell ?_ ?_ _ | refine Below.alloc ?_ ?_ _); rotate_left; exact (by first | omega | (simp; done) | (simp; omega))) | refine Below.drew ?_ | refine Below_drewN ?_ _))).mono ?_
    rintro e w2 ⟨rfl, hb⟩
    clear m0 m1 m2 m3 m4 m5 m6 m7 m8 m9 c0 c1 c2 t0 tf0 t1 tf1
    have Gm := Lib.hid (Fm.out.below hb)
    clear Fm
    have Fm := Lib.hid Gm.out
    clear Gm
    have Gc := Lib.hid (Fc.out.below hb)
    clear Fc
    have Fc := Lib.hid Gc.out
    clear Gc
    have Gt := Lib.hid (Ft.out.below hb)
    clear Ft
    have Ft := Lib.hid Gt.out
    clear Gt
    have m0 := Fm.out.cell 0 (.string name) rfl
    have m1 := Fm.out.cell 1 (.slice A la ca) rfl
    have m2 := Fm.out.cell 2 (.slice B lb cb) rfl
    have m3 := Fm.out.cell 3 (.slice Cl lc cl) rfl
    have m4 := Fm.out.cell 4 (.int .i64 r) rfl
    have m5 := Fm.out.cell 5 (.int .i64 z) rfl
    have m6 := Fm.out.cell 6 (.int .i64 nr) rfl
    have m7 := Fm.out.cell 7 (.int .i64 nz) rfl
    have m8 := Fm.out.cell 8 (.int .i64 step) rfl
    have m9 := Fm.out.cell 9 (.slice D ld cd) rfl
    have c0 := Fc.out.cell 0 (.slice A1 na qa) rfl
    have c1 := Fc.out.cell 1 (.slice B1 nb qb) rfl
    have c2 := Fc.out.cell 2 (.slice C1 nc qc) rfl
    have t0 := Ft.out.cell 0 (.int .i64 0) rfl
    have tf0 := Ft.out.mark 0 (by simp)
    have t1 := Ft.out.cell 1 (.int .i64 0) rfl
    have tf1 := Ft.out.mark 1 (by simp)
    have hBw2 := hBw1.trans (hb.mono hBw1.size)
    have hzw2 : w.heap.size + 1 + 1 < w2.heap.size := Nat.lt_of_lt_of_le (by assumption) hb.size
    have hyw2 : w.heap.size + 1 < w2.heap.size := by omega
    clear hb
    go_wp2_with fail
    refine (HB.out _ (by (with_reducible repeat first | exact Below.refl _ _ | assumption | ((first | refine Below.setCell ?_ ?_ _ | refine Below.alloc ?_ ?_ _); rotate_left; exact (by first | omega | (simp; done) | (simp; omega))) | refine Below.drew ?_ | refine Below_drewN ?_ _))).mono ?_
    rintro e w3 ⟨rfl, hb⟩
    clear m0 m1 m2 m3 m4 m5 m6 m7 m8 m9 c0 c1 c2 t0 tf0 t1 tf1
    have Gm := Lib.hid (Fm.out.below hb)
    clear Fm
    have Fm := Lib.hid Gm.out
    clear Gm
    have Gc := Lib.hid (Fc.out.below hb)
    clear Fc
    have Fc := Lib.hid Gc.out
    clear Gc
    have Gt := Lib.hid (Ft.out.below hb)
    clear Ft
    have Ft := Lib.hid Gt.out
    clear Gt
    have m0 := Fm.out.cell 0 (.string name) rfl
    have m1 := Fm.out.cell 1 (.slice A la ca) rfl
    have m2 := Fm.out.cell 2 (.slice B lb cb) rfl
    have m3 := Fm.out.cell 3 (.slice Cl lc cl) rfl
    have m4 := Fm.out.cell 4 (.int .i64 r) rfl
    have m5 := Fm.out.cell 5 (.int .i64 z) rfl
    have m6 := Fm.out.cell 6 (.int .i64 nr) rfl
    have m7 := Fm.out.cell 7 (.int .i64 nz) rfl
    have m8 := Fm.out.cell 8 (.int .i64 step) rfl
    have m9 := Fm.out.cell 9 (.slice D ld cd) rfl
    have c0 := Fc.out.cell 0 (.slice A1 na qa) rfl
    have c1 := Fc.out.cell 1 (.slice B1 nb qb) rfl
    have c2 := Fc.out.cell 2 (.slice C1 nc qc) rfl
    have t0 := Ft.out.cell 0 (.int .i64 0) rfl
    have tf0 := Ft.out.mark 0 (by simp)
    have t1 := Ft.out.cell 1 (.int .i64 0) rfl
    have tf1 := Ft.out.mark 1 (by simp)
    have hBw3 := hBw2.trans (hb.mono hBw2.size)
    have hzw3 : w.heap.size + 1 + 1 < w3.heap.size := Nat.lt_of_lt_of_le (by assumption) hb.size
    have hyw3 : w.heap.size + 1 < w3.heap.size := by omega
    clear hb
    have e0 := (hBw3.cell (p := ⟨bf, of + k * 2, none⟩) hbf).trans E0.out
    have e1 := (hBw3.cell (p := ⟨bf, of + k * 2 + 1, none⟩) hbf).trans E1.out
    go_wp2_with fail
    refine (HA.out _).mono ?_
    rintro e w4 ⟨rfl, hb⟩
    clear e0 e1
    clear m0 m1 m2 m3 m4 m5 m6 m7 m8 m9 c0 c1 c2 t0 tf0 t1 tf1
    have Gm := Lib.hid (Fm.out.below hb)
    clear Fm
    have Fm := Lib.hid Gm.out
    clear Gm
    have Gc := Lib.hid (Fc.out.below hb)
    clear Fc
    have Fc := Lib.hid Gc.out
    clear Gc
    have Gt := Lib.hid (Ft.out.below hb)
    clear Ft
    have Ft := Lib.hid Gt.out
    clear Gt
    have m0 := Fm.out.cell 0 (.string name) rfl
    have m1 := Fm.out.cell 1 (.slice A la ca) rfl
    have m2 := Fm.out.cell 2 (.slice B lb cb) rfl
    have m3 := Fm.out.cell 3 (.slice Cl lc cl) rfl
    have m4 := Fm.out.cell 4 (.int .i64 r) rfl
    have m5 := Fm.out.cell 5 (.int .i64 z) rfl
    have m6 := Fm.out.cell 6 (.int .i64 nr) rfl
    have m7 := Fm.out.cell 7 (.int .i64 nz) rfl
    have m8 := Fm.out.cell 8 (.int .i64 step) rfl
    have m9 := Fm.out.cell 9 (.slice D ld cd) rfl
    have c0 := Fc.out.cell 0 (.slice A1 na qa) rfl
    have c1 := Fc.out.cell 1 (.slice B1 nb qb) rfl
    have c2 := Fc.out.cell 2 (.slice C1 nc qc) rfl
    have t0 := Ft.out.cell 0 (.int .i64 0) rfl
    have tf0 := Ft.out.mark 0 (by simp)
    have t1 := Ft.out.cell 1 (.int .i64 0) rfl
    have tf1 := Ft.out.mark 1 (by simp)
    have hBw4 := hBw3.trans (hb.mono hBw3.size)
    have hzw4 : w.heap.size + 1 + 1 < w4.heap.size := Nat.lt_of_lt_of_le (by assumption) hb.size
    have hyw4 : w.heap.size + 1 < w4.heap.size := by omega
    clear hb
    clear HR HB HA E0 E1
    go_upto_region 8 with (fail)
    have Fa : Hid (RowL (w4.heap.size) [.int .i64 u, .int .i64 v] (w4.alloc (.cells #[.int .i64 u, .int .i64 v] 66))) := Lib.hid (by have h := RowL.new w4 #[.int .i64 u, .int .i64 v] 66; (try simp only [World.size_alloc] at h); exact h)
    have hb5 : Below w4.heap.size w4 (w4.alloc (.cells #[.int .i64 u, .int .i64 v] 66)) := by (with_reducible repeat first | exact Below.refl _ _ | assumption | ((first | refine Below.setCell ?_ ?_ _ | refine Below.alloc ?_ ?_ _); rotate_left; exact (by first | omega | (simp; done) | (simp; omega))) | refine Below.drew ?_ | refine Below_drewN ?_ _)
    have sW5 : w4.heap.size < (w4.alloc (.cells #[.int .i64 u, .int .i64 v] 66)).heap.size := by simp only [World.size_alloc]; omega
    obtain ⟨W5, hW5⟩ : ∃ W, (w4.alloc (.cells #[.int .i64 u, .int .i64 v] 66)) = W := ⟨_, rfl⟩
    rw [hW5] at Fa hb5 sW5 ⊢
    clear hW5
    clear m0 m1 m2 m3 m4 m5 m6 m7 m8 m9 c0 c1 c2 t0 tf0 t1 tf1
    have Gm := Lib.hid (Fm.out.below hb5)
    clear Fm
    have Fm := Lib.hid Gm.out
    clear Gm
    have Gc := Lib.hid (Fc.out.below hb5)
    clear Fc
    have Fc := Lib.hid Gc.out
    clear Gc
    have Gt := Lib.hid (Ft.out.below hb5)
    clear Ft
    have Ft := Lib.hid Gt.out
    clear Gt
    have m0 := Fm.out.cell 0 (.string name) rfl
    have m1 := Fm.out.cell 1 (.slice A la ca) rfl
    have m2 := Fm.out.cell 2 (.slice B lb cb) rfl
    have m3 := Fm.out.cell 3 (.slice Cl lc cl) rfl
    have m4 := Fm.out.cell 4 (.int .i64 r) rfl
    have m5 := Fm.out.cell 5 (.int .i64 z) rfl
    have m6 := Fm.out.cell 6 (.int .i64 nr) rfl
    have m7 := Fm.out.cell 7 (.int .i64 nz) rfl
    have m8 := Fm.out.cell 8 (.int .i64 step) rfl
    have m9 := Fm.out.cell 9 (.slice D ld cd) rfl
    have c0 := Fc.out.cell 0 (.slice A1 na qa) rfl
    have c1 := Fc.out.cell 1 (.slice B1 nb qb) rfl
    have c2 := Fc.out.cell 2 (.slice C1 nc qc) rfl
    have t0 := Ft.out.cell 0 (.int .i64 0) rfl
    have tf0 := Ft.out.mark 0 (by simp)
    have t1 := Ft.out.cell 1 (.int .i64 0) rfl
    have tf1 := Ft.out.mark 1 (by simp)
    have a0 := Fa.out.cell 0 (.int .i64 u) rfl
    have a1 := Fa.out.cell 1 (.int .i64 v) rfl
    have hBW5 := hBw4.trans (hb5.mono hBw4.size)
    have hzW5 : w.heap.size + 1 + 1 < W5.heap.size := by omega
    clear hb5
    cases hv : vld u v
    · have h := HT.out
      rw [hv, if_neg (by decide)] at h
      obtain ⟨rfl, h2⟩ := Prod.mk.inj h
      obtain ⟨rfl, rfl⟩ := Prod.mk.inj h2
      rw [hv] at HV
      clear hv h h2 HT
      go_wp2_with fail
      refine (HV.out _).mono ?_
      rintro e w6 ⟨rfl, hb⟩
      clear m0 m1 m2 m3 m4 m5 m6 m7 m8 m9 c0 c1 c2 t0 tf0 t1 tf1 a0 a1
      have Gm := Lib.hid (Fm.out.below hb)
      clear Fm
      have Fm := Lib.hid Gm.out
      clear Gm
      have Gc := Lib.hid (Fc.out.below hb)
      clear Fc
      have Fc := Lib.hid Gc.out
      clear Gc
      have Gt := Lib.hid (Ft.out.below hb)
      clear Ft
      have Ft := Lib.hid Gt.out
      clear Gt
      have Ga := Lib.hid (Fa.out.below hb)
      clear Fa
      have Fa := Lib.hid Ga.out
      clear Ga
      have m0 := Fm.out.cell 0 (.string name) rfl
      have m1 := Fm.out.cell 1 (.slice A la ca) rfl
      have m2 := Fm.out.cell 2 (.slice B lb cb) rfl
      have m3 := Fm.out.cell 3 (.slice Cl lc cl) rfl
      have m4 := Fm.out.cell 4 (.int .i64 r) rfl
      have m5 := Fm.out.cell 5 (.int .i64 z) rfl
      have m6 := Fm.out.cell 6 (.int .i64 nr) rfl
      have m7 := Fm.out.cell 7 (.int .i64 nz) rfl
      have m8 := Fm.out.cell 8 (.int .i64 step) rfl
      have m9 := Fm.out.cell 9 (.slice D ld cd) rfl
      have c0 := Fc.out.cell 0 (.slice A1 na qa) rfl
      have c1 := Fc.out.cell 1 (.slice B1 nb qb) rfl
      have c2 := Fc.out.cell 2 (.slice C1 nc qc) rfl
      have t0 := Ft.out.cell 0 (.int .i64 0) rfl
      have tf0 := Ft.out.mark 0 (by simp)
      have t1 := Ft.out.cell 1 (.int .i64 0) rfl
      have tf1 := Ft.out.mark 1 (by simp)
      have a0 := Fa.out.cell 0 (.int .i64 u) rfl
      have a1 := Fa.out.cell 1 (.int .i64 v) rfl
      have hBw6 := hBW5.trans (hb.mono hBW5.size)
      have hzw6 : w.heap.size + 1 + 1 < w6.heap.size := Nat.lt_of_lt_of_le hzW5 hb.size
      clear hb
      go_wp2_with fail
      exact bodyPost_ret (res3p Tryd.results21 _ _ _ _ _ _ rfl rfl (by go_simp) (by go_simp)) rfl ⟨rfl, by (with_reducible repeat first | exact Below.refl _ _ | assumption | ((first | refine Below.setCell ?_ ?_ _ | refine Below.alloc ?_ ?_ _); rotate_left; exact (by first | omega | (simp; done) | (simp; omega))) | refine Below.drew ?_ | refine Below_drewN ?_ _)⟩
    · have h := HT.out
      rw [hv, if_pos rfl] at h
      obtain ⟨rfl, h2⟩ := Prod.mk.inj h
      obtain ⟨rfl, rfl⟩ := Prod.mk.inj h2
      rw [hv] at HV
      clear hv h h2 HT
      go_wp2_with fail
      refine (HV.out _).mono ?_
      rintro e w6 ⟨rfl, hb⟩
      clear m0 m1 m2 m3 m4 m5 m6 m7 m8 m9 c0 c1 c2 t0 tf0 t1 tf1 a0 a1
      have Gm := Lib.hid (Fm.out.below hb)
      clear Fm
      have Fm := Lib.hid Gm.out
      clear Gm
      have Gc := Lib.hid (Fc.out.below hb)
      clear Fc
      have Fc := Lib.hid Gc.out
      clear Gc
      have Gt := Lib.hid (Ft.out.below hb)
      clear Ft
      have Ft := Lib.hid Gt.out
      clear Gt
      have Ga := Lib.hid (Fa.out.below hb)
      clear Fa
      have Fa := Lib.hid Ga.out
      clear Ga
      have m0 := Fm.out.cell 0 (.string name) rfl
      have m1 := Fm.out.cell 1 (.slice A la ca) rfl
      have m2 := Fm.out.cell 2 (.slice B lb cb) rfl
      have m3 := Fm.out.cell 3 (.slice Cl lc cl) rfl
      have m4 := Fm.out.cell 4 (.int .i64 r) rfl
      have m5 := Fm.out.cell 5 (.int .i64 z) rfl
      have m6 := Fm.out.cell 6 (.int .i64 nr) rfl
      have m7 := Fm.out.cell 7 (.int .i64 nz) rfl
      have m8 := Fm.out.cell 8 (.int .i64 step) rfl
      have m9 := Fm.out.cell 9 (.slice D ld cd) rfl
      have c0 := Fc.out.cell 0 (.slice A1 na qa) rfl
      have c1 := Fc.out.cell 1 (.slice B1 nb qb) rfl
      have c2 := Fc.out.cell 2 (.slice C1 nc qc) rfl
      have t0 := Ft.out.cell 0 (.int .i64 0) rfl
      have tf0 := Ft.out.mark 0 (by simp)
      have t1 := Ft.out.cell 1 (.int .i64 0) rfl
      have tf1 := Ft.out.mark 1 (by simp)
      have a0 := Fa.out.cell 0 (.int .i64 u) rfl
      have a1 := Fa.out.cell 1 (.int .i64 v) rfl
      have hBw6 := hBW5.trans (hb.mono hBW5.size)
      have hzw6 : w.heap.size + 1 + 1 < w6.heap.size := Nat.lt_of_lt_of_le hzW5 hb.size
      clear hb
      go_wp2_with fail
      exact bodyPost_ret (res3p Tryd.results21 _ _ _ _ _ _ rfl rfl (by go_simp) (by go_simp)) rfl ⟨rfl, by (with_reducible repeat first | exact Below.refl _ _ | assumption | ((first | refine Below.setCell ?_ ?_ _ | refine Below.alloc ?_ ?_ _); rotate_left; exact (by first | omega | (simp; done) | (simp; omega))) | refine Below.drew ?_ | refine Below_drewN ?_ _)⟩

end Go.Proofs.YtfpjhobhmcfpnaaDoor
end
section
/- Candidates and agreement: the plain facts of SenseCommon, over this seat's translation. -/
namespace Go.Proofs.YtfpjhobhmcfpnaaDoor
set_option linter.unusedVariables false
set_option linter.unusedSimpArgs false
open Go.RowKit Go.Shelf

theorem cont_iff {lo hi c : Int} : cont lo hi c = true ↔ vld lo hi = true ∧ lo ≤ c ∧ c ≤ hi := by
  unfold cont
  rw [Bool.and_eq_true, Bool.and_eq_true, decide_eq_true_iff, decide_eq_true_iff]
theorem meet_zeroC {a b c d : Int} (h : (meetL a b c d).2.2 = 0) : vld c d = true ∧ max a c ≤ min b d ∧ (meetL a b c d).1 = max a c ∧ (meetL a b c d).2.1 = min b d := by
  unfold meetL at h ⊢
  by_cases hv : (vld a b && vld c d) = true
  · rw [if_pos hv] at h ⊢
    rw [Bool.and_eq_true] at hv
    by_cases hm : max a c ≤ min b d
    · rw [if_pos hm]
      exact ⟨hv.2, hm, rfl, rfl⟩
    · rw [if_neg hm] at h; simp at h
  · rw [if_neg hv] at h; simp at h
theorem meet_ofC {a b c d : Int} (h1 : vld a b = true) (h2 : vld c d = true) (h3 : max a c ≤ min b d) : meetL a b c d = (max a c, min b d, 0) := by
  unfold meetL
  rw [h1, h2, Bool.and_self, if_pos rfl, if_pos h3]
theorem comm_iff (c : Int) : ∀ (l : List SpanD) (lo hi : Int), vld lo hi = true → (((commGo lo hi l).2.2 = true ∧ (commGo lo hi l).1 ≤ c ∧ c ≤ (commGo lo hi l).2.1) ↔ (lo ≤ c ∧ c ≤ hi ∧ ∀ s ∈ l, cont s.lo s.hi c = true))
  | [], lo, hi, _ => by
    constructor
    · rintro ⟨-, h1, h2⟩
      exact ⟨h1, h2, fun s hs => by cases hs⟩
    · rintro ⟨h1, h2, -⟩
      exact ⟨rfl, h1, h2⟩
  | a :: r, lo, hi, hv => by
    by_cases hm : (meetL lo hi a.lo a.hi).2.2 = 0
    · obtain ⟨a2, a3, a4, a5⟩ := meet_zeroC hm
      have e2 : commGo lo hi (a :: r) = commGo (max lo a.lo) (min hi a.hi) r := by
        show (if (meetL lo hi a.lo a.hi).2.2 = 0 then _ else _) = _
        rw [if_pos hm, a4, a5]
      have hv2 : vld (max lo a.lo) (min hi a.hi) = true := by rw [vld_iff] at hv a2 ⊢; omega
      rw [e2, comm_iff c r _ _ hv2]
      constructor
      · rintro ⟨h1, h2, h3⟩
        refine ⟨by omega, by omega, fun s hs => ?_⟩
        rcases List.mem_cons.1 hs with rfl | hs
        · exact cont_iff.2 ⟨a2, by omega, by omega⟩
        · exact h3 s hs
      · rintro ⟨h1, h2, h3⟩
        have h4 := cont_iff.1 (h3 a (by simp))
        exact ⟨by omega, by omega, fun s hs => h3 s (List.mem_cons_of_mem _ hs)⟩
    · have e2 : commGo lo hi (a :: r) = (0, 0, false) := by
        show (if (meetL lo hi a.lo a.hi).2.2 = 0 then _ else _) = _
        rw [if_neg hm]
      rw [e2]
      constructor
      · rintro ⟨h, -⟩; cases h
      · rintro ⟨h1, h2, h3⟩
        have h4 := cont_iff.1 (h3 a (by simp))
        exact absurd (by rw [meet_ofC hv h4.1 (by omega)]) hm
theorem filter_full (f : Nat → Option Int) : ∀ n, (((List.range n).filterMap f).length = n ↔ ∀ k, k < n → (f k).isSome = true)
  | 0 => by simp
  | n + 1 => by
    have ih := filter_full f n
    have hl := agUp_len f n
    rw [filter_snoc, List.length_append]
    constructor
    · intro h k hk
      cases hf : f n with
      | none => rw [hf] at h; simp at h; omega
      | some x =>
        rw [hf] at h
        have h' : ((List.range n).filterMap f).length = n := by simp at h; omega
        by_cases e : k = n
        · rw [e, hf]; rfl
        · exact ih.1 h' k (by omega)
    · intro h
      have h1 := ih.2 (fun k hk => h k (by omega))
      have h2 := h n (by omega)
      cases hf : f n with
      | none => rw [hf] at h2; cases h2
      | some x => simp [h1]
theorem agL_full (zs : List SpanD) (cur : Int) : (agL zs cur).length = zs.length ↔ ∀ s ∈ zs, cont s.lo s.hi cur = true := by
  unfold agL
  rw [filter_full]
  constructor
  · intro h s hs
    obtain ⟨k, hk⟩ := List.mem_iff_getElem?.1 hs
    have := h k (List.getElem?_eq_some_iff.1 hk).1
    unfold agF at this
    rw [List.getD_eq_getElem?_getD, hk, Option.getD_some] at this
    by_cases hc : cont s.lo s.hi cur = true
    · exact hc
    · rw [if_neg hc] at this; cases this
  · intro h k hk
    have hz : zs[k]? = some zs[k] := List.getElem?_eq_getElem hk
    unfold agF
    rw [List.getD_eq_getElem?_getD, hz, Option.getD_some, if_pos (h _ (List.mem_of_getElem? hz))]
    rfl
/-- A candidate is the cell's, and holds the current. -/
def inP (cell cur : Int) (y : Int × Int × Int) : Bool := decide (y.1 = cell) && (decide (y.2.1 ≤ cur) && decide (cur ≤ y.2.2))
theorem cand_any {M : MachD} {C : CurD} {zs : List SpanD} {cell cur : Int} (h : explB M C zs = true) (hi : inB C cell cur = true) :
    (candL M C zs).any (inP cell cur) = decide ((agL (clL M (bgL M C) zs cell) cur).length = zs.length) := by
  unfold explB readsB at h
  rw [Bool.and_eq_true, Bool.and_eq_true, Bool.and_eq_true, decide_eq_true_iff, decide_eq_true_iff] at h
  unfold inB at hi
  rw [Bool.and_eq_true] at hi
  have a := wthn_iff.1 hi.1
  have b := wthn_iff.1 hi.2
  obtain ⟨k, rfl⟩ : ∃ k : Nat, cell = k := ⟨cell.toNat, by omega⟩
  have hci := comm_iff cur (clL M (bgL M C) zs (k : Int)) 0 1000000 (by decide)
  have hlen : (clL M (bgL M C) zs (k : Int)).length = zs.length := by rw [clL_len, h.2.2.1]
  have hag := agL_full (clL M (bgL M C) zs (k : Int)) cur
  rw [hlen] at hag
  rw [Bool.eq_iff_iff, decide_eq_true_iff, hag, List.any_eq_true]
  constructor
  · rintro ⟨y, hy, hp⟩
    unfold candL at hy
    obtain ⟨j, hj, hf⟩ := List.mem_filterMap.1 hy
    unfold candF at hf
    by_cases hc : (commL (clL M (bgL M C) zs (j : Int))).2.2 = true
    · rw [if_pos hc] at hf
      obtain rfl := Option.some.inj hf
      unfold inP at hp
      rw [Bool.and_eq_true, Bool.and_eq_true, decide_eq_true_iff, decide_eq_true_iff, decide_eq_true_iff] at hp
      dsimp only at hp
      rw [hp.1] at hc hp
      exact (hci.1 ⟨hc, hp.2.1, hp.2.2⟩).2.2
    · rw [if_neg hc] at hf
      cases hf
  · intro hs
    obtain ⟨c1, c2, c3⟩ := hci.2 ⟨by omega, by omega, hs⟩
    have c1' : (commL (clL M (bgL M C) zs (k : Int))).2.2 = true := c1
    refine ⟨((k : Int), (commL (clL M (bgL M C) zs (k : Int))).1, (commL (clL M (bgL M C) zs (k : Int))).2.1), ?_, ?_⟩
    · unfold candL
      exact List.mem_filterMap.2 ⟨k, List.mem_range.2 (by omega), by unfold candF; rw [if_pos c1']⟩
    · unfold inP
      have d2 : (commL (clL M (bgL M C) zs (k : Int))).1 ≤ cur := c2
      have d3 : cur ≤ (commL (clL M (bgL M C) zs (k : Int))).2.1 := c3
      simp [d2, d3]
/-- What an agreeing sensor allows holds the current. -/
theorem ald_of {M : MachD} {C : CurD} {zs : List SpanD} {cell cur k : Int} (h : explB M C zs = true) (hi : inB C cell cur = true) (hk : k ∈ agL (clL M (bgL M C) zs cell) cur) :
    (∃ a b : Int, aldL M C zs k cell = (a, b, 0) ∧ a ≤ cur ∧ cur ≤ b) ∧ 0 ≤ k ∧ k ≤ 1000000 := by
  have he := h
  unfold explB readsB at h
  rw [Bool.and_eq_true, Bool.and_eq_true, Bool.and_eq_true, decide_eq_true_iff, decide_eq_true_iff] at h
  have hf := fit2_iff.1 h.1
  have hs := sound_of hf.check
  unfold inB at hi
  rw [Bool.and_eq_true] at hi
  have a := wthn_iff.1 hi.1
  unfold agL at hk
  obtain ⟨i, hin, hfi⟩ := List.mem_filterMap.1 hk
  rw [List.mem_range, clL_len] at hin
  have hsl := hs.sensors.1
  unfold agF at hfi
  rw [List.getD_eq_getElem?_getD, clL_get hin, Option.getD_some] at hfi
  by_cases hc : cont (clF M (bgL M C) zs cell i).lo (clF M (bgL M C) zs cell i).hi cur = true
  · rw [if_pos hc] at hfi
    obtain rfl := Option.some.inj hfi
    refine ⟨?_, by omega, by omega⟩
    obtain ⟨c1, c2, c3⟩ := cont_iff.1 hc
    unfold clF at c1 c2 c3
    rw [List.getD_eq_getElem?_getD (l := bgL M C), bgL_get hin, Option.getD_some] at c1 c2 c3
    obtain ⟨x, hx⟩ : ∃ x, M.sensors[((i : Int)).toNat]? = some x := ⟨_, List.getElem?_eq_getElem (by omega)⟩
    have hr := respL_val hf.check (s := (i : Int)) (cell := cell) (wthn_iff.2 (by omega)) (wthn_iff.2 (by have := hf.plasma.1; omega)) hx
    have hr2 : (respL M (i : Int) cell).2 = 0 := by rw [hr]
    unfold aldL
    rw [he, if_pos rfl, if_pos hr2, Int.toNat_natCast, if_pos c1]
    exact ⟨_, _, rfl, c2, c3⟩
  · rw [if_neg hc] at hfi
    cases hfi

end Go.Proofs.YtfpjhobhmcfpnaaDoor
end
