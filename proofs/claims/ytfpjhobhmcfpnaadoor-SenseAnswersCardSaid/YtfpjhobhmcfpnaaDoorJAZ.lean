import Derived.Test.YtfpjhobhmcfpnaaDoorJAT
import Derived.Test.YtfpjhobhmcfpnaaDoorJAX
import Derived.Test.YtfpjhobhmcfpnaaDoorJAY
section
/- The specification of layer 4: Filament, over this seat's translation (written by mk_run.py). -/
namespace Go.Proofs.YtfpjhobhmcfpnaaDoor
set_option linter.unusedVariables false
set_option linter.unusedSimpArgs false
open Go.RowKit Go.Shelf

set_option maxRecDepth 100000 in
set_option maxHeartbeats 8000000 in
theorem rfilament_bad (R : MachR) (M : MachD) (Qr : CurR) (Cd : CurD) (cell cur : Int) (w : World) (hM : IsM w R M) (hC : IsC w Qr Cd) (he : filaE M Cd cell cur ≠ 0) :
    Calls Tryd.prog 13 #[.agg (machCells R M), Qr.v, .int .i64 cell, .int .i64 cur] w (Ret (.tuple #[nilC, .int .i64 (filaE M Cd cell cur)]) w) := by
  have HV0 := Lib.hid (fun W (hb : Below w.heap.size w W) => rvalid2_any R M Qr Cd W (hM.below hb) (hC.below hb))
  unfold filaE at he ⊢
  cases hv : validC M Cd
  · rw [hv] at HV0
    rw [if_neg (by decide)]
    clear hv he
    clear hM hC
    obtain ⟨A, B, Cl, D, la, ca, lb, cb, lc, cl, ld, cd⟩ := R
    obtain ⟨name, coils, shells, limits, ⟨r, z, nr, nz, step⟩, sensors⟩ := M
    obtain ⟨A1, B1, C1, na, qa, nb, qb, nc, qc⟩ := Qr
    dsimp only [CurR.v] at *
    have HV := Lib.hid (show ∀ W, Below w.heap.size w W → Calls Tryd.prog 26 #[.agg #[.string name, .slice A la ca, .slice B lb cb, .slice Cl lc cl, .int .i64 r, .int .i64 z, .int .i64 nr, .int .i64 nz, .int .i64 step, .slice D ld cd], .agg #[.slice A1 na qa, .slice B1 nb qb, .slice C1 nc qc]] W (Ret (.bool false) W) from HV0.out)
    clear HV0
    show Calls Tryd.prog 13 #[.agg #[.string name, .slice A la ca, .slice B lb cb, .slice Cl lc cl, .int .i64 r, .int .i64 z, .int .i64 nr, .int .i64 nz, .int .i64 step, .slice D ld cd], .agg #[.slice A1 na qa, .slice B1 nb qb, .slice C1 nc qc], .int .i64 cell, .int .i64 cur] w _
    go_enter Tryd.func13, Tryd.ntmps13
    go_upto_region 1 with (fail)
    have Fm : Hid (RowL (w.heap.size) [.string name, .slice A la ca, .slice B lb cb, .slice Cl lc cl, .int .i64 r, .int .i64 z, .int .i64 nr, .int .i64 nz, .int .i64 step, .slice D ld cd] (((w.alloc (.cells #[.string name, .slice A la ca, .slice B lb cb, .slice Cl lc cl, .int .i64 r, .int .i64 z, .int .i64 nr, .int .i64 nz, .int .i64 step, .slice D ld cd] 29)).alloc (.cells #[.slice A1 na qa, .slice B1 nb qb, .slice C1 nc qc] 32)).alloc (.cells #[.slice none 0 0, .slice none 0 0, .slice none 0 0] 32))) := Lib.hid (by have h := RowL.new w #[.string name, .slice A la ca, .slice B lb cb, .slice Cl lc cl, .int .i64 r, .int .i64 z, .int .i64 nr, .int .i64 nz, .int .i64 step, .slice D ld cd] 29; (try simp only [World.size_alloc] at h); exact ((h.alloc _).alloc _))
    have Fc : Hid (RowL (w.heap.size + 1) [.slice A1 na qa, .slice B1 nb qb, .slice C1 nc qc] (((w.alloc (.cells #[.string name, .slice A la ca, .slice B lb cb, .slice Cl lc cl, .int .i64 r, .int .i64 z, .int .i64 nr, .int .i64 nz, .int .i64 step, .slice D ld cd] 29)).alloc (.cells #[.slice A1 na qa, .slice B1 nb qb, .slice C1 nc qc] 32)).alloc (.cells #[.slice none 0 0, .slice none 0 0, .slice none 0 0] 32))) := Lib.hid (by have h := RowL.new (w.alloc (.cells #[.string name, .slice A la ca, .slice B lb cb, .slice Cl lc cl, .int .i64 r, .int .i64 z, .int .i64 nr, .int .i64 nz, .int .i64 step, .slice D ld cd] 29)) #[.slice A1 na qa, .slice B1 nb qb, .slice C1 nc qc] 32; (try simp only [World.size_alloc] at h); exact (h.alloc _))
    have Ft : Hid (RowL (w.heap.size + 1 + 1) [.slice none 0 0, .slice none 0 0, .slice none 0 0] (((w.alloc (.cells #[.string name, .slice A la ca, .slice B lb cb, .slice Cl lc cl, .int .i64 r, .int .i64 z, .int .i64 nr, .int .i64 nz, .int .i64 step, .slice D ld cd] 29)).alloc (.cells #[.slice A1 na qa, .slice B1 nb qb, .slice C1 nc qc] 32)).alloc (.cells #[.slice none 0 0, .slice none 0 0, .slice none 0 0] 32))) := Lib.hid (by have h := RowL.new ((w.alloc (.cells #[.string name, .slice A la ca, .slice B lb cb, .slice Cl lc cl, .int .i64 r, .int .i64 z, .int .i64 nr, .int .i64 nz, .int .i64 step, .slice D ld cd] 29)).alloc (.cells #[.slice A1 na qa, .slice B1 nb qb, .slice C1 nc qc] 32)) #[.slice none 0 0, .slice none 0 0, .slice none 0 0] 32; (try simp only [World.size_alloc] at h); exact h)
    have hB0 : Below w.heap.size w (((w.alloc (.cells #[.string name, .slice A la ca, .slice B lb cb, .slice Cl lc cl, .int .i64 r, .int .i64 z, .int .i64 nr, .int .i64 nz, .int .i64 step, .slice D ld cd] 29)).alloc (.cells #[.slice A1 na qa, .slice B1 nb qb, .slice C1 nc qc] 32)).alloc (.cells #[.slice none 0 0, .slice none 0 0, .slice none 0 0] 32)) := by (with_reducible repeat first | exact Below.refl _ _ | assumption | ((first | refine Below.setCell ?_ ?_ _ | refine Below.alloc ?_ ?_ _); rotate_left; exact (by first | omega | (simp; done) | (simp; omega))) | refine Below.drew ?_ | refine Below_drewN ?_ _)
    have sW0 : w.heap.size + 1 + 1 < (((w.alloc (.cells #[.string name, .slice A la ca, .slice B lb cb, .slice Cl lc cl, .int .i64 r, .int .i64 z, .int .i64 nr, .int .i64 nz, .int .i64 step, .slice D ld cd] 29)).alloc (.cells #[.slice A1 na qa, .slice B1 nb qb, .slice C1 nc qc] 32)).alloc (.cells #[.slice none 0 0, .slice none 0 0, .slice none 0 0] 32)).heap.size := by simp only [World.size_alloc]; omega
    obtain ⟨W0, hW0⟩ : ∃ W, (((w.alloc (.cells #[.string name, .slice A la ca, .slice B lb cb, .slice Cl lc cl, .int .i64 r, .int .i64 z, .int .i64 nr, .int .i64 nz, .int .i64 step, .slice D ld cd] 29)).alloc (.cells #[.slice A1 na qa, .slice B1 nb qb, .slice C1 nc qc] 32)).alloc (.cells #[.slice none 0 0, .slice none 0 0, .slice none 0 0] 32)) = W := ⟨_, rfl⟩
    rw [hW0] at Fm Fc Ft hB0 sW0 ⊢
    clear hW0
    have m0 := Fm.out.cell 0 (.string name) rfl
    have m1 := Fm.out.cell 1 (.slice A la ca) rfl
    have m2 := Fm.out.cell 2 (.slice B lb cb) rfl
    have m3 := Fm.out.cell 3 (.slice Cl lc cl) rfl
    have m4 := Fm.out.cell 4 (.int .i64 r) rfl
    have m5 := Fm.out.cell 5 (.int .i64 z) rfl
    have m6 := Fm.out.cell 6 (.int .i64 nr) rfl
    have m7 := Fm.out.cell 7 (.int .i64 nz) rfl
    have m8 := Fm.out.cell 8 (.int .i64 step) rfl
    have m9 := Fm.out.cell 9 (.slice D ld cd) rfl
    have c0 := Fc.out.cell 0 (.slice A1 na qa) rfl
    have c1 := Fc.out.cell 1 (.slice B1 nb qb) rfl
    have c2 := Fc.out.cell 2 (.slice C1 nc qc) rfl
    have t0 := Ft.out.cell 0 (.slice none 0 0) rfl
    have tf0 := Ft.out.mark 0 (by simp)
    have t1 := Ft.out.cell 1 (.slice none 0 0) rfl
    have tf1 := Ft.out.mark 1 (by simp)
    have t2 := Ft.out.cell 2 (.slice none 0 0) rfl
    have tf2 := Ft.out.mark 2 (by simp)
    go_wp2_with fail
    refine (HV.out _ hB0).mono ?_
    rintro e w1 ⟨rfl, hb⟩
    clear m0 m1 m2 m3 m4 m5 m6 m7 m8 m9 c0 c1 c2 t0 tf0 t1 tf1 t2 tf2
    have Gm := Lib.hid (Fm.out.below hb)
    clear Fm
    have Fm := Lib.hid Gm.out
    clear Gm
    have Gc := Lib.hid (Fc.out.below hb)
    clear Fc
    have Fc := Lib.hid Gc.out
    clear Gc
    have Gt := Lib.hid (Ft.out.below hb)
    clear Ft
    have Ft := Lib.hid Gt.out
    clear Gt
    have m0 := Fm.out.cell 0 (.string name) rfl
    have m1 := Fm.out.cell 1 (.slice A la ca) rfl
    have m2 := Fm.out.cell 2 (.slice B lb cb) rfl
    have m3 := Fm.out.cell 3 (.slice Cl lc cl) rfl
    have m4 := Fm.out.cell 4 (.int .i64 r) rfl
    have m5 := Fm.out.cell 5 (.int .i64 z) rfl
    have m6 := Fm.out.cell 6 (.int .i64 nr) rfl
    have m7 := Fm.out.cell 7 (.int .i64 nz) rfl
    have m8 := Fm.out.cell 8 (.int .i64 step) rfl
    have m9 := Fm.out.cell 9 (.slice D ld cd) rfl
    have c0 := Fc.out.cell 0 (.slice A1 na qa) rfl
    have c1 := Fc.out.cell 1 (.slice B1 nb qb) rfl
    have c2 := Fc.out.cell 2 (.slice C1 nc qc) rfl
    have t0 := Ft.out.cell 0 (.slice none 0 0) rfl
    have tf0 := Ft.out.mark 0 (by simp)
    have t1 := Ft.out.cell 1 (.slice none 0 0) rfl
    have tf1 := Ft.out.mark 1 (by simp)
    have t2 := Ft.out.cell 2 (.slice none 0 0) rfl
    have tf2 := Ft.out.mark 2 (by simp)
    have hB1 := hB0.trans (hb.mono hB0.size)
    have hz1 : w.heap.size + 1 + 1 < w1.heap.size := Nat.lt_of_lt_of_le sW0 hb.size
    have hy1 : w.heap.size + 1 < w1.heap.size := by omega
    clear hb hB0 sW0
    go_wp2_with fail
    exact bodyPost_ret (resT Tryd.results13 _ _ _ _ _ _ _ rfl rfl (by (try simp only [isSome_setCell]); first | assumption | go_simp) (by (try simp only [isSome_setCell]); first | assumption | go_simp) (by (try simp only [isSome_setCell]); first | assumption | go_simp)) rfl ⟨rfl, by (with_reducible repeat first | exact Below.refl _ _ | assumption | ((first | refine Below.setCell ?_ ?_ _ | refine Below.alloc ?_ ?_ _); rotate_left; exact (by first | omega | (simp; done) | (simp; omega))) | refine Below.drew ?_ | refine Below_drewN ?_ _)⟩
  · rw [hv] at HV0 he
    rw [if_pos rfl] at he ⊢
    have hs := sound_of (fit2_iff.1 hv).check
    have hn := (fit2_iff.1 hv).plasma.1
    have hl := hC.plasma.1
    have hkc := hC.kc
    have HN0 := Lib.hid (fun W (hb : Below w.heap.size w W) => (by have h := rcells2_any R M W (hM.below hb); unfold cellsC at h; rw [if_pos (fit2_iff.1 hv).check, ← hn, hl] at h; exact h : Calls Tryd.prog 34 #[.agg (machCells R M)] W (Ret (.int .i64 (Qr.lc : Int)) W)))
    have v1 : IntKind.i64.wrap ((Qr.lc : Int) - 1) = (Qr.lc : Int) - 1 := IntWalk.i64_in _ (by omega)
    have HW1 := Lib.hid (fun U => rwithin4_any cell 0 ((Qr.lc : Int) - 1) U)
    have HW2 := Lib.hid (fun U => rwithin4_any cur 0 1000000 U)
    unfold inB at he ⊢
    rw [hl] at he ⊢
    cases h1 : wthn cell 0 ((Qr.lc : Int) - 1)
    · rw [h1] at HW1
      rw [Bool.false_and, if_neg (by decide)]
      clear hs hn hl hv he h1 HW2
      clear hM hC
      obtain ⟨A, B, Cl, D, la, ca, lb, cb, lc, cl, ld, cd⟩ := R
      obtain ⟨name, coils, shells, limits, ⟨r, z, nr, nz, step⟩, sensors⟩ := M
      obtain ⟨A1, B1, C1, na, qa, nb, qb, nc, qc⟩ := Qr
      dsimp only [CurR.v] at *
      have HV := Lib.hid (show ∀ W, Below w.heap.size w W → Calls Tryd.prog 26 #[.agg #[.string name, .slice A la ca, .slice B lb cb, .slice Cl lc cl, .int .i64 r, .int .i64 z, .int .i64 nr, .int .i64 nz, .int .i64 step, .slice D ld cd], .agg #[.slice A1 na qa, .slice B1 nb qb, .slice C1 nc qc]] W (Ret (.bool true) W) from HV0.out)
      clear HV0
      have HN := Lib.hid (show ∀ W, Below w.heap.size w W → Calls Tryd.prog 34 #[.agg #[.string name, .slice A la ca, .slice B lb cb, .slice Cl lc cl, .int .i64 r, .int .i64 z, .int .i64 nr, .int .i64 nz, .int .i64 step, .slice D ld cd]] W (Ret (.int .i64 (nc : Int)) W) from HN0.out)
      clear HN0
      show Calls Tryd.prog 13 #[.agg #[.string name, .slice A la ca, .slice B lb cb, .slice Cl lc cl, .int .i64 r, .int .i64 z, .int .i64 nr, .int .i64 nz, .int .i64 step, .slice D ld cd], .agg #[.slice A1 na qa, .slice B1 nb qb, .slice C1 nc qc], .int .i64 cell, .int .i64 cur] w _
      go_enter Tryd.func13, Tryd.ntmps13
      go_upto_region 1 with (fail)
      have Fm : Hid (RowL (w.heap.size) [.string name, .slice A la ca, .slice B lb cb, .slice Cl lc cl, .int .i64 r, .int .i64 z, .int .i64 nr, .int .i64 nz, .int .i64 step, .slice D ld cd] (((w.alloc (.cells #[.string name, .slice A la ca, .slice B lb cb, .slice Cl lc cl, .int .i64 r, .int .i64 z, .int .i64 nr, .int .i64 nz, .int .i64 step, .slice D ld cd] 29)).alloc (.cells #[.slice A1 na qa, .slice B1 nb qb, .slice C1 nc qc] 32)).alloc (.cells #[.slice none 0 0, .slice none 0 0, .slice none 0 0] 32))) := Lib.hid (by have h := RowL.new w #[.string name, .slice A la ca, .slice B lb cb, .slice Cl lc cl, .int .i64 r, .int .i64 z, .int .i64 nr, .int .i64 nz, .int .i64 step, .slice D ld cd] 29; (try simp only [World.size_alloc] at h); exact ((h.alloc _).alloc _))
      have Fc : Hid (RowL (w.heap.size + 1) [.slice A1 na qa, .slice B1 nb qb, .slice C1 nc qc] (((w.alloc (.cells #[.string name, .slice A la ca, .slice B lb cb, .slice Cl lc cl, .int .i64 r, .int .i64 z, .int .i64 nr, .int .i64 nz, .int .i64 step, .slice D ld cd] 29)).alloc (.cells #[.slice A1 na qa, .slice B1 nb qb, .slice C1 nc qc] 32)).alloc (.cells #[.slice none 0 0, .slice none 0 0, .slice none 0 0] 32))) := Lib.hid (by have h := RowL.new (w.alloc (.cells #[.string name, .slice A la ca, .slice B lb cb, .slice Cl lc cl, .int .i64 r, .int .i64 z, .int .i64 nr, .int .i64 nz, .int .i64 step, .slice D ld cd] 29)) #[.slice A1 na qa, .slice B1 nb qb, .slice C1 nc qc] 32; (try simp only [World.size_alloc] at h); exact (h.alloc _))
      have Ft : Hid (RowL (w.heap.size + 1 + 1) [.slice none 0 0, .slice none 0 0, .slice none 0 0] (((w.alloc (.cells #[.string name, .slice A la ca, .slice B lb cb, .slice Cl lc cl, .int .i64 r, .int .i64 z, .int .i64 nr, .int .i64 nz, .int .i64 step, .slice D ld cd] 29)).alloc (.cells #[.slice A1 na qa, .slice B1 nb qb, .slice C1 nc qc] 32)).alloc (.cells #[.slice none 0 0, .slice none 0 0, .slice none 0 0] 32))) := Lib.hid (by have h := RowL.new ((w.alloc (.cells #[.string name, .slice A la ca, .slice B lb cb, .slice Cl lc cl, .int .i64 r, .int .i64 z, .int .i64 nr, .int .i64 nz, .int .i64 step, .slice D ld cd] 29)).alloc (.cells #[.slice A1 na qa, .slice B1 nb qb, .slice C1 nc qc] 32)) #[.slice none 0 0, .slice none 0 0, .slice none 0 0] 32; (try simp only [World.size_alloc] at h); exact h)
      have hB0 : Below w.heap.size w (((w.alloc (.cells #[.string name, .slice A la ca, .slice B lb cb, .slice Cl lc cl, .int .i64 r, .int .i64 z, .int .i64 nr, .int .i64 nz, .int .i64 step, .slice D ld cd] 29)).alloc (.cells #[.slice A1 na qa, .slice B1 nb qb, .slice C1 nc qc] 32)).alloc (.cells #[.slice none 0 0, .slice none 0 0, .slice none 0 0] 32)) := by (with_reducible repeat first | exact Below.refl _ _ | assumption | ((first | refine Below.setCell ?_ ?_ _ | refine Below.alloc ?_ ?_ _); rotate_left; exact (by first | omega | (simp; done) | (simp; omega))) | refine Below.drew ?_ | refine Below_drewN ?_ _)
      have sW0 : w.heap.size + 1 + 1 < (((w.alloc (.cells #[.string name, .slice A la ca, .slice B lb cb, .slice Cl lc cl, .int .i64 r, .int .i64 z, .int .i64 nr, .int .i64 nz, .int .i64 step, .slice D ld cd] 29)).alloc (.cells #[.slice A1 na qa, .slice B1 nb qb, .slice C1 nc qc] 32)).alloc (.cells #[.slice none 0 0, .slice none 0 0, .slice none 0 0] 32)).heap.size := by simp only [World.size_alloc]; omega
      obtain ⟨W0, hW0⟩ : ∃ W, (((w.alloc (.cells #[.string name, .slice A la ca, .slice B lb cb, .slice Cl lc cl, .int .i64 r, .int .i64 z, .int .i64 nr, .int .i64 nz, .int .i64 step, .slice D ld cd] 29)).alloc (.cells #[.slice A1 na qa, .slice B1 nb qb, .slice C1 nc qc] 32)).alloc (.cells #[.slice none 0 0, .slice none 0 0, .slice none 0 0] 32)) = W := ⟨_, rfl⟩
      rw [hW0] at Fm Fc Ft hB0 sW0 ⊢
      clear hW0
      have m0 := Fm.out.cell 0 (.string name) rfl
      have m1 := Fm.out.cell 1 (.slice A la ca) rfl
      have m2 := Fm.out.cell 2 (.slice B lb cb) rfl
      have m3 := Fm.out.cell 3 (.slice Cl lc cl) rfl
      have m4 := Fm.out.cell 4 (.int .i64 r) rfl
      have m5 := Fm.out.cell 5 (.int .i64 z) rfl
      have m6 := Fm.out.cell 6 (.int .i64 nr) rfl
      have m7 := Fm.out.cell 7 (.int .i64 nz) rfl
      have m8 := Fm.out.cell 8 (.int .i64 step) rfl
      have m9 := Fm.out.cell 9 (.slice D ld cd) rfl
      have c0 := Fc.out.cell 0 (.slice A1 na qa) rfl
      have c1 := Fc.out.cell 1 (.slice B1 nb qb) rfl
      have c2 := Fc.out.cell 2 (.slice C1 nc qc) rfl
      have t0 := Ft.out.cell 0 (.slice none 0 0) rfl
      have tf0 := Ft.out.mark 0 (by simp)
      have t1 := Ft.out.cell 1 (.slice none 0 0) rfl
      have tf1 := Ft.out.mark 1 (by simp)
      have t2 := Ft.out.cell 2 (.slice none 0 0) rfl
      have tf2 := Ft.out.mark 2 (by simp)
      go_wp2_with fail
      refine (HV.out _ hB0).mono ?_
      rintro e w1 ⟨rfl, hb⟩
      clear m0 m1 m2 m3 m4 m5 m6 m7 m8 m9 c0 c1 c2 t0 tf0 t1 tf1 t2 tf2
      have Gm := Lib.hid (Fm.out.below hb)
      clear Fm
      have Fm := Lib.hid Gm.out
      clear Gm
      have Gc := Lib.hid (Fc.out.below hb)
      clear Fc
      have Fc := Lib.hid Gc.out
      clear Gc
      have Gt := Lib.hid (Ft.out.below hb)
      clear Ft
      have Ft := Lib.hid Gt.out
      clear Gt
      have m0 := Fm.out.cell 0 (.string name) rfl
      have m1 := Fm.out.cell 1 (.slice A la ca) rfl
      have m2 := Fm.out.cell 2 (.slice B lb cb) rfl
      have m3 := Fm.out.cell 3 (.slice Cl lc cl) rfl
      have m4 := Fm.out.cell 4 (.int .i64 r) rfl
      have m5 := Fm.out.cell 5 (.int .i64 z) rfl
      have m6 := Fm.out.cell 6 (.int .i64 nr) rfl
      have m7 := Fm.out.cell 7 (.int .i64 nz) rfl
      have m8 := Fm.out.cell 8 (.int .i64 step) rfl
      have m9 := Fm.out.cell 9 (.slice D ld cd) rfl
      have c0 := Fc.out.cell 0 (.slice A1 na qa) rfl
      have c1 := Fc.out.cell 1 (.slice B1 nb qb) rfl
      have c2 := Fc.out.cell 2 (.slice C1 nc qc) rfl
      have t0 := Ft.out.cell 0 (.slice none 0 0) rfl
      have tf0 := Ft.out.mark 0 (by simp)
      have t1 := Ft.out.cell 1 (.slice none 0 0) rfl
      have tf1 := Ft.out.mark 1 (by simp)
      have t2 := Ft.out.cell 2 (.slice none 0 0) rfl
      have tf2 := Ft.out.mark 2 (by simp)
      have hB1 := hB0.trans (hb.mono hB0.size)
      have hz1 : w.heap.size + 1 + 1 < w1.heap.size := Nat.lt_of_lt_of_le sW0 hb.size
      have hy1 : w.heap.size + 1 < w1.heap.size := by omega
      clear hb hB0 sW0
      go_wp2_with fail
      refine (HN.out _ (by (with_reducible repeat first | exact Below.refl _ _ | assumption | ((first | refine Below.setCell ?_ ?_ _ | refine Below.alloc ?_ ?_ _); rotate_left; exact (by first | omega | (simp; done) | (simp; omega))) | refine Below.drew ?_ | refine Below_drewN ?_ _))).mono ?_
      rintro e w2 ⟨rfl, hb⟩
      clear m0 m1 m2 m3 m4 m5 m6 m7 m8 m9 c0 c1 c2 t0 tf0 t1 tf1 t2 tf2
      have Gm := Lib.hid (Fm.out.below hb)
      clear Fm
      have Fm := Lib.hid Gm.out
      clear Gm
      have Gc := Lib.hid (Fc.out.below hb)
      clear Fc
      have Fc := Lib.hid Gc.out
      clear Gc
      have Gt := Lib.hid (Ft.out.below hb)
      clear Ft
      have Ft := Lib.hid Gt.out
      clear Gt
      have m0 := Fm.out.cell 0 (.string name) rfl
      have m1 := Fm.out.cell 1 (.slice A la ca) rfl
      have m2 := Fm.out.cell 2 (.slice B lb cb) rfl
      have m3 := Fm.out.cell 3 (.slice Cl lc cl) rfl
      have m4 := Fm.out.cell 4 (.int .i64 r) rfl
      have m5 := Fm.out.cell 5 (.int .i64 z) rfl
      have m6 := Fm.out.cell 6 (.int .i64 nr) rfl
      have m7 := Fm.out.cell 7 (.int .i64 nz) rfl
      have m8 := Fm.out.cell 8 (.int .i64 step) rfl
      have m9 := Fm.out.cell 9 (.slice D ld cd) rfl
      have c0 := Fc.out.cell 0 (.slice A1 na qa) rfl
      have c1 := Fc.out.cell 1 (.slice B1 nb qb) rfl
      have c2 := Fc.out.cell 2 (.slice C1 nc qc) rfl
      have t0 := Ft.out.cell 0 (.slice none 0 0) rfl
      have tf0 := Ft.out.mark 0 (by simp)
      have t1 := Ft.out.cell 1 (.slice none 0 0) rfl
      have tf1 := Ft.out.mark 1 (by simp)
      have t2 := Ft.out.cell 2 (.slice none 0 0) rfl
      have tf2 := Ft.out.mark 2 (by simp)
      have hB2 := hB1.trans (hb.mono hB1.size)
      have hz2 : w.heap.size + 1 + 1 < w2.heap.size := Nat.lt_of_lt_of_le hz1 hb.size
      have hy2 : w.heap.size + 1 < w2.heap.size := by omega
      clear hb
      go_wp2_with (go_at_call 27; refine (HW1.out _).mono ?_; rintro e w7 ⟨rfl, rfl⟩)
      exact bodyPost_ret (resT Tryd.results13 _ _ _ _ _ _ _ rfl rfl (by (try simp only [isSome_setCell]); first | assumption | go_simp) (by (try simp only [isSome_setCell]); first | assumption | go_simp) (by (try simp only [isSome_setCell]); first | assumption | go_simp)) rfl ⟨rfl, by (with_reducible repeat first | exact Below.refl _ _ | assumption | ((first | refine Below.setCell ?_ ?_ _ | refine Below.alloc ?_ ?_ _); rotate_left; exact (by first | omega | (simp; done) | (simp; omega))) | refine Below.drew ?_ | refine Below_drewN ?_ _)⟩
    · rw [h1] at HW1 he
      rw [Bool.true_and] at he ⊢
      cases h2 : wthn cur 0 1000000
      · rw [h2] at HW2
        rw [if_neg (by decide)]
        clear hs hn hl hv he h1 h2
        clear hM hC
        obtain ⟨A, B, Cl, D, la, ca, lb, cb, lc, cl, ld, cd⟩ := R
        obtain ⟨name, coils, shells, limits, ⟨r, z, nr, nz, step⟩, sensors⟩ := M
        obtain ⟨A1, B1, C1, na, qa, nb, qb, nc, qc⟩ := Qr
        dsimp only [CurR.v] at *
        have HV := Lib.hid (show ∀ W, Below w.heap.size w W → Calls Tryd.prog 26 #[.agg #[.string name, .slice A la ca, .slice B lb cb, .slice Cl lc cl, .int .i64 r, .int .i64 z, .int .i64 nr, .int .i64 nz, .int .i64 step, .slice D ld cd], .agg #[.slice A1 na qa, .slice B1 nb qb, .slice C1 nc qc]] W (Ret (.bool true) W) from HV0.out)
        clear HV0
        have HN := Lib.hid (show ∀ W, Below w.heap.size w W → Calls Tryd.prog 34 #[.agg #[.string name, .slice A la ca, .slice B lb cb, .slice Cl lc cl, .int .i64 r, .int .i64 z, .int .i64 nr, .int .i64 nz, .int .i64 step, .slice D ld cd]] W (Ret (.int .i64 (nc : Int)) W) from HN0.out)
        clear HN0
        show Calls Tryd.prog 13 #[.agg #[.string name, .slice A la ca, .slice B lb cb, .slice Cl lc cl, .int .i64 r, .int .i64 z, .int .i64 nr, .int .i64 nz, .int .i64 step, .slice D ld cd], .agg #[.slice A1 na qa, .slice B1 nb qb, .slice C1 nc qc], .int .i64 cell, .int .i64 cur] w _
        go_enter Tryd.func13, Tryd.ntmps13
        go_upto_region 1 with (fail)
        have Fm : Hid (RowL (w.heap.size) [.string name, .slice A la ca, .slice B lb cb, .slice Cl lc cl, .int .i64 r, .int .i64 z, .int .i64 nr, .int .i64 nz, .int .i64 step, .slice D ld cd] (((w.alloc (.cells #[.string name, .slice A la ca, .slice B lb cb, .slice Cl lc cl, .int .i64 r, .int .i64 z, .int .i64 nr, .int .i64 nz, .int .i64 step, .slice D ld cd] 29)).alloc (.cells #[.slice A1 na qa, .slice B1 nb qb, .slice C1 nc qc] 32)).alloc (.cells #[.slice none 0 0, .slice none 0 0, .slice none 0 0] 32))) := Lib.hid (by have h := RowL.new w #[.string name, .slice A la ca, .slice B lb cb, .slice Cl lc cl, .int .i64 r, .int .i64 z, .int .i64 nr, .int .i64 nz, .int .i64 step, .slice D ld cd] 29; (try simp only [World.size_alloc] at h); exact ((h.alloc _).alloc _))
        have Fc : Hid (RowL (w.heap.size + 1) [.slice A1 na qa, .slice B1 nb qb, .slice C1 nc qc] (((w.alloc (.cells #[.string name, .slice A la ca, .slice B lb cb, .slice Cl lc cl, .int .i64 r, .int .i64 z, .int .i64 nr, .int .i64 nz, .int .i64 step, .slice D ld cd] 29)).alloc (.cells #[.slice A1 na qa, .slice B1 nb qb, .slice C1 nc qc] 32)).alloc (.cells #[.slice none 0 0, .slice none 0 0, .slice none 0 0] 32))) := Lib.hid (by have h := RowL.new (w.alloc (.cells #[.string name, .slice A la ca, .slice B lb cb, .slice Cl lc cl, .int .i64 r, .int .i64 z, .int .i64 nr, .int .i64 nz, .int .i64 step, .slice D ld cd] 29)) #[.slice A1 na qa, .slice B1 nb qb, .slice C1 nc qc] 32; (try simp only [World.size_alloc] at h); exact (h.alloc _))
        have Ft : Hid (RowL (w.heap.size + 1 + 1) [.slice none 0 0, .slice none 0 0, .slice none 0 0] (((w.alloc (.cells #[.string name, .slice A la ca, .slice B lb cb, .slice Cl lc cl, .int .i64 r, .int .i64 z, .int .i64 nr, .int .i64 nz, .int .i64 step, .slice D ld cd] 29)).alloc (.cells #[.slice A1 na qa, .slice B1 nb qb, .slice C1 nc qc] 32)).alloc (.cells #[.slice none 0 0, .slice none 0 0, .slice none 0 0] 32))) := Lib.hid (by have h := RowL.new ((w.alloc (.cells #[.string name, .slice A la ca, .slice B lb cb, .slice Cl lc cl, .int .i64 r, .int .i64 z, .int .i64 nr, .int .i64 nz, .int .i64 step, .slice D ld cd] 29)).alloc (.cells #[.slice A1 na qa, .slice B1 nb qb, .slice C1 nc qc] 32)) #[.slice none 0 0, .slice none 0 0, .slice none 0 0] 32; (try simp only [World.size_alloc] at h); exact h)
        have hB0 : Below w.heap.size w (((w.alloc (.cells #[.string name, .slice A la ca, .slice B lb cb, .slice Cl lc cl, .int .i64 r, .int .i64 z, .int .i64 nr, .int .i64 nz, .int .i64 step, .slice D ld cd] 29)).alloc (.cells #[.slice A1 na qa, .slice B1 nb qb, .slice C1 nc qc] 32)).alloc (.cells #[.slice none 0 0, .slice none 0 0, .slice none 0 0] 32)) := by (with_reducible repeat first | exact Below.refl _ _ | assumption | ((first | refine Below.setCell ?_ ?_ _ | refine Below.alloc ?_ ?_ _); rotate_left; exact (by first | omega | (simp; done) | (simp; omega))) | refine Below.drew ?_ | refine Below_drewN ?_ _)
        have sW0 : w.heap.size + 1 + 1 < (((w.alloc (.cells #[.string name, .slice A la ca, .slice B lb cb, .slice Cl lc cl, .int .i64 r, .int .i64 z, .int .i64 nr, .int .i64 nz, .int .i64 step, .slice D ld cd] 29)).alloc (.cells #[.slice A1 na qa, .slice B1 nb qb, .slice C1 nc qc] 32)).alloc (.cells #[.slice none 0 0, .slice none 0 0, .slice none 0 0] 32)).heap.size := by simp only [World.size_alloc]; omega
        obtain ⟨W0, hW0⟩ : ∃ W, (((w.alloc (.cells #[.string name, .slice A la ca, .slice B lb cb, .slice Cl lc cl, .int .i64 r, .int .i64 z, .int .i64 nr, .int .i64 nz, .int .i64 step, .slice D ld cd] 29)).alloc (.cells #[.slice A1 na qa, .slice B1 nb qb, .slice C1 nc qc] 32)).alloc (.cells #[.slice none 0 0, .slice none 0 0, .slice none 0 0] 32)) = W := ⟨_, rfl⟩
        rw [hW0] at Fm Fc Ft hB0 sW0 ⊢
        clear hW0
        have m0 := Fm.out.cell 0 (.string name) rfl
        have m1 := Fm.out.cell 1 (.slice A la ca) rfl
        have m2 := Fm.out.cell 2 (.slice B lb cb) rfl
        have m3 := Fm.out.cell 3 (.slice Cl lc cl) rfl
        have m4 := Fm.out.cell 4 (.int .i64 r) rfl
        have m5 := Fm.out.cell 5 (.int .i64 z) rfl
        have m6 := Fm.out.cell 6 (.int .i64 nr) rfl
        have m7 := Fm.out.cell 7 (.int .i64 nz) rfl
        have m8 := Fm.out.cell 8 (.int .i64 step) rfl
        have m9 := Fm.out.cell 9 (.slice D ld cd) rfl
        have c0 := Fc.out.cell 0 (.slice A1 na qa) rfl
        have c1 := Fc.out.cell 1 (.slice B1 nb qb) rfl
        have c2 := Fc.out.cell 2 (.slice C1 nc qc) rfl
        have t0 := Ft.out.cell 0 (.slice none 0 0) rfl
        have tf0 := Ft.out.mark 0 (by simp)
        have t1 := Ft.out.cell 1 (.slice none 0 0) rfl
        have tf1 := Ft.out.mark 1 (by simp)
        have t2 := Ft.out.cell 2 (.slice none 0 0) rfl
        have tf2 := Ft.out.mark 2 (by simp)
        go_wp2_with fail
        refine (HV.out _ hB0).mono ?_
        rintro e w1 ⟨rfl, hb⟩
        clear m0 m1 m2 m3 m4 m5 m6 m7 m8 m9 c0 c1 c2 t0 tf0 t1 tf1 t2 tf2
        have Gm := Lib.hid (Fm.out.below hb)
        clear Fm
        have Fm := Lib.hid Gm.out
        clear Gm
        have Gc := Lib.hid (Fc.out.below hb)
        clear Fc
        have Fc := Lib.hid Gc.out
        clear Gc
        have Gt := Lib.hid (Ft.out.below hb)
        clear Ft
        have Ft := Lib.hid Gt.out
        clear Gt
        have m0 := Fm.out.cell 0 (.string name) rfl
        have m1 := Fm.out.cell 1 (.slice A la ca) rfl
        have m2 := Fm.out.cell 2 (.slice B lb cb) rfl
        have m3 := Fm.out.cell 3 (.slice Cl lc cl) rfl
        have m4 := Fm.out.cell 4 (.int .i64 r) rfl
        have m5 := Fm.out.cell 5 (.int .i64 z) rfl
        have m6 := Fm.out.cell 6 (.int .i64 nr) rfl
        have m7 := Fm.out.cell 7 (.int .i64 nz) rfl
        have m8 := Fm.out.cell 8 (.int .i64 step) rfl
        have m9 := Fm.out.cell 9 (.slice D ld cd) rfl
        have c0 := Fc.out.cell 0 (.slice A1 na qa) rfl
        have c1 := Fc.out.cell 1 (.slice B1 nb qb) rfl
        have c2 := Fc.out.cell 2 (.slice C1 nc qc) rfl
        have t0 := Ft.out.cell 0 (.slice none 0 0) rfl
        have tf0 := Ft.out.mark 0 (by simp)
        have t1 := Ft.out.cell 1 (.slice none 0 0) rfl
        have tf1 := Ft.out.mark 1 (by simp)
        have t2 := Ft.out.cell 2 (.slice none 0 0) rfl
        have tf2 := Ft.out.mark 2 (by simp)
        have hB1 := hB0.trans (hb.mono hB0.size)
        have hz1 : w.heap.size + 1 + 1 < w1.heap.size := Nat.lt_of_lt_of_le sW0 hb.size
        have hy1 : w.heap.size + 1 < w1.heap.size := by omega
        clear hb hB0 sW0
        go_wp2_with fail
        refine (HN.out _ (by (with_reducible repeat first | exact Below.refl _ _ | assumption | ((first | refine Below.setCell ?_ ?_ _ | refine Below.alloc ?_ ?_ _); rotate_left; exact (by first | omega | (simp; done) | (simp; omega))) | refine Below.drew ?_ | refine Below_drewN ?_ _))).mono ?_
        rintro e w2 ⟨rfl, hb⟩
        clear m0 m1 m2 m3 m4 m5 m6 m7 m8 m9 c0 c1 c2 t0 tf0 t1 tf1 t2 tf2
        have Gm := Lib.hid (Fm.out.below hb)
        clear Fm
        have Fm := Lib.hid Gm.out
        clear Gm
        have Gc := Lib.hid (Fc.out.below hb)
        clear Fc
        have Fc := Lib.hid Gc.out
        clear Gc
        have Gt := Lib.hid (Ft.out.below hb)
        clear Ft
        have Ft := Lib.hid Gt.out
        clear Gt
        have m0 := Fm.out.cell 0 (.string name) rfl
        have m1 := Fm.out.cell 1 (.slice A la ca) rfl
        have m2 := Fm.out.cell 2 (.slice B lb cb) rfl
        have m3 := Fm.out.cell 3 (.slice Cl lc cl) rfl
        have m4 := Fm.out.cell 4 (.int .i64 r) rfl
        have m5 := Fm.out.cell 5 (.int .i64 z) rfl
        have m6 := Fm.out.cell 6 (.int .i64 nr) rfl
        have m7 := Fm.out.cell 7 (.int .i64 nz) rfl
        have m8 := Fm.out.cell 8 (.int .i64 step) rfl
        have m9 := Fm.out.cell 9 (.slice D ld cd) rfl
        have c0 := Fc.out.cell 0 (.slice A1 na qa) rfl
        have c1 := Fc.out.cell 1 (.slice B1 nb qb) rfl
        have c2 := Fc.out.cell 2 (.slice C1 nc qc) rfl
        have t0 := Ft.out.cell 0 (.slice none 0 0) rfl
        have tf0 := Ft.out.mark 0 (by simp)
        have t1 := Ft.out.cell 1 (.slice none 0 0) rfl
        have tf1 := Ft.out.mark 1 (by simp)
        have t2 := Ft.out.cell 2 (.slice none 0 0) rfl
        have tf2 := Ft.out.mark 2 (by simp)
        have hB2 := hB1.trans (hb.mono hB1.size)
        have hz2 : w.heap.size + 1 + 1 < w2.heap.size := Nat.lt_of_lt_of_le hz1 hb.size
        have hy2 : w.heap.size + 1 < w2.heap.size := by omega
        clear hb
        go_wp2_with (go_at_call 27; first | ((with_reducible refine (HW1.out _).mono ?_); rintro e w7 ⟨rfl, rfl⟩) | ((with_reducible refine (HW2.out _).mono ?_); rintro e w7 ⟨rfl, rfl⟩))
        exact bodyPost_ret (resT Tryd.results13 _ _ _ _ _ _ _ rfl rfl (by (try simp only [isSome_setCell]); first | assumption | go_simp) (by (try simp only [isSome_setCell]); first | assumption | go_simp) (by (try simp only [isSome_setCell]); first | assumption | go_simp)) rfl ⟨rfl, by (with_reducible repeat first | exact Below.refl _ _ | assumption | ((first | refine Below.setCell ?_ ?_ _ | refine Below.alloc ?_ ?_ _); rotate_left; exact (by first | omega | (simp; done) | (simp; omega))) | refine Below.drew ?_ | refine Below_drewN ?_ _)⟩
      · rw [h2] at he
        exact absurd rfl he

set_option maxRecDepth 100000 in
set_option maxHeartbeats 8000000 in
theorem rfilament_ok (R : MachR) (M : MachD) (Qr : CurR) (Cd : CurD) (cell cur : Int) (w : World) (hM : IsM w R M) (hC : IsC w Qr Cd) (he : filaE M Cd cell cur = 0) :
    Calls Tryd.prog 13 #[.agg (machCells R M), Qr.v, .int .i64 cell, .int .i64 cur] w (FilaAt Qr.la Qr.lb Qr.lc (filaD Cd cell cur) w) := by
  have HV0 := Lib.hid (fun W (hb : Below w.heap.size w W) => rvalid2_any R M Qr Cd W (hM.below hb) (hC.below hb))
  have hv : validC M Cd = true := by
    unfold filaE at he
    cases hv : validC M Cd
    · rw [hv] at he; simp at he
    · rfl
  have hi : inB Cd cell cur = true := by
    unfold filaE at he
    rw [hv, if_pos rfl] at he
    cases hi : inB Cd cell cur
    · rw [hi] at he; simp at he
    · rfl
  rw [hv] at HV0
  have hf := fit2_iff.1 hv
  have hfc := cells_fine (sound_of hf.check).grid
  have e1 := hC.coils.1
  have e2 := hC.shells.1
  have e3 := hC.plasma.1
  have e4 := hf.coils.1
  have e5 := hf.shells.1
  have e6 := hf.plasma.1
  have e7 := (sound_of hf.check).coils.1
  have e8 := (sound_of hf.check).shells.1
  have l1 : Qr.la ≤ 1000 := by omega
  have l2 : Qr.lb ≤ 1000 := by omega
  have l3 : Qr.lc ≤ 1000 := by omega
  have hs := sound_of (fit2_iff.1 hv).check
  have hn := (fit2_iff.1 hv).plasma.1
  have hl := hC.plasma.1
  have hkc := hC.kc
  have HN0 := Lib.hid (fun W (hb : Below w.heap.size w W) => (by have h := rcells2_any R M W (hM.below hb); unfold cellsC at h; rw [if_pos (fit2_iff.1 hv).check, ← hn, hl] at h; exact h : Calls Tryd.prog 34 #[.agg (machCells R M)] W (Ret (.int .i64 (Qr.lc : Int)) W)))
  have v1 : IntKind.i64.wrap ((Qr.lc : Int) - 1) = (Qr.lc : Int) - 1 := IntWalk.i64_in _ (by omega)
  have HW1 := Lib.hid (fun U => rwithin4_any cell 0 ((Qr.lc : Int) - 1) U)
  have HW2 := Lib.hid (fun U => rwithin4_any cur 0 1000000 U)
  unfold inB at hi
  rw [e3, Bool.and_eq_true] at hi
  obtain ⟨h1, h2⟩ := hi
  rw [h1] at HW1
  rw [h2] at HW2
  have hw := wthn_iff.1 h1
  have HD0 := Lib.hid (fun W (hb : Below w.heap.size w W) => rdark_any R M Qr.A Qr.B Qr.C Qr.la Qr.ca Qr.lb Qr.cb Qr.lc Qr.cc Cd.coils Cd.shells W (hC.below hb).coils (hC.below hb).shells l1 l2 l3)
  obtain ⟨i, rfl⟩ : ∃ i : Nat, cell = i := ⟨cell.toNat, by omega⟩
  have hin : i < Qr.lc := by omega
  have i0 : (0 : Int) ≤ i := by omega
  unfold filaD
  rw [e3, Int.toNat_natCast]
  clear he hv hf hfc e1 e2 e3 e4 e5 e6 e7 e8 hs hn hl h1 h2 hw
  obtain ⟨z1, z2, z3⟩ := Cd
  clear hM hC
  obtain ⟨A, B, Cl, D, la, ca, lb, cb, lc, cl, ld, cd⟩ := R
  obtain ⟨name, coils, shells, limits, ⟨r, z, nr, nz, step⟩, sensors⟩ := M
  obtain ⟨A1, B1, C1, na, qa, nb, qb, nc, qc⟩ := Qr
  dsimp only [CurR.v] at *
  have HV := Lib.hid (show ∀ W, Below w.heap.size w W → Calls Tryd.prog 26 #[.agg #[.string name, .slice A la ca, .slice B lb cb, .slice Cl lc cl, .int .i64 r, .int .i64 z, .int .i64 nr, .int .i64 nz, .int .i64 step, .slice D ld cd], .agg #[.slice A1 na qa, .slice B1 nb qb, .slice C1 nc qc]] W (Ret (.bool true) W) from HV0.out)
  clear HV0
  have HD := Lib.hid (show ∀ W, Below w.heap.size w W → Calls Tryd.prog 29 #[.agg #[.string name, .slice A la ca, .slice B lb cb, .slice Cl lc cl, .int .i64 r, .int .i64 z, .int .i64 nr, .int .i64 nz, .int .i64 step, .slice D ld cd], .agg #[.slice A1 na qa, .slice B1 nb qb, .slice C1 nc qc]] W (Dark na nb nc z1 z2 W) from HD0.out)
  clear HD0
  have HN := Lib.hid (show ∀ W, Below w.heap.size w W → Calls Tryd.prog 34 #[.agg #[.string name, .slice A la ca, .slice B lb cb, .slice Cl lc cl, .int .i64 r, .int .i64 z, .int .i64 nr, .int .i64 nz, .int .i64 step, .slice D ld cd]] W (Ret (.int .i64 (nc : Int)) W) from HN0.out)
  clear HN0
  show Calls Tryd.prog 13 #[.agg #[.string name, .slice A la ca, .slice B lb cb, .slice Cl lc cl, .int .i64 r, .int .i64 z, .int .i64 nr, .int .i64 nz, .int .i64 step, .slice D ld cd], .agg #[.slice A1 na qa, .slice B1 nb qb, .slice C1 nc qc], .int .i64 i, .int .i64 cur] w _
  go_enter Tryd.func13, Tryd.ntmps13
  go_upto_region 1 with (fail)
  have Fm : Hid (RowL (w.heap.size) [.string name, .slice A la ca, .slice B lb cb, .slice Cl lc cl, .int .i64 r, .int .i64 z, .int .i64 nr, .int .i64 nz, .int .i64 step, .slice D ld cd] (((w.alloc (.cells #[.string name, .slice A la ca, .slice B lb cb, .slice Cl lc cl, .int .i64 r, .int .i64 z, .int .i64 nr, .int .i64 nz, .int .i64 step, .slice D ld cd] 29)).alloc (.cells #[.slice A1 na qa, .slice B1 nb qb, .slice C1 nc qc] 32)).alloc (.cells #[.slice none 0 0, .slice none 0 0, .slice none 0 0] 32))) := Lib.hid (by have h := RowL.new w #[.string name, .slice A la ca, .slice B lb cb, .slice Cl lc cl, .int .i64 r, .int .i64 z, .int .i64 nr, .int .i64 nz, .int .i64 step, .slice D ld cd] 29; (try simp only [World.size_alloc] at h); exact ((h.alloc _).alloc _))
  have Fc : Hid (RowL (w.heap.size + 1) [.slice A1 na qa, .slice B1 nb qb, .slice C1 nc qc] (((w.alloc (.cells #[.string name, .slice A la ca, .slice B lb cb, .slice Cl lc cl, .int .i64 r, .int .i64 z, .int .i64 nr, .int .i64 nz, .int .i64 step, .slice D ld cd] 29)).alloc (.cells #[.slice A1 na qa, .slice B1 nb qb, .slice C1 nc qc] 32)).alloc (.cells #[.slice none 0 0, .slice none 0 0, .slice none 0 0] 32))) := Lib.hid (by have h := RowL.new (w.alloc (.cells #[.string name, .slice A la ca, .slice B lb cb, .slice Cl lc cl, .int .i64 r, .int .i64 z, .int .i64 nr, .int .i64 nz, .int .i64 step, .slice D ld cd] 29)) #[.slice A1 na qa, .slice B1 nb qb, .slice C1 nc qc] 32; (try simp only [World.size_alloc] at h); exact (h.alloc _))
  have Ft : Hid (RowL (w.heap.size + 1 + 1) [.slice none 0 0, .slice none 0 0, .slice none 0 0] (((w.alloc (.cells #[.string name, .slice A la ca, .slice B lb cb, .slice Cl lc cl, .int .i64 r, .int .i64 z, .int .i64 nr, .int .i64 nz, .int .i64 step, .slice D ld cd] 29)).alloc (.cells #[.slice A1 na qa, .slice B1 nb qb, .slice C1 nc qc] 32)).alloc (.cells #[.slice none 0 0, .slice none 0 0, .slice none 0 0] 32))) := Lib.hid (by have h := RowL.new ((w.alloc (.cells #[.string name, .slice A la ca, .slice B lb cb, .slice Cl lc cl, .int .i64 r, .int .i64 z, .int .i64 nr, .int .i64 nz, .int .i64 step, .slice D ld cd] 29)).alloc (.cells #[.slice A1 na qa, .slice B1 nb qb, .slice C1 nc qc] 32)) #[.slice none 0 0, .slice none 0 0, .slice none 0 0] 32; (try simp only [World.size_alloc] at h); exact h)
  have hB0 : Below w.heap.size w (((w.alloc (.cells #[.string name, .slice A la ca, .slice B lb cb, .slice Cl lc cl, .int .i64 r, .int .i64 z, .int .i64 nr, .int .i64 nz, .int .i64 step, .slice D ld cd] 29)).alloc (.cells #[.slice A1 na qa, .slice B1 nb qb, .slice C1 nc qc] 32)).alloc (.cells #[.slice none 0 0, .slice none 0 0, .slice none 0 0] 32)) := by (with_reducible repeat first | exact Below.refl _ _ | assumption | ((first | refine Below.setCell ?_ ?_ _ | refine Below.alloc ?_ ?_ _); rotate_left; exact (by first | omega | (simp; done) | (simp; omega))) | refine Below.drew ?_ | refine Below_drewN ?_ _)
  have sW0 : w.heap.size + 1 + 1 < (((w.alloc (.cells #[.string name, .slice A la ca, .slice B lb cb, .slice Cl lc cl, .int .i64 r, .int .i64 z, .int .i64 nr, .int .i64 nz, .int .i64 step, .slice D ld cd] 29)).alloc (.cells #[.slice A1 na qa, .slice B1 nb qb, .slice C1 nc qc] 32)).alloc (.cells #[.slice none 0 0, .slice none 0 0, .slice none 0 0] 32)).heap.size := by simp only [World.size_alloc]; omega
  obtain ⟨W0, hW0⟩ : ∃ W, (((w.alloc (.cells #[.string name, .slice A la ca, .slice B lb cb, .slice Cl lc cl, .int .i64 r, .int .i64 z, .int .i64 nr, .int .i64 nz, .int .i64 step, .slice D ld cd] 29)).alloc (.cells #[.slice A1 na qa, .slice B1 nb qb, .slice C1 nc qc] 32)).alloc (.cells #[.slice none 0 0, .slice none 0 0, .slice none 0 0] 32)) = W := ⟨_, rfl⟩
  rw [hW0] at Fm Fc Ft hB0 sW0 ⊢
  clear hW0
  have m0 := Fm.out.cell 0 (.string name) rfl
  have m1 := Fm.out.cell 1 (.slice A la ca) rfl
  have m2 := Fm.out.cell 2 (.slice B lb cb) rfl
  have m3 := Fm.out.cell 3 (.slice Cl lc cl) rfl
  have m4 := Fm.out.cell 4 (.int .i64 r) rfl
  have m5 := Fm.out.cell 5 (.int .i64 z) rfl
  have m6 := Fm.out.cell 6 (.int .i64 nr) rfl
  have m7 := Fm.out.cell 7 (.int .i64 nz) rfl
  have m8 := Fm.out.cell 8 (.int .i64 step) rfl
  have m9 := Fm.out.cell 9 (.slice D ld cd) rfl
  have c0 := Fc.out.cell 0 (.slice A1 na qa) rfl
  have c1 := Fc.out.cell 1 (.slice B1 nb qb) rfl
  have c2 := Fc.out.cell 2 (.slice C1 nc qc) rfl
  have t0 := Ft.out.cell 0 (.slice none 0 0) rfl
  have tf0 := Ft.out.mark 0 (by simp)
  have t1 := Ft.out.cell 1 (.slice none 0 0) rfl
  have tf1 := Ft.out.mark 1 (by simp)
  have t2 := Ft.out.cell 2 (.slice none 0 0) rfl
  have tf2 := Ft.out.mark 2 (by simp)
  go_wp2_with fail
  refine (HV.out _ hB0).mono ?_
  rintro e w1 ⟨rfl, hb⟩
  clear m0 m1 m2 m3 m4 m5 m6 m7 m8 m9 c0 c1 c2 t0 tf0 t1 tf1 t2 tf2
  have Gm := Lib.hid (Fm.out.below hb)
  clear Fm
  have Fm := Lib.hid Gm.out
  clear Gm
  have Gc := Lib.hid (Fc.out.below hb)
  clear Fc
  have Fc := Lib.hid Gc.out
  clear Gc
  have Gt := Lib.hid (Ft.out.below hb)
  clear Ft
  have Ft := Lib.hid Gt.out
  clear Gt
  have m0 := Fm.out.cell 0 (.string name) rfl
  have m1 := Fm.out.cell 1 (.slice A la ca) rfl
  have m2 := Fm.out.cell 2 (.slice B lb cb) rfl
  have m3 := Fm.out.cell 3 (.slice Cl lc cl) rfl
  have m4 := Fm.out.cell 4 (.int .i64 r) rfl
  have m5 := Fm.out.cell 5 (.int .i64 z) rfl
  have m6 := Fm.out.cell 6 (.int .i64 nr) rfl
  have m7 := Fm.out.cell 7 (.int .i64 nz) rfl
  have m8 := Fm.out.cell 8 (.int .i64 step) rfl
  have m9 := Fm.out.cell 9 (.slice D ld cd) rfl
  have c0 := Fc.out.cell 0 (.slice A1 na qa) rfl
  have c1 := Fc.out.cell 1 (.slice B1 nb qb) rfl
  have c2 := Fc.out.cell 2 (.slice C1 nc qc) rfl
  have t0 := Ft.out.cell 0 (.slice none 0 0) rfl
  have tf0 := Ft.out.mark 0 (by simp)
  have t1 := Ft.out.cell 1 (.slice none 0 0) rfl
  have tf1 := Ft.out.mark 1 (by simp)
  have t2 := Ft.out.cell 2 (.slice none 0 0) rfl
  have tf2 := Ft.out.mark 2 (by simp)
  have hB1 := hB0.trans (hb.mono hB0.size)
  have hz1 : w.heap.size + 1 + 1 < w1.heap.size := Nat.lt_of_lt_of_le sW0 hb.size
  have hy1 : w.heap.size + 1 < w1.heap.size := by omega
  clear hb hB0 sW0
  go_wp2_with fail
  refine (HN.out _ (by (with_reducible repeat first | exact Below.refl _ _ | assumption | ((first | refine Below.setCell ?_ ?_ _ | refine Below.alloc ?_ ?_ _); rotate_left; exact (by first | omega | (simp; done) | (simp; omega))) | refine Below.drew ?_ | refine Below_drewN ?_ _))).mono ?_
  rintro e w2 ⟨rfl, hb⟩
  clear m0 m1 m2 m3 m4 m5 m6 m7 m8 m9 c0 c1 c2 t0 tf0 t1 tf1 t2 tf2
  have Gm := Lib.hid (Fm.out.below hb)
  clear Fm
  have Fm := Lib.hid Gm.out
  clear Gm
  have Gc := Lib.hid (Fc.out.below hb)
  clear Fc
  have Fc := Lib.hid Gc.out
  clear Gc
  have Gt := Lib.hid (Ft.out.below hb)
  clear Ft
  have Ft := Lib.hid Gt.out
  clear Gt
  have m0 := Fm.out.cell 0 (.string name) rfl
  have m1 := Fm.out.cell 1 (.slice A la ca) rfl
  have m2 := Fm.out.cell 2 (.slice B lb cb) rfl
  have m3 := Fm.out.cell 3 (.slice Cl lc cl) rfl
  have m4 := Fm.out.cell 4 (.int .i64 r) rfl
  have m5 := Fm.out.cell 5 (.int .i64 z) rfl
  have m6 := Fm.out.cell 6 (.int .i64 nr) rfl
  have m7 := Fm.out.cell 7 (.int .i64 nz) rfl
  have m8 := Fm.out.cell 8 (.int .i64 step) rfl
  have m9 := Fm.out.cell 9 (.slice D ld cd) rfl
  have c0 := Fc.out.cell 0 (.slice A1 na qa) rfl
  have c1 := Fc.out.cell 1 (.slice B1 nb qb) rfl
  have c2 := Fc.out.cell 2 (.slice C1 nc qc) rfl
  have t0 := Ft.out.cell 0 (.slice none 0 0) rfl
  have tf0 := Ft.out.mark 0 (by simp)
  have t1 := Ft.out.cell 1 (.slice none 0 0) rfl
  have tf1 := Ft.out.mark 1 (by simp)
  have t2 := Ft.out.cell 2 (.slice none 0 0) rfl
  have tf2 := Ft.out.mark 2 (by simp)
  have hB2 := hB1.trans (hb.mono hB1.size)
  have hz2 : w.heap.size + 1 + 1 < w2.heap.size := Nat.lt_of_lt_of_le hz1 hb.size
  have hy2 : w.heap.size + 1 < w2.heap.size := by omega
  clear hb
  go_wp2_with (go_at_call 27; first | ((with_reducible refine (HW1.out _).mono ?_); rintro e w7 ⟨rfl, rfl⟩) | ((with_reducible refine (HW2.out _).mono ?_); rintro e w7 ⟨rfl, rfl⟩))
  refine (HD.out _ (by (with_reducible repeat first | exact Below.refl _ _ | assumption | ((first | refine Below.setCell ?_ ?_ _ | refine Below.alloc ?_ ?_ _); rotate_left; exact (by first | omega | (simp; done) | (simp; omega))) | refine Below.drew ?_ | refine Below_drewN ?_ _))).mono ?_
  rintro e w3 ⟨A', ca', A2', cb', pb, rfl, hd, hb⟩
  clear m0 m1 m2 m3 m4 m5 m6 m7 m8 m9 c0 c1 c2 t0 tf0 t1 tf1 t2 tf2
  have Gm := Lib.hid (Fm.out.below hb)
  clear Fm
  have Fm := Lib.hid Gm.out
  clear Gm
  have Gc := Lib.hid (Fc.out.below hb)
  clear Fc
  have Fc := Lib.hid Gc.out
  clear Gc
  have Gt := Lib.hid (Ft.out.below hb)
  clear Ft
  have Ft := Lib.hid Gt.out
  clear Gt
  have m0 := Fm.out.cell 0 (.string name) rfl
  have m1 := Fm.out.cell 1 (.slice A la ca) rfl
  have m2 := Fm.out.cell 2 (.slice B lb cb) rfl
  have m3 := Fm.out.cell 3 (.slice Cl lc cl) rfl
  have m4 := Fm.out.cell 4 (.int .i64 r) rfl
  have m5 := Fm.out.cell 5 (.int .i64 z) rfl
  have m6 := Fm.out.cell 6 (.int .i64 nr) rfl
  have m7 := Fm.out.cell 7 (.int .i64 nz) rfl
  have m8 := Fm.out.cell 8 (.int .i64 step) rfl
  have m9 := Fm.out.cell 9 (.slice D ld cd) rfl
  have c0 := Fc.out.cell 0 (.slice A1 na qa) rfl
  have c1 := Fc.out.cell 1 (.slice B1 nb qb) rfl
  have c2 := Fc.out.cell 2 (.slice C1 nc qc) rfl
  have t0 := Ft.out.cell 0 (.slice none 0 0) rfl
  have tf0 := Ft.out.mark 0 (by simp)
  have t1 := Ft.out.cell 1 (.slice none 0 0) rfl
  have tf1 := Ft.out.mark 1 (by simp)
  have t2 := Ft.out.cell 2 (.slice none 0 0) rfl
  have tf2 := Ft.out.mark 2 (by simp)
  have hB3 := hB2.trans (hb.mono hB2.size)
  have hz3 : w.heap.size + 1 + 1 < w3.heap.size := Nat.lt_of_lt_of_le hz2 hb.size
  have hap := hd.apart
  have hpb := hd.base
  have g2 := hd.lt
  have g3 : ¬ w3.heap.size = pb := by omega
  have Hd := Lib.hid hd
  clear hb hd
  go_upto_region 6 with (fail)
  have Fq : Hid (RowL (w3.heap.size) [.slice A' na ca', .slice A2' nb cb', .slice (some ⟨pb, 0, none⟩) nc nc] (w3.alloc (.cells #[.slice A' na ca', .slice A2' nb cb', .slice (some ⟨pb, 0, none⟩) nc nc] 32))) := Lib.hid (by have h := RowL.new w3 #[.slice A' na ca', .slice A2' nb cb', .slice (some ⟨pb, 0, none⟩) nc nc] 32; (try simp only [World.size_alloc] at h); exact h)
  have hb4 : Below w3.heap.size w3 (w3.alloc (.cells #[.slice A' na ca', .slice A2' nb cb', .slice (some ⟨pb, 0, none⟩) nc nc] 32)) := by (with_reducible repeat first | exact Below.refl _ _ | assumption | ((first | refine Below.setCell ?_ ?_ _ | refine Below.alloc ?_ ?_ _); rotate_left; exact (by first | omega | (simp; done) | (simp; omega))) | refine Below.drew ?_ | refine Below_drewN ?_ _)
  have sW4 : w3.heap.size < (w3.alloc (.cells #[.slice A' na ca', .slice A2' nb cb', .slice (some ⟨pb, 0, none⟩) nc nc] 32)).heap.size := by simp only [World.size_alloc]; omega
  obtain ⟨W4, hW4⟩ : ∃ W, (w3.alloc (.cells #[.slice A' na ca', .slice A2' nb cb', .slice (some ⟨pb, 0, none⟩) nc nc] 32)) = W := ⟨_, rfl⟩
  rw [hW4] at Fq hb4 sW4 ⊢
  clear hW4
  clear m0 m1 m2 m3 m4 m5 m6 m7 m8 m9 c0 c1 c2 t0 tf0 t1 tf1 t2 tf2
  have Gm := Lib.hid (Fm.out.below hb4)
  clear Fm
  have Fm := Lib.hid Gm.out
  clear Gm
  have Gc := Lib.hid (Fc.out.below hb4)
  clear Fc
  have Fc := Lib.hid Gc.out
  clear Gc
  have Gt := Lib.hid (Ft.out.below hb4)
  clear Ft
  have Ft := Lib.hid Gt.out
  clear Gt
  have m0 := Fm.out.cell 0 (.string name) rfl
  have m1 := Fm.out.cell 1 (.slice A la ca) rfl
  have m2 := Fm.out.cell 2 (.slice B lb cb) rfl
  have m3 := Fm.out.cell 3 (.slice Cl lc cl) rfl
  have m4 := Fm.out.cell 4 (.int .i64 r) rfl
  have m5 := Fm.out.cell 5 (.int .i64 z) rfl
  have m6 := Fm.out.cell 6 (.int .i64 nr) rfl
  have m7 := Fm.out.cell 7 (.int .i64 nz) rfl
  have m8 := Fm.out.cell 8 (.int .i64 step) rfl
  have m9 := Fm.out.cell 9 (.slice D ld cd) rfl
  have c0 := Fc.out.cell 0 (.slice A1 na qa) rfl
  have c1 := Fc.out.cell 1 (.slice B1 nb qb) rfl
  have c2 := Fc.out.cell 2 (.slice C1 nc qc) rfl
  have t0 := Ft.out.cell 0 (.slice none 0 0) rfl
  have tf0 := Ft.out.mark 0 (by simp)
  have t1 := Ft.out.cell 1 (.slice none 0 0) rfl
  have tf1 := Ft.out.mark 1 (by simp)
  have t2 := Ft.out.cell 2 (.slice none 0 0) rfl
  have tf2 := Ft.out.mark 2 (by simp)
  have q0 := Fq.out.cell 0 (.slice A' na ca') rfl
  have q1 := Fq.out.cell 1 (.slice A2' nb cb') rfl
  have q2 := Fq.out.cell 2 (.slice (some ⟨pb, 0, none⟩) nc nc) rfl
  have hB4 := hB3.trans (hb4.mono hB3.size)
  have hs4 := hb4.size
  have hdc := Hd.out.coils.below hb4
  have hds := Hd.out.shells.below hb4
  have hzr := Hd.out.zero.below hb4
  have zc := hzr.cell i hin
  have zf := hzr.mark i hin
  have hpl := hzr.lt
  have Hdc := Lib.hid hdc
  have Hds := Lib.hid hds
  have Hzr := Lib.hid hzr
  have Hap := Lib.hid hap
  clear hdc hds hzr hap hb4 Hd
  have g1 : w.heap.size + 1 + 1 < pb := by omega
  have hz4 : w.heap.size + 1 + 1 < W4.heap.size := by omega
  go_wp2_with fail
  refine bodyPost_ret (resT Tryd.results13 _ _ _ _ _ _ _ rfl rfl ?_ ?_ ?_) rfl ?_
  · exact (by (try simp only [isSome_setCell]); first | assumption | go_simp)
  · exact (by (try simp only [isSome_setCell]); first | assumption | go_simp)
  · exact (by (try simp only [isSome_setCell]); first | assumption | go_simp)
  refine ⟨_, _, _, _, _, rfl, ?_, by (with_reducible repeat first | exact Below.refl _ _ | assumption | ((first | refine Below.setCell ?_ ?_ _ | refine Below.alloc ?_ ?_ _); rotate_left; exact (by first | omega | (simp; done) | (simp; omega))) | refine Below.drew ?_ | refine Below_drewN ?_ _)⟩
  have hdc := Hdc.out
  have hds := Hds.out
  have hap := Hap.out
  refine ⟨?_, ?_, ?_, hdc.le, hds.le, Nat.le_refl _, ?_, ?_, ?_, by dsimp only; omega, by dsimp only; omega, by dsimp only; omega⟩
  · repeat refine isT_set ?_ (fun a ha => by have h9 := hdc.new a ha; dsimp only; first | exact hap.1 a ha | omega) _
    exact hdc.isT
  · repeat refine isT_set ?_ (fun a ha => by have h9 := hds.new a ha; dsimp only; first | exact hap.2 a ha | omega) _
    exact hds.isT
  · refine isT_set (isT_set (isT_set (isT_put Hzr.out i hin cur) (fun a ha => ?_) _) (fun a ha => ?_) _) (fun a ha => ?_) _
    all_goals (obtain rfl := Option.some.inj ha; dsimp only; omega)
  · have := hdc.cap; unfold maxLen at this; dsimp only; omega
  · have := hds.cap; unfold maxLen at this; dsimp only; omega
  · dsimp only; omega

end Go.Proofs.YtfpjhobhmcfpnaaDoor
end
section
/- The specification of layers 1 and 2: SameInts, SameCurrents, over this seat's translation. -/
namespace Go.Proofs.YtfpjhobhmcfpnaaDoor
set_option linter.unusedVariables false
set_option linter.unusedSimpArgs false
open Go.RowKit Go.Shelf

theorem same_drop {xs ys : List Int} {k : Nat} {a b : Int} (h1 : xs[k]? = some a) (h2 : ys[k]? = some b) : decide (xs.drop k = ys.drop k) = (decide (a = b) && decide (xs.drop (k + 1) = ys.drop (k + 1))) := by
  obtain ⟨k1, rfl⟩ := List.getElem?_eq_some_iff.1 h1
  obtain ⟨k2, rfl⟩ := List.getElem?_eq_some_iff.1 h2
  rw [List.drop_eq_getElem_cons k1, List.drop_eq_getElem_cons k2]
  simp only [List.cons.injEq, Bool.decide_and]

set_option maxRecDepth 100000 in
set_option maxHeartbeats 4000000 in
theorem rsame_any (A B : Option Addr) (la ca lb cb : Nat) (xs ys : List Int) (w : World) (h1 : IsT 1 intCells w A la xs) (h2 : IsT 1 intCells w B lb ys) (l1 : la ≤ 1000000000000000) (l2 : lb ≤ 1000000000000000) :
    Calls Tryd.prog 36 #[.slice A la ca, .slice B lb cb] w (Ret (.bool (decide (xs = ys))) w) := by
  have n1 := h1.1
  have n2 := h2.1
  have I1 := Lib.hid h1
  have I2 := Lib.hid h2
  have HG : Hid (decide (xs = ys) = decide (xs.drop 0 = ys.drop 0)) := Lib.hid rfl
  have HN : Hid (la ≠ lb → false = decide (xs = ys)) := Lib.hid (fun h => (decide_eq_false (fun e => h (by rw [← n1, ← n2, e]))).symm)
  clear h1 h2
  generalize decide (xs = ys) = G at *
  by_cases b1 : la = lb
  · have e1 := (int_eq la lb).trans (decide_eq_true b1)
    subst b1
    have HG2 : Hid (decide (xs.drop 0 = ys.drop 0) = G) := Lib.hid HG.out.symm
    clear HG HN
    go_enter Tryd.func36, Tryd.ntmps36
    go_wp2_with fail
    go_loopw [5] (fun i wr => ∃ j : Nat, j ≤ la ∧ i = .int .i64 j ∧ Hid (decide (xs.drop j = ys.drop j) = G) ∧ Below w.heap.size w wr) (fun i _ => la - (intOf i).toNat)
    case atStart => exact ⟨0, Nat.zero_le _, rfl, HG2, by (with_reducible repeat first | exact Below.refl _ _ | assumption | ((first | refine Below.setCell ?_ ?_ _ | refine Below.alloc ?_ ?_ _); rotate_left; exact (by first | omega | (simp; done) | (simp; omega))) | refine Below.drew ?_ | refine Below_drewN ?_ _)⟩
    case round =>
      obtain ⟨j, hj, rfl, hG, hB⟩ := hrel
      have sz0 := hB.size
      by_cases hlt : j < la
      · obtain ⟨-, hcl1⟩ := I1.out.below hB
        obtain ⟨b1, o1, rfl, hb1, hcl1⟩ := hcl1 (by omega)
        obtain ⟨-, hcl2⟩ := I2.out.below hB
        obtain ⟨b2, o2, rfl, hb2, hcl2⟩ := hcl2 (by omega)
        obtain ⟨x, hx⟩ : ∃ x, xs[j]? = some x := ⟨_, List.getElem?_eq_getElem (by omega)⟩
        obtain ⟨y, hy⟩ : ∃ y, ys[j]? = some y := ⟨_, List.getElem?_eq_getElem (by omega)⟩
        have x0 : wr.cell? ⟨b1, o1 + j, none⟩ = some (.int .i64 x) := by have h := hcl1 j x hx 0 _ rfl; simpa using h
        have y0 : wr.cell? ⟨b2, o2 + j, none⟩ = some (.int .i64 y) := by have h := hcl2 j y hy 0 _ rfl; simpa using h
        have HS := Lib.hid (hG.out.symm.trans (same_drop hx hy))
        clear hcl1 hcl2 hx hy hG
        have HZ : Hid (∀ w' : World, Below wr.heap.size wr w' → (Below wr.heap.size wr w' ∧ w'.cell? ⟨b1, o1 + j, none⟩ = some (.int .i64 x) ∧ w'.cell? ⟨b2, o2 + j, none⟩ = some (.int .i64 y))) := Lib.hid (fun w' h => ⟨h, (h.cell (p := ⟨b1, o1 + j, none⟩) hb1).trans x0, (h.cell (p := ⟨b2, o2 + j, none⟩) hb2).trans y0⟩)
        have jc : (0 : Int) ≤ j := by omega
        have jn : ((j : Int)).toNat = j := by omega
        by_cases e : x = y
        · have e2 : (x == y) = true := by rw [e]; simp
          have HT : Hid (decide (xs.drop (j + 1) = ys.drop (j + 1)) = G) := Lib.hid (by rw [HS.out, decide_eq_true e, Bool.true_and])
          clear HS
          go_wp2_with fail
          go_region_held3 (fun w' => Below wr.heap.size wr w' ∧ w'.cell? ⟨b1, o1 + j, none⟩ = some (.int .i64 x) ∧ w'.cell? ⟨b2, o2 + j, none⟩ = some (.int .i64 y)) (exact HZ.out _ (by (repeat first | with_reducible exact Below.refl _ _ | with_reducible assumption | with_reducible exact (‹Below _ _ _ ∧ _›).1 | (with_reducible refine Below.alloc ?_ ?_ _; rotate_left; exact (by first | omega | (simp; done) | (simp; omega))) | with_reducible refine Below.drew ?_))) (fail)
          all_goals go_wp2_with fail
          go_roundw
          case rel => exact ⟨j + 1, by omega, by go_num, HT, by (with_reducible repeat first | exact Below.refl _ _ | assumption | ((first | refine Below.setCell ?_ ?_ _ | refine Below.alloc ?_ ?_ _); rotate_left; exact (by first | omega | (simp; done) | (simp; omega))) | refine Below.drew ?_ | refine Below_drewN ?_ _)⟩
          case measure => simp [intOf]; omega
        · have e2 : (x == y) = false := by rw [beq_eq_false_iff_ne]; exact e
          have HT : Hid (false = G) := Lib.hid (by rw [HS.out, decide_eq_false e, Bool.false_and])
          clear HS
          go_wp2_with fail
          go_region_held3 (fun w' => Below wr.heap.size wr w' ∧ w'.cell? ⟨b1, o1 + j, none⟩ = some (.int .i64 x) ∧ w'.cell? ⟨b2, o2 + j, none⟩ = some (.int .i64 y)) (exact HZ.out _ (by (repeat first | with_reducible exact Below.refl _ _ | with_reducible assumption | with_reducible exact (‹Below _ _ _ ∧ _›).1 | (with_reducible refine Below.alloc ?_ ?_ _; rotate_left; exact (by first | omega | (simp; done) | (simp; omega))) | with_reducible refine Below.drew ?_))) (fail)
          all_goals go_wp2_with fail
          go_ret
          exact ⟨by rw [← HT.out]; rfl, by (with_reducible repeat first | exact Below.refl _ _ | assumption | ((first | refine Below.setCell ?_ ?_ _ | refine Below.alloc ?_ ?_ _); rotate_left; exact (by first | omega | (simp; done) | (simp; omega))) | refine Below.drew ?_ | refine Below_drewN ?_ _)⟩
      · have HT : Hid (true = G) := Lib.hid (by
          have h := hG.out
          rw [List.drop_of_length_le (by omega), List.drop_of_length_le (by omega)] at h
          exact h)
        clear hG
        go_wp2_with fail
        go_ret
        exact ⟨by rw [← HT.out]; rfl, by (with_reducible repeat first | exact Below.refl _ _ | assumption | ((first | refine Below.setCell ?_ ?_ _ | refine Below.alloc ?_ ?_ _); rotate_left; exact (by first | omega | (simp; done) | (simp; omega))) | refine Below.drew ?_ | refine Below_drewN ?_ _)⟩
  · have e1 := (int_eq la lb).trans (decide_eq_false b1)
    have HT := Lib.hid (HN.out b1)
    clear HG HN
    go_enter Tryd.func36, Tryd.ntmps36
    go_wp2_with fail
    go_ret
    exact ⟨by rw [← HT.out]; rfl, by (with_reducible repeat first | exact Below.refl _ _ | assumption | ((first | refine Below.setCell ?_ ?_ _ | refine Below.alloc ?_ ?_ _); rotate_left; exact (by first | omega | (simp; done) | (simp; omega))) | refine Below.drew ?_ | refine Below_drewN ?_ _)⟩

end Go.Proofs.YtfpjhobhmcfpnaaDoor
end
