import Derived.Test.YthggkidiidnaoaaGreatDoorMAS
import Derived.Test.YthggkidiidnaoaaGreatDoorMBC
namespace Go.Proofs.YthggkidiidnaoaaGreatDoor
set_option linter.unusedVariables false
set_option linter.unusedSimpArgs false
section
open Go.RowKit Go.Shelf
set_option maxRecDepth 100000 in
set_option maxHeartbeats 8000000 in
theorem rfilament_bad (R : MachR) (M : MachD) (Qr : CurR) (Cd : CurD) (cell cur : Int) (w : World) (hM : IsM w R M) (hC : IsC w Qr Cd) (he : filaE M Cd cell cur ≠ 0) :
    Calls Tryz.prog 15 #[.agg (machCells R M), Qr.v, .int .i64 cell, .int .i64 cur] w (Ret (.tuple #[nilC, .int .i64 (filaE M Cd cell cur)]) w) := by
  have HV0 := Lib.hid (fun W (hb : Below w.heap.size w W) => rvalid2_any R M Qr Cd W (hM.below hb) (hC.below hb))
  unfold filaE at he ⊢
  cases hv : validC M Cd
  · rw [hv] at HV0
    rw [if_neg (by decide)]
    clear hv he
    clear hM hC
    obtain ⟨A, B, Cl, D, la, ca, lb, cb, lc, cl, ld, cd⟩ := R
    obtain ⟨name, coils, shells, limits, ⟨r, z, nr, nz, step⟩, sensors⟩ := M
    obtain ⟨A1, B1, C1, na, qa, nb, qb, nc, qc⟩ := Qr
    dsimp only [CurR.v] at *
    have HV := Lib.hid (show ∀ W, Below w.heap.size w W → Calls Tryz.prog 37 #[.agg #[.string name, .slice A la ca, .slice B lb cb, .slice Cl lc cl, .int .i64 r, .int .i64 z, .int .i64 nr, .int .i64 nz, .int .i64 step, .slice D ld cd], .agg #[.slice A1 na qa, .slice B1 nb qb, .slice C1 nc qc]] W (Ret (.bool false) W) from HV0.out)
    clear HV0
    show Calls Tryz.prog 15 #[.agg #[.string name, .slice A la ca, .slice B lb cb, .slice Cl lc cl, .int .i64 r, .int .i64 z, .int .i64 nr, .int .i64 nz, .int .i64 step, .slice D ld cd], .agg #[.slice A1 na qa, .slice B1 nb qb, .slice C1 nc qc], .int .i64 cell, .int .i64 cur] w _
    go_enter Tryz.func15, Tryz.ntmps15
    go_upto_region 1 with (fail)
    have Fm : Hid (RowL (w.heap.size) [.string name, .slice A la ca, .slice B lb cb, .slice Cl lc cl, .int .i64 r, .int .i64 z, .int .i64 nr, .int .i64 nz, .int .i64 step, .slice D ld cd] (((w.alloc (.cells #[.string name, .slice A la ca, .slice B lb cb, .slice Cl lc cl, .int .i64 r, .int .i64 z, .int .i64 nr, .int .i64 nz, .int .i64 step, .slice D ld cd] 29)).alloc (.cells #[.slice A1 na qa, .slice B1 nb qb, .slice C1 nc qc] 32)).alloc (.cells #[.slice none 0 0, .slice none 0 0, .slice none 0 0] 32))) := Lib.hid (by have h := RowL.new w #[.string name, .slice A la ca, .slice B lb cb, .slice Cl lc cl, .int .i64 r, .int .i64 z, .int .i64 nr, .int .i64 nz, .int .i64 step, .slice D ld cd] 29; (try simp only [World.size_alloc] at h); exact ((h.alloc _).alloc _))
    have Fc : Hid (RowL (w.heap.size + 1) [.slice A1 na qa, .slice B1 nb qb, .slice C1 nc qc] (((w.alloc (.cells #[.string name, .slice A la ca, .slice B lb cb, .slice Cl lc cl, .int .i64 r, .int .i64 z, .int .i64 nr, .int .i64 nz, .int .i64 step, .slice D ld cd] 29)).alloc (.cells #[.slice A1 na qa, .slice B1 nb qb, .slice C1 nc qc] 32)).alloc (.cells #[.slice none 0 0, .slice none 0 0, .slice none 0 0] 32))) := Lib.hid (by have h := RowL.new (w.alloc (.cells #[.string name, .slice A la ca, .slice B lb cb, .slice Cl lc cl, .int .i64 r, .int .i64 z, .int .i64 nr, .int .i64 nz, .int .i64 step, .slice D ld cd] 29)) #[.slice A1 na qa, .slice B1 nb qb, .slice C1 nc qc] 32; (try simp only [World.size_alloc] at h); exact (h.alloc _))
    have Ft : Hid (RowL (w.heap.size + 1 + 1) [.slice none 0 0, .slice none 0 0, .slice none 0 0] (((w.alloc (.cells #[.string name, .slice A la ca, .slice B lb cb, .slice Cl lc cl, .int .i64 r, .int .i64 z, .int .i64 nr, .int .i64 nz, .int .i64 step, .slice D ld cd] 29)).alloc (.cells #[.slice A1 na qa, .slice B1 nb qb, .slice C1 nc qc] 32)).alloc (.cells #[.slice none 0 0, .slice none 0 0, .slice none 0 0] 32))) := Lib.hid (by have h := RowL.new ((w.alloc (.cells #[.string name, .slice A la ca, .slice B lb cb, .slice Cl lc cl, .int .i64 r, .int .i64 z, .int .i64 nr, .int .i64 nz, .int .i64 step, .slice D ld cd] 29)).alloc (.cells #[.slice A1 na qa, .slice B1 nb qb, .slice C1 nc qc] 32)) #[.slice none 0 0, .slice none 0 0, .slice none 0 0] 32; (try simp only [World.size_alloc] at h); exact h)
    have hB0 : Below w.heap.size w (((w.alloc (.cells #[.string name, .slice A la ca, .slice B lb cb, .slice Cl lc cl, .int .i64 r, .int .i64 z, .int .i64 nr, .int .i64 nz, .int .i64 step, .slice D ld cd] 29)).alloc (.cells #[.slice A1 na qa, .slice B1 nb qb, .slice C1 nc qc] 32)).alloc (.cells #[.slice none 0 0, .slice none 0 0, .slice none 0 0] 32)) := by (with_reducible repeat first | exact Below.refl _ _ | assumption | ((first | refine Below.setCell ?_ ?_ _ | refine Below.alloc ?_ ?_ _); rotate_left; exact (by first | omega | (simp; done) | (simp; omega))) | refine Below.drew ?_ | refine Below_drewN ?_ _)
    have sW0 : w.heap.size + 1 + 1 < (((w.alloc (.cells #[.string name, .slice A la ca, .slice B lb cb, .slice Cl lc cl, .int .i64 r, .int .i64 z, .int .i64 nr, .int .i64 nz, .int .i64 step, .slice D ld cd] 29)).alloc (.cells #[.slice A1 na qa, .slice B1 nb qb, .slice C1 nc qc] 32)).alloc (.cells #[.slice none 0 0, .slice none 0 0, .slice none 0 0] 32)).heap.size := by simp only [World.size_alloc]; omega
    obtain ⟨W0, hW0⟩ : ∃ W, (((w.alloc (.cells #[.string name, .slice A la ca, .slice B lb cb, .slice Cl lc cl, .int .i64 r, .int .i64 z, .int .i64 nr, .int .i64 nz, .int .i64 step, .slice D ld cd] 29)).alloc (.cells #[.slice A1 na qa, .slice B1 nb qb, .slice C1 nc qc] 32)).alloc (.cells #[.slice none 0 0, .slice none 0 0, .slice none 0 0] 32)) = W := ⟨_, rfl⟩
    rw [hW0] at Fm Fc Ft hB0 sW0 ⊢
    clear hW0
    have m0 := Fm.out.cell 0 (.string name) rfl
    have m1 := Fm.out.cell 1 (.slice A la ca) rfl
    have m2 := Fm.out.cell 2 (.slice B lb cb) rfl
    have m3 := Fm.out.cell 3 (.slice Cl lc cl) rfl
    have m4 := Fm.out.cell 4 (.int .i64 r) rfl
    have m5 := Fm.out.cell 5 (.int .i64 z) rfl
    have m6 := Fm.out.cell 6 (.int .i64 nr) rfl
    have m7 := Fm.out.cell 7 (.int .i64 nz) rfl
    have m8 := Fm.out.cell 8 (.int .i64 step) rfl
    have m9 := Fm.out.cell 9 (.slice D ld cd) rfl
    have c0 := Fc.out.cell 0 (.slice A1 na qa) rfl
    have c1 := Fc.out.cell 1 (.slice B1 nb qb) rfl
    have c2 := Fc.out.cell 2 (.slice C1 nc qc) rfl
    have t0 := Ft.out.cell 0 (.slice none 0 0) rfl
    have tf0 := Ft.out.mark 0 (by simp)
    have t1 := Ft.out.cell 1 (.slice none 0 0) rfl
    have tf1 := Ft.out.mark 1 (by simp)
    have t2 := Ft.out.cell 2 (.slice none 0 0) rfl
    have tf2 := Ft.out.mark 2 (by simp)
    go_wp2_with fail
    refine (HV.out _ hB0).mono ?_
    rintro e w1 ⟨rfl, hb⟩
    clear m0 m1 m2 m3 m4 m5 m6 m7 m8 m9 c0 c1 c2 t0 tf0 t1 tf1 t2 tf2
    have Gm := Lib.hid (Fm.out.below hb)
    clear Fm
    have Fm := Lib.hid Gm.out
    clear Gm
    have Gc := Lib.hid (Fc.out.below hb)
    clear Fc
    have Fc := Lib.hid Gc.out
    clear Gc
    have Gt := Lib.hid (Ft.out.below hb)
    clear Ft
    have Ft := Lib.hid Gt.out
    clear Gt
    have m0 := Fm.out.cell 0 (.string name) rfl
    have m1 := Fm.out.cell 1 (.slice A la ca) rfl
    have m2 := Fm.out.cell 2 (.slice B lb cb) rfl
    have m3 := Fm.out.cell 3 (.slice Cl lc cl) rfl
    have m4 := Fm.out.cell 4 (.int .i64 r) rfl
    have m5 := Fm.out.cell 5 (.int .i64 z) rfl
    have m6 := Fm.out.cell 6 (.int .i64 nr) rfl
    have m7 := Fm.out.cell 7 (.int .i64 nz) rfl
    have m8 := Fm.out.cell 8 (.int .i64 step) rfl
    have m9 := Fm.out.cell 9 (.slice D ld cd) rfl
    have c0 := Fc.out.cell 0 (.slice A1 na qa) rfl
    have c1 := Fc.out.cell 1 (.slice B1 nb qb) rfl
    have c2 := Fc.out.cell 2 (.slice C1 nc qc) rfl
    have t0 := Ft.out.cell 0 (.slice none 0 0) rfl
    have tf0 := Ft.out.mark 0 (by simp)
    have t1 := Ft.out.cell 1 (.slice none 0 0) rfl
    have tf1 := Ft.out.mark 1 (by simp)
    have t2 := Ft.out.cell 2 (.slice none 0 0) rfl
    have tf2 := Ft.out.mark 2 (by simp)
    have hB1 := hB0.trans (hb.mono hB0.size)
    have hz1 : w.heap.size + 1 + 1 < w1.heap.size := Nat.lt_of_lt_of_le sW0 hb.size
    have hy1 : w.heap.size + 1 < w1.heap.size := by omega
    clear hb hB0 sW0
    go_wp2_with fail
    exact bodyPost_ret (resT Tryz.results15 _ _ _ _ _ _ _ rfl rfl (by (try simp only [isSome_setCell]); first | assumption | go_simp) (by (try simp only [isSome_setCell]); first | assumption | go_simp) (by (try simp only [isSome_setCell]); first | assumption | go_simp)) rfl ⟨rfl, by (with_reducible repeat first | exact Below.refl _ _ | assumption | ((first | refine Below.setCell ?_ ?_ _ | refine Below.alloc ?_ ?_ _); rotate_left; exact (by first | omega | (simp; done) | (simp; omega))) | refine Below.drew ?_ | refine Below_drewN ?_ _)⟩
  · rw [hv] at HV0 he
    rw [if_pos rfl] at he ⊢
    have hs := sound_of (fit2_iff.1 hv).check
    have hn := (fit2_iff.1 hv).plasma.1
    have hl := hC.plasma.1
    have hkc := hC.kc
    have HN0 := Lib.hid (fun W (hb : Below w.heap.size w W) => (by have h := rcells2_any R M W (hM.below hb); unfold cellsC at h; rw [if_pos (fit2_iff.1 hv).check, ← hn, hl] at h; exact h : Calls Tryz.prog 26 #[.agg (machCells R M)] W (Ret (.int .i64 (Qr.lc : Int)) W)))
    have v1 : IntKind.i64.wrap ((Qr.lc : Int) - 1) = (Qr.lc : Int) - 1 := IntWalk.i64_in _ (by omega)
    have HW1 := Lib.hid (fun U => rwithin4_any cell 0 ((Qr.lc : Int) - 1) U)
    have HW2 := Lib.hid (fun U => rwithin4_any cur 0 1000000 U)
    unfold inB at he ⊢
    rw [hl] at he ⊢
    cases h1 : wthn cell 0 ((Qr.lc : Int) - 1)
    · rw [h1] at HW1
      rw [Bool.false_and, if_neg (by decide)]
      clear hs hn hl hv he h1 HW2
      clear hM hC
      obtain ⟨A, B, Cl, D, la, ca, lb, cb, lc, cl, ld, cd⟩ := R
      obtain ⟨name, coils, shells, limits, ⟨r, z, nr, nz, step⟩, sensors⟩ := M
      obtain ⟨A1, B1, C1, na, qa, nb, qb, nc, qc⟩ := Qr
      dsimp only [CurR.v] at *
      have HV := Lib.hid (show ∀ W, Below w.heap.size w W → Calls Tryz.prog 37 #[.agg #[.string name, .slice A la ca, .slice B lb cb, .slice Cl lc cl, .int .i64 r, .int .i64 z, .int .i64 nr, .int .i64 nz, .int .i64 step, .slice D ld cd], .agg #[.slice A1 na qa, .slice B1 nb qb, .slice C1 nc qc]] W (Ret (.bool true) W) from HV0.out)
      clear HV0
      have HN := Lib.hid (show ∀ W, Below w.heap.size w W → Calls Tryz.prog 26 #[.agg #[.string name, .slice A la ca, .slice B lb cb, .slice Cl lc cl, .int .i64 r, .int .i64 z, .int .i64 nr, .int .i64 nz, .int .i64 step, .slice D ld cd]] W (Ret (.int .i64 (nc : Int)) W) from HN0.out)
      clear HN0
      show Calls Tryz.prog 15 #[.agg #[.string name, .slice A la ca, .slice B lb cb, .slice Cl lc cl, .int .i64 r, .int .i64 z, .int .i64 nr, .int .i64 nz, .int .i64 step, .slice D ld cd], .agg #[.slice A1 na qa, .slice B1 nb qb, .slice C1 nc qc], .int .i64 cell, .int .i64 cur] w _
      go_enter Tryz.func15, Tryz.ntmps15
      go_upto_region 1 with (fail)
      have Fm : Hid (RowL (w.heap.size) [.string name, .slice A la ca, .slice B lb cb, .slice Cl lc cl, .int .i64 r, .int .i64 z, .int .i64 nr, .int .i64 nz, .int .i64 step, .slice D ld cd] (((w.alloc (.cells #[.string name, .slice A la ca, .slice B lb cb, .slice Cl lc cl, .int .i64 r, .int .i64 z, .int .i64 nr, .int .i64 nz, .int .i64 step, .slice D ld cd] 29)).alloc (.cells #[.slice A1 na qa, .slice B1 nb qb, .slice C1 nc qc] 32)).alloc (.cells #[.slice none 0 0, .slice none 0 0, .slice none 0 0] 32))) := Lib.hid (by have h := RowL.new w #[.string name, .slice A la ca, .slice B lb cb, .slice Cl lc cl, .int .i64 r, .int .i64 z, .int .i64 nr, .int .i64 nz, .int .i64 step, .slice D ld cd] 29; (try simp only [World.size_alloc] at h); exact ((h.alloc _).alloc _))
      have Fc : Hid (RowL (w.heap.size + 1) [.slice A1 na qa, .slice B1 nb qb, .slice C1 nc qc] (((w.alloc (.cells #[.string name, .slice A la ca, .slice B lb cb, .slice Cl lc cl, .int .i64 r, .int .i64 z, .int .i64 nr, .int .i64 nz, .int .i64 step, .slice D ld cd] 29)).alloc (.cells #[.slice A1 na qa, .slice B1 nb qb, .slice C1 nc qc] 32)).alloc (.cells #[.slice none 0 0, .slice none 0 0, .slice none 0 0] 32))) := Lib.hid (by have h := RowL.new (w.alloc (.cells #[.string name, .slice A la ca, .slice B lb cb, .slice Cl lc cl, .int .i64 r, .int .i64 z, .int .i64 nr, .int .i64 nz, .int .i64 step, .slice D ld cd] 29)) #[.slice A1 na qa, .slice B1 nb qb, .slice C1 nc qc] 32; (try simp only [World.size_alloc] at h); exact (h.alloc _))
      have Ft : Hid (RowL (w.heap.size + 1 + 1) [.slice none 0 0, .slice none 0 0, .slice none 0 0] (((w.alloc (.cells #[.string name, .slice A la ca, .slice B lb cb, .slice Cl lc cl, .int .i64 r, .int .i64 z, .int .i64 nr, .int .i64 nz, .int .i64 step, .slice D ld cd] 29)).alloc (.cells #[.slice A1 na qa, .slice B1 nb qb, .slice C1 nc qc] 32)).alloc (.cells #[.slice none 0 0, .slice none 0 0, .slice none 0 0] 32))) := Lib.hid (by have h := RowL.new ((w.alloc (.cells #[.string name, .slice A la ca, .slice B lb cb, .slice Cl lc cl, .int .i64 r, .int .i64 z, .int .i64 nr, .int .i64 nz, .int .i64 step, .slice D ld cd] 29)).alloc (.cells #[.slice A1 na qa, .slice B1 nb qb, .slice C1 nc qc] 32)) #[.slice none 0 0, .slice none 0 0, .slice none 0 0] 32; (try simp only [World.size_alloc] at h); exact h)
      have hB0 : Below w.heap.size w (((w.alloc (.cells #[.string name, .slice A la ca, .slice B lb cb, .slice Cl lc cl, .int .i64 r, .int .i64 z, .int .i64 nr, .int .i64 nz, .int .i64 step, .slice D ld cd] 29)).alloc (.cells #[.slice A1 na qa, .slice B1 nb qb, .slice C1 nc qc] 32)).alloc (.cells #[.slice none 0 0, .slice none 0 0, .slice none 0 0] 32)) := by (with_reducible repeat first | exact Below.refl _ _ | assumption | ((first | refine Below.setCell ?_ ?_ _ | refine Below.alloc ?_ ?_ _); rotate_left; exact (by first | omega | (simp; done) | (simp; omega))) | refine Below.drew ?_ | refine Below_drewN ?_ _)
      have sW0 : w.heap.size + 1 + 1 < (((w.alloc (.cells #[.string name, .slice A la ca, .slice B lb cb, .slice Cl lc cl, .int .i64 r, .int .i64 z, .int .i64 nr, .int .i64 nz, .int .i64 step, .slice D ld cd] 29)).alloc (.cells #[.slice A1 na qa, .slice B1 nb qb, .slice C1 nc qc] 32)).alloc (.cells #[.slice none 0 0, .slice none 0 0, .slice none 0 0] 32)).heap.size := by simp only [World.size_alloc]; omega
      obtain ⟨W0, hW0⟩ : ∃ W, (((w.alloc (.cells #[.string name, .slice A la ca, .slice B lb cb, .slice Cl lc cl, .int .i64 r, .int .i64 z, .int .i64 nr, .int .i64 nz, .int .i64 step, .slice D ld cd] 29)).alloc (.cells #[.slice A1 na qa, .slice B1 nb qb, .slice C1 nc qc] 32)).alloc (.cells #[.slice none 0 0, .slice none 0 0, .slice none 0 0] 32)) = W := ⟨_, rfl⟩
      rw [hW0] at Fm Fc Ft hB0 sW0 ⊢
      clear hW0
      have m0 := Fm.out.cell 0 (.string name) rfl
      have m1 := Fm.out.cell 1 (.slice A la ca) rfl
      have m2 := Fm.out.cell 2 (.slice B lb cb) rfl
      have m3 := Fm.out.cell 3 (.slice Cl lc cl) rfl
      have m4 := Fm.out.cell 4 (.int .i64 r) rfl
      have m5 := Fm.out.cell 5 (.int .i64 z) rfl
      have m6 := Fm.out.cell 6 (.int .i64 nr) rfl
      have m7 := Fm.out.cell 7 (.int .i64 nz) rfl
      have m8 := Fm.out.cell 8 (.int .i64 step) rfl
      have m9 := Fm.out.cell 9 (.slice D ld cd) rfl
      have c0 := Fc.out.cell 0 (.slice A1 na qa) rfl
      have c1 := Fc.out.cell 1 (.slice B1 nb qb) rfl
      have c2 := Fc.out.cell 2 (.slice C1 nc qc) rfl
      have t0 := Ft.out.cell 0 (.slice none 0 0) rfl
      have tf0 := Ft.out.mark 0 (by simp)
      have t1 := Ft.out.cell 1 (.slice none 0 0) rfl
      have tf1 := Ft.out.mark 1 (by simp)
      have t2 := Ft.out.cell 2 (.slice none 0 0) rfl
      have tf2 := Ft.out.mark 2 (by simp)
      go_wp2_with fail
      refine (HV.out _ hB0).mono ?_
      rintro e w1 ⟨rfl, hb⟩
      clear m0 m1 m2 m3 m4 m5 m6 m7 m8 m9 c0 c1 c2 t0 tf0 t1 tf1 t2 tf2
      have Gm := Lib.hid (Fm.out.below hb)
      clear Fm
      have Fm := Lib.hid Gm.out
      clear Gm
      have Gc := Lib.hid (Fc.out.below hb)
      clear Fc
      have Fc := Lib.hid Gc.out
      clear Gc
      have Gt := Lib.hid (Ft.out.below hb)
      clear Ft
      have Ft := Lib.hid Gt.out
      clear Gt
      have m0 := Fm.out.cell 0 (.string name) rfl
      have m1 := Fm.out.cell 1 (.slice A la ca) rfl
      have m2 := Fm.out.cell 2 (.slice B lb cb) rfl
      have m3 := Fm.out.cell 3 (.slice Cl lc cl) rfl
      have m4 := Fm.out.cell 4 (.int .i64 r) rfl
      have m5 := Fm.out.cell 5 (.int .i64 z) rfl
      have m6 := Fm.out.cell 6 (.int .i64 nr) rfl
      have m7 := Fm.out.cell 7 (.int .i64 nz) rfl
      have m8 := Fm.out.cell 8 (.int .i64 step) rfl
      have m9 := Fm.out.cell 9 (.slice D ld cd) rfl
      have c0 := Fc.out.cell 0 (.slice A1 na qa) rfl
      have c1 := Fc.out.cell 1 (.slice B1 nb qb) rfl
      have c2 := Fc.out.cell 2 (.slice C1 nc qc) rfl
      have t0 := Ft.out.cell 0 (.slice none 0 0) rfl
      have tf0 := Ft.out.mark 0 (by simp)
      have t1 := Ft.out.cell 1 (.slice none 0 0) rfl
      have tf1 := Ft.out.mark 1 (by simp)
      have t2 := Ft.out.cell 2 (.slice none 0 0) rfl
      have tf2 := Ft.out.mark 2 (by simp)
      have hB1 := hB0.trans (hb.mono hB0.size)
      have hz1 : w.heap.size + 1 + 1 < w1.heap.size := Nat.lt_of_lt_of_le sW0 hb.size
      have hy1 : w.heap.size + 1 < w1.heap.size := by omega
      clear hb hB0 sW0
      go_wp2_with fail
      refine (HN.out _ (by (with_reducible repeat first | exact Below.refl _ _ | assumption | ((first | refine Below.setCell ?_ ?_ _ | refine Below.alloc ?_ ?_ _); rotate_left; exact (by first | omega | (simp; done) | (simp; omega))) | refine Below.drew ?_ | refine Below_drewN ?_ _))).mono ?_
      rintro e w2 ⟨rfl, hb⟩
      clear m0 m1 m2 m3 m4 m5 m6 m7 m8 m9 c0 c1 c2 t0 tf0 t1 tf1 t2 tf2
      have Gm := Lib.hid (Fm.out.below hb)
      clear Fm
      have Fm := Lib.hid Gm.out
      clear Gm
      have Gc := Lib.hid (Fc.out.below hb)
      clear Fc
      have Fc := Lib.hid Gc.out
      clear Gc
      have Gt := Lib.hid (Ft.out.below hb)
      clear Ft
      have Ft := Lib.hid Gt.out
      clear Gt
      have m0 := Fm.out.cell 0 (.string name) rfl
      have m1 := Fm.out.cell 1 (.slice A la ca) rfl
      have m2 := Fm.out.cell 2 (.slice B lb cb) rfl
      have m3 := Fm.out.cell 3 (.slice Cl lc cl) rfl
      have m4 := Fm.out.cell 4 (.int .i64 r) rfl
      have m5 := Fm.out.cell 5 (.int .i64 z) rfl
      have m6 := Fm.out.cell 6 (.int .i64 nr) rfl
      have m7 := Fm.out.cell 7 (.int .i64 nz) rfl
      have m8 := Fm.out.cell 8 (.int .i64 step) rfl
      have m9 := Fm.out.cell 9 (.slice D ld cd) rfl
      have c0 := Fc.out.cell 0 (.slice A1 na qa) rfl
      have c1 := Fc.out.cell 1 (.slice B1 nb qb) rfl
      have c2 := Fc.out.cell 2 (.slice C1 nc qc) rfl
      have t0 := Ft.out.cell 0 (.slice none 0 0) rfl
      have tf0 := Ft.out.mark 0 (by simp)
      have t1 := Ft.out.cell 1 (.slice none 0 0) rfl
      have tf1 := Ft.out.mark 1 (by simp)
      have t2 := Ft.out.cell 2 (.slice none 0 0) rfl
      have tf2 := Ft.out.mark 2 (by simp)
      have hB2 := hB1.trans (hb.mono hB1.size)
      have hz2 : w.heap.size + 1 + 1 < w2.heap.size := Nat.lt_of_lt_of_le hz1 hb.size
      have hy2 : w.heap.size + 1 < w2.heap.size := by omega
      clear hb
      go_wp2_with (go_at_call 38; refine (HW1.out _).mono ?_; rintro e w7 ⟨rfl, rfl⟩)
      exact bodyPost_ret (resT Tryz.results15 _ _ _ _ _ _ _ rfl rfl (by (try simp only [isSome_setCell]); first | assumption | go_simp) (by (try simp only [isSome_setCell]); first | assumption | go_simp) (by (try simp only [isSome_setCell]); first | assumption | go_simp)) rfl ⟨rfl, by (with_reducible repeat first | exact Below.refl _ _ | assumption | ((first | refine Below.setCell ?_ ?_ _ | refine Below.alloc ?_ ?_ _); rotate_left; exact (by first | omega | (simp; done) | (simp; omega))) | refine Below.drew ?_ | refine Below_drewN ?_ _)⟩
    · rw [h1] at HW1 he
      rw [Bool.true_and] at he ⊢
      cases h2 : wthn cur 0 1000000
      · rw [h2] at HW2
        rw [if_neg (by decide)]
        clear hs hn hl hv he h1 h2
        clear hM hC
        obtain ⟨A, B, Cl, D, la, ca, lb, cb, lc, cl, ld, cd⟩ := R
        obtain ⟨name, coils, shells, limits, ⟨r, z, nr, nz, step⟩, sensors⟩ := M
        obtain ⟨A1, B1, C1, na, qa, nb, qb, nc, qc⟩ := Qr
        dsimp only [CurR.v] at *
        have HV := Lib.hid (show ∀ W, Below w.heap.size w W → Calls Tryz.prog 37 #[.agg #[.string name, .slice A la ca, .slice B lb cb, .slice Cl lc cl, .int .i64 r, .int .i64 z, .int .i64 nr, .int .i64 nz, .int .i64 step, .slice D ld cd], .agg #[.slice A1 na qa, .slice B1 nb qb, .slice C1 nc qc]] W (Ret (.bool true) W) from HV0.out)
        clear HV0
        have HN := Lib.hid (show ∀ W, Below w.heap.size w W → Calls Tryz.prog 26 #[.agg #[.string name, .slice A la ca, .slice B lb cb, .slice Cl lc cl, .int .i64 r, .int .i64 z, .int .i64 nr, .int .i64 nz, .int .i64 step, .slice D ld cd]] W (Ret (.int .i64 (nc : Int)) W) from HN0.out)
        clear HN0
        show Calls Tryz.prog 15 #[.agg #[.string name, .slice A la ca, .slice B lb cb, .slice Cl lc cl, .int .i64 r, .int .i64 z, .int .i64 nr, .int .i64 nz, .int .i64 step, .slice D ld cd], .agg #[.slice A1 na qa, .slice B1 nb qb, .slice C1 nc qc], .int .i64 cell, .int .i64 cur] w _
        go_enter Tryz.func15, Tryz.ntmps15
        go_upto_region 1 with (fail)
        have Fm : Hid (RowL (w.heap.size) [.string name, .slice A la ca, .slice B lb cb, .slice Cl lc cl, .int .i64 r, .int .i64 z, .int .i64 nr, .int .i64 nz, .int .i64 step, .slice D ld cd] (((w.alloc (.cells #[.string name, .slice A la ca, .slice B lb cb, .slice Cl lc cl, .int .i64 r, .int .i64 z, .int .i64 nr, .int .i64 nz, .int .i64 step, .slice D ld cd] 29)).alloc (.cells #[.slice A1 na qa, .slice B1 nb qb, .slice C1 nc qc] 32)).alloc (.cells #[.slice none 0 0, .slice none 0 0, .slice none 0 0] 32))) := Lib.hid (by have h := RowL.new w #[.string name, .slice A la ca, .slice B lb cb, .slice Cl lc cl, .int .i64 r, .int .i64 z, .int .i64 nr, .int .i64 nz, .int .i64 step, .slice D ld cd] 29; (try simp only [World.size_alloc] at h); exact ((h.alloc _).alloc _))
        have Fc : Hid (RowL (w.heap.size + 1) [.slice A1 na qa, .slice B1 nb qb, .slice C1 nc qc] (((w.alloc (.cells #[.string name, .slice A la ca, .slice B lb cb, .slice Cl lc cl, .int .i64 r, .int .i64 z, .int .i64 nr, .int .i64 nz, .int .i64 step, .slice D ld cd] 29)).alloc (.cells #[.slice A1 na qa, .slice B1 nb qb, .slice C1 nc qc] 32)).alloc (.cells #[.slice none 0 0, .slice none 0 0, .slice none 0 0] 32))) := Lib.hid (by have h := RowL.new (w.alloc (.cells #[.string name, .slice A la ca, .slice B lb cb, .slice Cl lc cl, .int .i64 r, .int .i64 z, .int .i64 nr, .int .i64 nz, .int .i64 step, .slice D ld cd] 29)) #[.slice A1 na qa, .slice B1 nb qb, .slice C1 nc qc] 32; (try simp only [World.size_alloc] at h); exact (h.alloc _))
        have Ft : Hid (RowL (w.heap.size + 1 + 1) [.slice none 0 0, .slice none 0 0, .slice none 0 0] (((w.alloc (.cells #[.string name, .slice A la ca, .slice B lb cb, .slice Cl lc cl, .int .i64 r, .int .i64 z, .int .i64 nr, .int .i64 nz, .int .i64 step, .slice D ld cd] 29)).alloc (.cells #[.slice A1 na qa, .slice B1 nb qb, .slice C1 nc qc] 32)).alloc (.cells #[.slice none 0 0, .slice none 0 0, .slice none 0 0] 32))) := Lib.hid (by have h := RowL.new ((w.alloc (.cells #[.string name, .slice A la ca, .slice B lb cb, .slice Cl lc cl, .int .i64 r, .int .i64 z, .int .i64 nr, .int .i64 nz, .int .i64 step, .slice D ld cd] 29)).alloc (.cells #[.slice A1 na qa, .slice B1 nb qb, .slice C1 nc qc] 32)) #[.slice none 0 0, .slice none 0 0, .slice none 0 0] 32; (try simp only [World.size_alloc] at h); exact h)
        have hB0 : Below w.heap.size w (((w.alloc (.cells #[.string name, .slice A la ca, .slice B lb cb, .slice Cl lc cl, .int .i64 r, .int .i64 z, .int .i64 nr, .int .i64 nz, .int .i64 step, .slice D ld cd] 29)).alloc (.cells #[.slice A1 na qa, .slice B1 nb qb, .slice C1 nc qc] 32)).alloc (.cells #[.slice none 0 0, .slice none 0 0, .slice none 0 0] 32)) := by (with_reducible repeat first | exact Below.refl _ _ | assumption | ((first | refine Below.setCell ?_ ?_ _ | refine Below.alloc ?_ ?_ _); rotate_left; exact (by first | omega | (simp; done) | (simp; omega))) | refine Below.drew ?_ | refine Below_drewN ?_ _)
        have sW0 : w.heap.size + 1 + 1 < (((w.alloc (.cells #[.string name, .slice A la ca, .slice B lb cb, .slice Cl lc cl, .int .i64 r, .int .i64 z, .int .i64 nr, .int .i64 nz, .int .i64 step, .slice D ld cd] 29)).alloc (.cells #[.slice A1 na qa, .slice B1 nb qb, .slice C1 nc qc] 32)).alloc (.cells #[.slice none 0 0, .slice none 0 0, .slice none 0 0] 32)).heap.size := by simp only [World.size_alloc]; omega
        obtain ⟨W0, hW0⟩ : ∃ W, (((w.alloc (.cells #[.string name, .slice A la ca, .slice B lb cb, .slice Cl lc cl, .int .i64 r, .int .i64 z, .int .i64 nr, .int .i64 nz, .int .i64 step, .slice D ld cd] 29)).alloc (.cells #[.slice A1 na qa, .slice B1 nb qb, .slice C1 nc qc] 32)).alloc (.cells #[.slice none 0 0, .slice none 0 0, .slice none 0 0] 32)) = W := ⟨_, rfl⟩
        rw [hW0] at Fm Fc Ft hB0 sW0 ⊢
        clear hW0
        have m0 := Fm.out.cell 0 (.string name) rfl
        have m1 := Fm.out.cell 1 (.slice A la ca) rfl
        have m2 := Fm.out.cell 2 (.slice B lb cb) rfl
        have m3 := Fm.out.cell 3 (.slice Cl lc cl) rfl
        have m4 := Fm.out.cell 4 (.int .i64 r) rfl
        have m5 := Fm.out.cell 5 (.int .i64 z) rfl
        have m6 := Fm.out.cell 6 (.int .i64 nr) rfl
        have m7 := Fm.out.cell 7 (.int .i64 nz) rfl
        have m8 := Fm.out.cell 8 (.int .i64 step) rfl
        have m9 := Fm.out.cell 9 (.slice D ld cd) rfl
        have c0 := Fc.out.cell 0 (.slice A1 na qa) rfl
        have c1 := Fc.out.cell 1 (.slice B1 nb qb) rfl
        have c2 := Fc.out.cell 2 (.slice C1 nc qc) rfl
        have t0 := Ft.out.cell 0 (.slice none 0 0) rfl
        have tf0 := Ft.out.mark 0 (by simp)
        have t1 := Ft.out.cell 1 (.slice none 0 0) rfl
        have tf1 := Ft.out.mark 1 (by simp)
        have t2 := Ft.out.cell 2 (.slice none 0 0) rfl
        have tf2 := Ft.out.mark 2 (by simp)
        go_wp2_with fail
        refine (HV.out _ hB0).mono ?_
        rintro e w1 ⟨rfl, hb⟩
        clear m0 m1 m2 m3 m4 m5 m6 m7 m8 m9 c0 c1 c2 t0 tf0 t1 tf1 t2 tf2
        have Gm := Lib.hid (Fm.out.below hb)
        clear Fm
        have Fm := Lib.hid Gm.out
        clear Gm
        have Gc := Lib.hid (Fc.out.below hb)
        clear Fc
        have Fc := Lib.hid Gc.out
        clear Gc
        have Gt := Lib.hid (Ft.out.below hb)
        clear Ft
        have Ft := Lib.hid Gt.out
        clear Gt
        have m0 := Fm.out.cell 0 (.string name) rfl
        have m1 := Fm.out.cell 1 (.slice A la ca) rfl
        have m2 := Fm.out.cell 2 (.slice B lb cb) rfl
        have m3 := Fm.out.cell 3 (.slice Cl lc cl) rfl
        have m4 := Fm.out.cell 4 (.int .i64 r) rfl
        have m5 := Fm.out.cell 5 (.int .i64 z) rfl
        have m6 := Fm.out.cell 6 (.int .i64 nr) rfl
        have m7 := Fm.out.cell 7 (.int .i64 nz) rfl
        have m8 := Fm.out.cell 8 (.int .i64 step) rfl
        have m9 := Fm.out.cell 9 (.slice D ld cd) rfl
        have c0 := Fc.out.cell 0 (.slice A1 na qa) rfl
        have c1 := Fc.out.cell 1 (.slice B1 nb qb) rfl
        have c2 := Fc.out.cell 2 (.slice C1 nc qc) rfl
        have t0 := Ft.out.cell 0 (.slice none 0 0) rfl
        have tf0 := Ft.out.mark 0 (by simp)
        have t1 := Ft.out.cell 1 (.slice none 0 0) rfl
        have tf1 := Ft.out.mark 1 (by simp)
        have t2 := Ft.out.cell 2 (.slice none 0 0) rfl
        have tf2 := Ft.out.mark 2 (by simp)
        have hB1 := hB0.trans (hb.mono hB0.size)
        have hz1 : w.heap.size + 1 + 1 < w1.heap.size := Nat.lt_of_lt_of_le sW0 hb.size
        have hy1 : w.heap.size + 1 < w1.heap.size := by omega
        clear hb hB0 sW0
        go_wp2_with fail
        refine (HN.out _ (by (with_reducible repeat first | exact Below.refl _ _ | assumption | ((first | refine Below.setCell ?_ ?_ _ | refine Below.alloc ?_ ?_ _); rotate_left; exact (by first | omega | (simp; done) | (simp; omega))) | refine Below.drew ?_ | refine Below_drewN ?_ _))).mono ?_
        rintro e w2 ⟨rfl, hb⟩
        clear m0 m1 m2 m3 m4 m5 m6 m7 m8 m9 c0 c1 c2 t0 tf0 t1 tf1 t2 tf2
        have Gm := Lib.hid (Fm.out.below hb)
        clear Fm
        have Fm := Lib.hid Gm.out
        clear Gm
        have Gc := Lib.hid (Fc.out.below hb)
        clear Fc
        have Fc := Lib.hid Gc.out
        clear Gc
        have Gt := Lib.hid (Ft.out.below hb)
        clear Ft
        have Ft := Lib.hid Gt.out
        clear Gt
        have m0 := Fm.out.cell 0 (.string name) rfl
        have m1 := Fm.out.cell 1 (.slice A la ca) rfl
        have m2 := Fm.out.cell 2 (.slice B lb cb) rfl
        have m3 := Fm.out.cell 3 (.slice Cl lc cl) rfl
        have m4 := Fm.out.cell 4 (.int .i64 r) rfl
        have m5 := Fm.out.cell 5 (.int .i64 z) rfl
        have m6 := Fm.out.cell 6 (.int .i64 nr) rfl
        have m7 := Fm.out.cell 7 (.int .i64 nz) rfl
        have m8 := Fm.out.cell 8 (.int .i64 step) rfl
        have m9 := Fm.out.cell 9 (.slice D ld cd) rfl
        have c0 := Fc.out.cell 0 (.slice A1 na qa) rfl
        have c1 := Fc.out.cell 1 (.slice B1 nb qb) rfl
        have c2 := Fc.out.cell 2 (.slice C1 nc qc) rfl
        have t0 := Ft.out.cell 0 (.slice none 0 0) rfl
        have tf0 := Ft.out.mark 0 (by simp)
        have t1 := Ft.out.cell 1 (.slice none 0 0) rfl
        have tf1 := Ft.out.mark 1 (by simp)
        have t2 := Ft.out.cell 2 (.slice none 0 0) rfl
        have tf2 := Ft.out.mark 2 (by simp)
        have hB2 := hB1.trans (hb.mono hB1.size)
        have hz2 : w.heap.size + 1 + 1 < w2.heap.size := Nat.lt_of_lt_of_le hz1 hb.size
        have hy2 : w.heap.size + 1 < w2.heap.size := by omega
        clear hb
        go_wp2_with (go_at_call 38; first | ((with_reducible refine (HW1.out _).mono ?_); rintro e w7 ⟨rfl, rfl⟩) | ((with_reducible refine (HW2.out _).mono ?_); rintro e w7 ⟨rfl, rfl⟩))
        exact bodyPost_ret (resT Tryz.results15 _ _ _ _ _ _ _ rfl rfl (by (try simp only [isSome_setCell]); first | assumption | go_simp) (by (try simp only [isSome_setCell]); first | assumption | go_simp) (by (try simp only [isSome_setCell]); first | assumption | go_simp)) rfl ⟨rfl, by (with_reducible repeat first | exact Below.refl _ _ | assumption | ((first | refine Below.setCell ?_ ?_ _ | refine Below.alloc ?_ ?_ _); rotate_left; exact (by first | omega | (simp; done) | (simp; omega))) | refine Below.drew ?_ | refine Below_drewN ?_ _)⟩
      · rw [h2] at he
        exact absurd rfl he
end
end Go.Proofs.YthggkidiidnaoaaGreatDoor
