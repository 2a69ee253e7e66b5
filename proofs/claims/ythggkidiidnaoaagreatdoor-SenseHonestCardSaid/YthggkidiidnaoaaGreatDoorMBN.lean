import Derived.Test.YthggkidiidnaoaaGreatDoorMAD
import Derived.Test.YthggkidiidnaoaaGreatDoorMAE
import Derived.Test.YthggkidiidnaoaaGreatDoorMAL
import Derived.Test.YthggkidiidnaoaaGreatDoorMAS
import Derived.Test.YthggkidiidnaoaaGreatDoorMAV
import Derived.Test.YthggkidiidnaoaaGreatDoorMAX
import Derived.Test.YthggkidiidnaoaaGreatDoorMBM
import Derived.Deep.RegionHeld3
import Derived.Deep.DeepCutAuto
import Derived.Deep.QuietTactic
import Derived.BigQuiet
import Derived.IntWalk
import Derived.Laws.BitsAllLaws
import Derived.Laws.Bits64
import Derived.Test.YthggkidiidnaoaaGreatDoorRows
import Derived.KernelRfl
import Derived.Laws.StructEq
namespace Go.Proofs.YthggkidiidnaoaaGreatDoor
set_option linter.unusedVariables false
set_option linter.unusedSimpArgs false
section
open Go.RowKit Go.Shelf
def FilaNw (na nb nc : Nat) (D : CurD) (w : World) (e : Ending) (w' : World) : Prop :=
  ∃ (A : Option Addr) (ca : Nat) (A2 : Option Addr) (cb pb : Nat), e = .returned (.tuple #[.agg #[.slice A na ca, .slice A2 nb cb, .slice (some ⟨pb, 0, none⟩) nc nc], .int .i64 0]) ∧ IsC w' ⟨A, A2, some ⟨pb, 0, none⟩, na, ca, nb, cb, nc, nc⟩ D ∧ ((∀ a, A = some a → w.heap.size ≤ a.block) ∧ (∀ a, A2 = some a → w.heap.size ≤ a.block) ∧ w.heap.size ≤ pb) ∧ Below w.heap.size w w'
set_option maxRecDepth 100000 in
set_option maxHeartbeats 8000000 in
theorem rfilamentN_ok (R : MachR) (M : MachD) (Qr : CurR) (Cd : CurD) (cell cur : Int) (w : World) (hM : IsM w R M) (hC : IsC w Qr Cd) (he : filaE M Cd cell cur = 0) :
    Calls Tryz.prog 15 #[.agg (machCells R M), Qr.v, .int .i64 cell, .int .i64 cur] w (FilaNw Qr.la Qr.lb Qr.lc (filaD Cd cell cur) w) := by
  have HV0 := Lib.hid (fun W (hb : Below w.heap.size w W) => rvalid2_any R M Qr Cd W (hM.below hb) (hC.below hb))
  have hv : validC M Cd = true := by
    unfold filaE at he
    cases hv : validC M Cd
    · rw [hv] at he; simp at he
    · rfl
  have hi : inB Cd cell cur = true := by
    unfold filaE at he
    rw [hv, if_pos rfl] at he
    cases hi : inB Cd cell cur
    · rw [hi] at he; simp at he
    · rfl
  rw [hv] at HV0
  have hf := fit2_iff.1 hv
  have hfc := cells_fine (sound_of hf.check).grid
  have e1 := hC.coils.1
  have e2 := hC.shells.1
  have e3 := hC.plasma.1
  have e4 := hf.coils.1
  have e5 := hf.shells.1
  have e6 := hf.plasma.1
  have e7 := (sound_of hf.check).coils.1
  have e8 := (sound_of hf.check).shells.1
  have l1 : Qr.la ≤ 1000 := by omega
  have l2 : Qr.lb ≤ 1000 := by omega
  have l3 : Qr.lc ≤ 1000 := by omega
  have hs := sound_of (fit2_iff.1 hv).check
  have hn := (fit2_iff.1 hv).plasma.1
  have hl := hC.plasma.1
  have hkc := hC.kc
  have HN0 := Lib.hid (fun W (hb : Below w.heap.size w W) => (by have h := rcells2_any R M W (hM.below hb); unfold cellsC at h; rw [if_pos (fit2_iff.1 hv).check, ← hn, hl] at h; exact h : Calls Tryz.prog 26 #[.agg (machCells R M)] W (Ret (.int .i64 (Qr.lc : Int)) W)))
  have v1 : IntKind.i64.wrap ((Qr.lc : Int) - 1) = (Qr.lc : Int) - 1 := IntWalk.i64_in _ (by omega)
  have HW1 := Lib.hid (fun U => rwithin4_any cell 0 ((Qr.lc : Int) - 1) U)
  have HW2 := Lib.hid (fun U => rwithin4_any cur 0 1000000 U)
  unfold inB at hi
  rw [e3, Bool.and_eq_true] at hi
  obtain ⟨h1, h2⟩ := hi
  rw [h1] at HW1
  rw [h2] at HW2
  have hw := wthn_iff.1 h1
  have HD0 := Lib.hid (fun W (hb : Below w.heap.size w W) => rdark_any R M Qr.A Qr.B Qr.C Qr.la Qr.ca Qr.lb Qr.cb Qr.lc Qr.cc Cd.coils Cd.shells W (hC.below hb).coils (hC.below hb).shells l1 l2 l3)
  obtain ⟨i, rfl⟩ : ∃ i : Nat, cell = i := ⟨cell.toNat, by omega⟩
  have hin : i < Qr.lc := by omega
  have i0 : (0 : Int) ≤ i := by omega
  unfold filaD
  rw [e3, Int.toNat_natCast]
  clear he hv hf hfc e1 e2 e3 e4 e5 e6 e7 e8 hs hn hl h1 h2 hw
  obtain ⟨z1, z2, z3⟩ := Cd
  clear hM hC
  obtain ⟨A, B, Cl, D, la, ca, lb, cb, lc, cl, ld, cd⟩ := R
  obtain ⟨name, coils, shells, limits, ⟨r, z, nr, nz, step⟩, sensors⟩ := M
  obtain ⟨A1, B1, C1, na, qa, nb, qb, nc, qc⟩ := Qr
  dsimp only [CurR.v] at *
  have HV := Lib.hid (show ∀ W, Below w.heap.size w W → Calls Tryz.prog 37 #[.agg #[.string name, .slice A la ca, .slice B lb cb, .slice Cl lc cl, .int .i64 r, .int .i64 z, .int .i64 nr, .int .i64 nz, .int .i64 step, .slice D ld cd], .agg #[.slice A1 na qa, .slice B1 nb qb, .slice C1 nc qc]] W (Ret (.bool true) W) from HV0.out)
  clear HV0
  have HD := Lib.hid (show ∀ W, Below w.heap.size w W → Calls Tryz.prog 39 #[.agg #[.string name, .slice A la ca, .slice B lb cb, .slice Cl lc cl, .int .i64 r, .int .i64 z, .int .i64 nr, .int .i64 nz, .int .i64 step, .slice D ld cd], .agg #[.slice A1 na qa, .slice B1 nb qb, .slice C1 nc qc]] W (Dark na nb nc z1 z2 W) from HD0.out)
  clear HD0
  have HN := Lib.hid (show ∀ W, Below w.heap.size w W → Calls Tryz.prog 26 #[.agg #[.string name, .slice A la ca, .slice B lb cb, .slice Cl lc cl, .int .i64 r, .int .i64 z, .int .i64 nr, .int .i64 nz, .int .i64 step, .slice D ld cd]] W (Ret (.int .i64 (nc : Int)) W) from HN0.out)
  clear HN0
  show Calls Tryz.prog 15 #[.agg #[.string name, .slice A la ca, .slice B lb cb, .slice Cl lc cl, .int .i64 r, .int .i64 z, .int .i64 nr, .int .i64 nz, .int .i64 step, .slice D ld cd], .agg #[.slice A1 na qa, .slice B1 nb qb, .slice C1 nc qc], .int .i64 i, .int .i64 cur] w _
  go_enter Tryz.func15, Tryz.ntmps15
  go_upto_region 1 with (fail)
  have Fm : Hid (RowL (w.heap.size) [.string name, .slice A la ca, .slice B lb cb, .slice Cl lc cl, .int .i64 r, .int .i64 z, .int .i64 nr, .int .i64 nz, .int .i64 step, .slice D ld cd] (((w.alloc (.cells #[.string name, .slice A la ca, .slice B lb cb, .slice Cl lc cl, .int .i64 r, .int .i64 z, .int .i64 nr, .int .i64 nz, .int .i64 step, .slice D ld cd] 29)).alloc (.cells #[.slice A1 na qa, .slice B1 nb qb, .slice C1 nc qc] 32)).alloc (.cells #[.slice none 0 0, .slice none 0 0, .slice none 0 0] 32))) := Lib.hid (by have h := RowL.new w #[.string name, .slice A la ca, .slice B lb cb, .slice Cl lc cl, .int .i64 r, .int .i64 z, .int .i64 nr, .int .i64 nz, .int .i64 step, .slice D ld cd] 29; (try simp only [World.size_alloc] at h); exact ((h.alloc _).alloc _))
  have Fc : Hid (RowL (w.heap.size + 1) [.slice A1 na qa, .slice B1 nb qb, .slice C1 nc qc] (((w.alloc (.cells #[.string name, .slice A la ca, .slice B lb cb, .slice Cl lc cl, .int .i64 r, .int .i64 z, .int .i64 nr, .int .i64 nz, .int .i64 step, .slice D ld cd] 29)).alloc (.cells #[.slice A1 na qa, .slice B1 nb qb, .slice C1 nc qc] 32)).alloc (.cells #[.slice none 0 0, .slice none 0 0, .slice none 0 0] 32))) := Lib.hid (by have h := RowL.new (w.alloc (.cells #[.string name, .slice A la ca, .slice B lb cb, .slice Cl lc cl, .int .i64 r, .int .i64 z, .int .i64 nr, .int .i64 nz, .int .i64 step, .slice D ld cd] 29)) #[.slice A1 na qa, .slice B1 nb qb, .slice C1 nc qc] 32; (try simp only [World.size_alloc] at h); exact (h.alloc _))
  have Ft : Hid (RowL (w.heap.size + 1 + 1) [.slice none 0 0, .slice none 0 0, .slice none 0 0] (((w.alloc (.cells #[.string name, .slice A la ca, .slice B lb cb, .slice Cl lc cl, .int .i64 r, .int .i64 z, .int .i64 nr, .int .i64 nz, .int .i64 step, .slice D ld cd] 29)).alloc (.cells #[.slice A1 na qa, .slice B1 nb qb, .slice C1 nc qc] 32)).alloc (.cells #[.slice none 0 0, .slice none 0 0, .slice none 0 0] 32))) := Lib.hid (by have h := RowL.new ((w.alloc (.cells #[.string name, .slice A la ca, .slice B lb cb, .slice Cl lc cl, .int .i64 r, .int .i64 z, .int .i64 nr, .int .i64 nz, .int .i64 step, .slice D ld cd] 29)).alloc (.cells #[.slice A1 na qa, .slice B1 nb qb, .slice C1 nc qc] 32)) #[.slice none 0 0, .slice none 0 0, .slice none 0 0] 32; (try simp only [World.size_alloc] at h); exact h)
  have hB0 : Below w.heap.size w (((w.alloc (.cells #[.string name, .slice A la ca, .slice B lb cb, .slice Cl lc cl, .int .i64 r, .int .i64 z, .int .i64 nr, .int .i64 nz, .int .i64 step, .slice D ld cd] 29)).alloc (.cells #[.slice A1 na qa, .slice B1 nb qb, .slice C1 nc qc] 32)).alloc (.cells #[.slice none 0 0, .slice none 0 0, .slice none 0 0] 32)) := by (with_reducible repeat first | exact Below.refl _ _ | assumption | ((first | refine Below.setCell ?_ ?_ _ | refine Below.alloc ?_ ?_ _); rotate_left; exact (by first | omega | (simp; done) | (simp; omega))) | refine Below.drew ?_ | refine Below_drewN ?_ _)
  have sW0 : w.heap.size + 1 + 1 < (((w.alloc (.cells #[.string name, .slice A la ca, .slice B lb cb, .slice Cl lc cl, .int .i64 r, .int .i64 z, .int .i64 nr, .int .i64 nz, .int .i64 step, .slice D ld cd] 29)).alloc (.cells #[.slice A1 na qa, .slice B1 nb qb, .slice C1 nc qc] 32)).alloc (.cells #[.slice none 0 0, .slice none 0 0, .slice none 0 0] 32)).heap.size := by simp only [World.size_alloc]; omega
  obtain ⟨W0, hW0⟩ : ∃ W, (((w.alloc (.cells #[.string name, .slice A la ca, .slice B lb cb, .slice Cl lc cl, .int .i64 r, .int .i64 z, .int .i64 nr, .int .i64 nz, .int .i64 step, .slice D ld cd] 29)).alloc (.cells #[.slice A1 na qa, .slice B1 nb qb, .slice C1 nc qc] 32)).alloc (.cells #[.slice none 0 0, .slice none 0 0, .slice none 0 0] 32)) = W := ⟨_, rfl⟩
  rw [hW0] at Fm Fc Ft hB0 sW0 ⊢
  clear hW0
  have m0 := Fm.out.cell 0 (.string name) rfl
  have m1 := Fm.out.cell 1 (.slice A la ca) rfl
  have m2 := Fm.out.cell 2 (.slice B lb cb) rfl
  have m3 := Fm.out.cell 3 (.slice Cl lc cl) rfl
  have m4 := Fm.out.cell 4 (.int .i64 r) rfl
  have m5 := Fm.out.cell 5 (.int .i64 z) rfl
  have m6 := Fm.out.cell 6 (.int .i64 nr) rfl
  have m7 := Fm.out.cell 7 (.int .i64 nz) rfl
  have m8 := Fm.out.cell 8 (.int .i64 step) rfl
  have m9 := Fm.out.cell 9 (.slice D ld cd) rfl
  have c0 := Fc.out.cell 0 (.slice A1 na qa) rfl
  have c1 := Fc.out.cell 1 (.slice B1 nb qb) rfl
  have c2 := Fc.out.cell 2 (.slice C1 nc qc) rfl
  have t0 := Ft.out.cell 0 (.slice none 0 0) rfl
  have tf0 := Ft.out.mark 0 (by simp)
  have t1 := Ft.out.cell 1 (.slice none 0 0) rfl
  have tf1 := Ft.out.mark 1 (by simp)
  have t2 := Ft.out.cell 2 (.slice none 0 0) rfl
  have tf2 := Ft.out.mark 2 (by simp)
  go_wp2_with fail
  refine (HV.out _ hB0).mono ?_
  rintro e w1 ⟨rfl, hb⟩
  clear m0 m1 m2 m3 m4 m5 m6 m7 m8 m9 c0 c1 c2 t0 tf0 t1 tf1 t2 tf2
  have Gm := Lib.hid (Fm.out.below hb)
  clear Fm
  have Fm := Lib.hid Gm.out
  clear Gm
  have Gc := Lib.hid (Fc.out.below hb)
  clear Fc
  have Fc := Lib.hid Gc.out
  clear Gc
  have Gt := Lib.hid (Ft.out.below hb)
  clear Ft
  have Ft := Lib.hid Gt.out
  clear Gt
  have m0 := Fm.out.cell 0 (.string name) rfl
  have m1 := Fm.out.cell 1 (.slice A la ca) rfl
  have m2 := Fm.out.cell 2 (.slice B lb cb) rfl
  have m3 := Fm.out.cell 3 (.slice Cl lc cl) rfl
  have m4 := Fm.out.cell 4 (.int .i64 r) rfl
  have m5 := Fm.out.cell 5 (.int .i64 z) rfl
  have m6 := Fm.out.cell 6 (.int .i64 nr) rfl
  have m7 := Fm.out.cell 7 (.int .i64 nz) rfl
  have m8 := Fm.out.cell 8 (.int .i64 step) rfl
  have m9 := Fm.out.cell 9 (.slice D ld cd) rfl
  have c0 := Fc.out.cell 0 (.slice A1 na qa) rfl
  have c1 := Fc.out.cell 1 (.slice B1 nb qb) rfl
  have c2 := Fc.out.cell 2 (.slice C1 nc qc) rfl
  have t0 := Ft.out.cell 0 (.slice none 0 0) rfl
  have tf0 := Ft.out.mark 0 (by simp)
  have t1 := Ft.out.cell 1 (.slice none 0 0) rfl
  have tf1 := Ft.out.mark 1 (by simp)
  have t2 := Ft.out.cell 2 (.slice none 0 0) rfl
  have tf2 := Ft.out.mark 2 (by simp)
  have hB1 := hB0.trans (hb.mono hB0.size)
  have hz1 : w.heap.size + 1 + 1 < w1.heap.size := Nat.lt_of_lt_of_le sW0 hb.size
  have hy1 : w.heap.size + 1 < w1.heap.size := by omega
  clear hb hB0 sW0
  go_wp2_with fail
  refine (HN.out _ (by (with_reducible repeat first | exact Below.refl _ _ | assumption | ((first | refine Below.setCell ?_ ?_ _ | refine Below.alloc ?_ ?_ _); rotate_left; exact (by first | omega | (simp; done) | (simp; omega))) | refine Below.drew ?_ | refine Below_drewN ?_ _))).mono ?_
  rintro e w2 ⟨rfl, hb⟩
  clear m0 m1 m2 m3 m4 m5 m6 m7 m8 m9 c0 c1 c2 t0 tf0 t1 tf1 t2 tf2
  have Gm := Lib.hid (Fm.out.below hb)
  clear Fm
  have Fm := Lib.hid Gm.out
  clear Gm
  have Gc := Lib.hid (Fc.out.below hb)
  clear Fc
  have Fc := Lib.hid Gc.out
  clear Gc
  have Gt := Lib.hid (Ft.out.below hb)
  clear Ft
  have Ft := Lib.hid Gt.out
  clear Gt
  have m0 := Fm.out.cell 0 (.string name) rfl
  have m1 := Fm.out.cell 1 (.slice A la ca) rfl
  have m2 := Fm.out.cell 2 (.slice B lb cb) rfl
  have m3 := Fm.out.cell 3 (.slice Cl lc cl) rfl
  have m4 := Fm.out.cell 4 (.int .i64 r) rfl
  have m5 := Fm.out.cell 5 (.int .i64 z) rfl
  have m6 := Fm.out.cell 6 (.int .i64 nr) rfl
  have m7 := Fm.out.cell 7 (.int .i64 nz) rfl
  have m8 := Fm.out.cell 8 (.int .i64 step) rfl
  have m9 := Fm.out.cell 9 (.slice D ld cd) rfl
  have c0 := Fc.out.cell 0 (.slice A1 na qa) rfl
  have c1 := Fc.out.cell 1 (.slice B1 nb qb) rfl
  have c2 := Fc.out.cell 2 (.slice C1 nc qc) rfl
  have t0 := Ft.out.cell 0 (.slice none 0 0) rfl
  have tf0 := Ft.out.mark 0 (by simp)
  have t1 := Ft.out.cell 1 (.slice none 0 0) rfl
  have tf1 := Ft.out.mark 1 (by simp)
  have t2 := Ft.out.cell 2 (.slice none 0 0) rfl
  have tf2 := Ft.out.mark 2 (by simp)
  have hB2 := hB1.trans (hb.mono hB1.size)
  have hz2 : w.heap.size + 1 + 1 < w2.heap.size := Nat.lt_of_lt_of_le hz1 hb.size
  have hy2 : w.heap.size + 1 < w2.heap.size := by omega
  clear hb
  go_wp2_with (go_at_call 38; first | ((with_reducible refine (HW1.out _).mono ?_); rintro e w7 ⟨rfl, rfl⟩) | ((with_reducible refine (HW2.out _).mono ?_); rintro e w7 ⟨rfl, rfl⟩))
  refine (HD.out _ (by (with_reducible repeat first | exact Below.refl _ _ | assumption | ((first | refine Below.setCell ?_ ?_ _ | refine Below.alloc ?_ ?_ _); rotate_left; exact (by first | omega | (simp; done) | (simp; omega))) | refine Below.drew ?_ | refine Below_drewN ?_ _))).mono ?_
  rintro e w3 ⟨A', ca', A2', cb', pb, rfl, hd, hb⟩
  clear m0 m1 m2 m3 m4 m5 m6 m7 m8 m9 c0 c1 c2 t0 tf0 t1 tf1 t2 tf2
  have Gm := Lib.hid (Fm.out.below hb)
  clear Fm
  have Fm := Lib.hid Gm.out
  clear Gm
  have Gc := Lib.hid (Fc.out.below hb)
  clear Fc
  have Fc := Lib.hid Gc.out
  clear Gc
  have Gt := Lib.hid (Ft.out.below hb)
  clear Ft
  have Ft := Lib.hid Gt.out
  clear Gt
  have m0 := Fm.out.cell 0 (.string name) rfl
  have m1 := Fm.out.cell 1 (.slice A la ca) rfl
  have m2 := Fm.out.cell 2 (.slice B lb cb) rfl
  have m3 := Fm.out.cell 3 (.slice Cl lc cl) rfl
  have m4 := Fm.out.cell 4 (.int .i64 r) rfl
  have m5 := Fm.out.cell 5 (.int .i64 z) rfl
  have m6 := Fm.out.cell 6 (.int .i64 nr) rfl
  have m7 := Fm.out.cell 7 (.int .i64 nz) rfl
  have m8 := Fm.out.cell 8 (.int .i64 step) rfl
  have m9 := Fm.out.cell 9 (.slice D ld cd) rfl
  have c0 := Fc.out.cell 0 (.slice A1 na qa) rfl
  have c1 := Fc.out.cell 1 (.slice B1 nb qb) rfl
  have c2 := Fc.out.cell 2 (.slice C1 nc qc) rfl
  have t0 := Ft.out.cell 0 (.slice none 0 0) rfl
  have tf0 := Ft.out.mark 0 (by simp)
  have t1 := Ft.out.cell 1 (.slice none 0 0) rfl
  have tf1 := Ft.out.mark 1 (by simp)
  have t2 := Ft.out.cell 2 (.slice none 0 0) rfl
  have tf2 := Ft.out.mark 2 (by simp)
  have hB3 := hB2.trans (hb.mono hB2.size)
  have hz3 : w.heap.size + 1 + 1 < w3.heap.size := Nat.lt_of_lt_of_le hz2 hb.size
  have hap := hd.apart
  have hpb := hd.base
  have g2 := hd.lt
  have g3 : ¬ w3.heap.size = pb := by omega
  have Hd := Lib.hid hd
  clear hb hd
  go_upto_region 6 with (fail)
  have Fq : Hid (RowL (w3.heap.size) [.slice A' na ca', .slice A2' nb cb', .slice (some ⟨pb, 0, none⟩) nc nc] (w3.alloc (.cells #[.slice A' na ca', .slice A2' nb cb', .slice (some ⟨pb, 0, none⟩) nc nc] 32))) := Lib.hid (by have h := RowL.new w3 #[.slice A' na ca', .slice A2' nb cb', .slice (some ⟨pb, 0, none⟩) nc nc] 32; (try simp only [World.size_alloc] at h); exact h)
  have hb4 : Below w3.heap.size w3 (w3.alloc (.cells #[.slice A' na ca', .slice A2' nb cb', .slice (some ⟨pb, 0, none⟩) nc nc] 32)) := by (with_reducible repeat first | exact Below.refl _ _ | assumption | ((first | refine Below.setCell ?_ ?_ _ | refine Below.alloc ?_ ?_ _); rotate_left; exact (by first | omega | (simp; done) | (simp; omega))) | refine Below.drew ?_ | refine Below_drewN ?_ _)
  have sW4 : w3.heap.size < (w3.alloc (.cells #[.slice A' na ca', .slice A2' nb cb', .slice (some ⟨pb, 0, none⟩) nc nc] 32)).heap.size := by simp only [World.size_alloc]; omega
  obtain ⟨W4, hW4⟩ : ∃ W, (w3.alloc (.cells #[.slice A' na ca', .slice A2' nb cb', .slice (some ⟨pb, 0, none⟩) nc nc] 32)) = W := ⟨_, rfl⟩
  rw [hW4] at Fq hb4 sW4 ⊢
  clear hW4
  clear m0 m1 m2 m3 m4 m5 m6 m7 m8 m9 c0 c1 c2 t0 tf0 t1 tf1 t2 tf2
  have Gm := Lib.hid (Fm.out.below hb4)
  clear Fm
  have Fm := Lib.hid Gm.out
  clear Gm
  have Gc := Lib.hid (Fc.out.below hb4)
  clear Fc
  have Fc := Lib.hid Gc.out
  clear Gc
  have Gt := Lib.hid (Ft.out.below hb4)
  clear Ft
  have Ft := Lib.hid Gt.out
  clear Gt
  have m0 := Fm.out.cell 0 (.string name) rfl
  have m1 := Fm.out.cell 1 (.slice A la ca) rfl
  have m2 := Fm.out.cell 2 (.slice B lb cb) rfl
  have m3 := Fm.out.cell 3 (.slice Cl lc cl) rfl
  have m4 := Fm.out.cell 4 (.int .i64 r) rfl
  have m5 := Fm.out.cell 5 (.int .i64 z) rfl
  have m6 := Fm.out.cell 6 (.int .i64 nr) rfl
  have m7 := Fm.out.cell 7 (.int .i64 nz) rfl
  have m8 := Fm.out.cell 8 (.int .i64 step) rfl
  have m9 := Fm.out.cell 9 (.slice D ld cd) rfl
  have c0 := Fc.out.cell 0 (.slice A1 na qa) rfl
  have c1 := Fc.out.cell 1 (.slice B1 nb qb) rfl
  have c2 := Fc.out.cell 2 (.slice C1 nc qc) rfl
  have t0 := Ft.out.cell 0 (.slice none 0 0) rfl
  have tf0 := Ft.out.mark 0 (by simp)
  have t1 := Ft.out.cell 1 (.slice none 0 0) rfl
  have tf1 := Ft.out.mark 1 (by simp)
  have t2 := Ft.out.cell 2 (.slice none 0 0) rfl
  have tf2 := Ft.out.mark 2 (by simp)
  have q0 := Fq.out.cell 0 (.slice A' na ca') rfl
  have q1 := Fq.out.cell 1 (.slice A2' nb cb') rfl
  have q2 := Fq.out.cell 2 (.slice (some ⟨pb, 0, none⟩) nc nc) rfl
  have hB4 := hB3.trans (hb4.mono hB3.size)
  have hs4 := hb4.size
  have hdc := Hd.out.coils.below hb4
  have hds := Hd.out.shells.below hb4
  have hzr := Hd.out.zero.below hb4
  have zc := hzr.cell i hin
  have zf := hzr.mark i hin
  have hpl := hzr.lt
  have Hdc := Lib.hid hdc
  have Hds := Lib.hid hds
  have Hzr := Lib.hid hzr
  have Hap := Lib.hid hap
  clear hdc hds hzr hap hb4 Hd
  have g1 : w.heap.size + 1 + 1 < pb := by omega
  have hz4 : w.heap.size + 1 + 1 < W4.heap.size := by omega
  go_wp2_with fail
  refine bodyPost_ret (resT Tryz.results15 _ _ _ _ _ _ _ rfl rfl ?_ ?_ ?_) rfl ?_
  · exact (by (try simp only [isSome_setCell]); first | assumption | go_simp)
  · exact (by (try simp only [isSome_setCell]); first | assumption | go_simp)
  · exact (by (try simp only [isSome_setCell]); first | assumption | go_simp)
  refine ⟨_, _, _, _, _, rfl, ?_, ⟨fun a ha => by have h9 := Hdc.out.new a ha; omega, fun a ha => by have h9 := Hds.out.new a ha; omega, by omega⟩, by (with_reducible repeat first | exact Below.refl _ _ | assumption | ((first | refine Below.setCell ?_ ?_ _ | refine Below.alloc ?_ ?_ _); rotate_left; exact (by first | omega | (simp; done) | (simp; omega))) | refine Below.drew ?_ | refine Below_drewN ?_ _)⟩
  have hdc := Hdc.out
  have hds := Hds.out
  have hap := Hap.out
  refine ⟨?_, ?_, ?_, hdc.le, hds.le, Nat.le_refl _, ?_, ?_, ?_, by dsimp only; omega, by dsimp only; omega, by dsimp only; omega⟩
  · repeat refine isT_set ?_ (fun a ha => by have h9 := hdc.new a ha; dsimp only; first | exact hap.1 a ha | omega) _
    exact hdc.isT
  · repeat refine isT_set ?_ (fun a ha => by have h9 := hds.new a ha; dsimp only; first | exact hap.2 a ha | omega) _
    exact hds.isT
  · refine isT_set (isT_set (isT_set (isT_put Hzr.out i hin cur) (fun a ha => ?_) _) (fun a ha => ?_) _) (fun a ha => ?_) _
    all_goals (obtain rfl := Option.some.inj ha; dsimp only; omega)
  · have := hdc.cap; unfold maxLen at this; dsimp only; omega
  · have := hds.cap; unfold maxLen at this; dsimp only; omega
  · dsimp only; omega
theorem rfilN_any (R : MachR) (M : MachD) (Q : CurR) (C : CurD) (cell cur : Int) (w : World) (hM : IsM w R M) (hC : IsC w Q C) :
    Calls Tryz.prog 15 #[.agg (machCells R M), Q.v, .int .i64 cell, .int .i64 cur] w (fun e w' => ∃ Y : CurR, e = .returned (.tuple #[.agg #[.slice Y.A Y.la Y.ca, .slice Y.B Y.lb Y.cb, .slice Y.C Y.lc Y.cc], .int .i64 (filaE M C cell cur)]) ∧ (filaE M C cell cur = 0 → IsC w' Y (filaD C cell cur) ∧ (∀ b o, Y.A = some ⟨b, o, none⟩ → w.heap.size ≤ b) ∧ (∀ b o, Y.B = some ⟨b, o, none⟩ → w.heap.size ≤ b) ∧ (∀ b o, Y.C = some ⟨b, o, none⟩ → w.heap.size ≤ b)) ∧ Below w.heap.size w w') := by
  by_cases h : filaE M C cell cur = 0
  · refine (rfilamentN_ok R M Q C cell cur w hM hC h).mono ?_
    rintro e w1 ⟨A, ca, A2, cb, pb, rfl, hi, ⟨n1, n2, n3⟩, hb⟩
    exact ⟨⟨A, A2, some ⟨pb, 0, none⟩, Q.la, ca, Q.lb, cb, Q.lc, Q.lc⟩, by rw [h], fun _ => ⟨hi, fun b o e => n1 _ e, fun b o e => n2 _ e, fun b o e => by cases e; exact n3⟩, hb⟩
  · refine (rfilament_bad R M Q C cell cur w hM hC h).mono ?_
    rintro e w1 ⟨rfl, hb⟩
    exact ⟨⟨none, none, none, 0, 0, 0, 0, 0, 0⟩, rfl, fun e => absurd e h, hb⟩
end
section
open Go.RowKit
def mx1 (h v : Nat) : Nat := ((((h ^^^ v) * 2654435761 % 4294967296) ^^^ ((h ^^^ v) * 2654435761 % 4294967296) / 32768) * 2246822507 % 4294967296) ^^^ (((((h ^^^ v) * 2654435761 % 4294967296) ^^^ ((h ^^^ v) * 2654435761 % 4294967296) / 32768) * 2246822507 % 4294967296) / 8192)
def mixN (s a b : Nat) : Nat := mx1 (mx1 s a) b
structure MixR (h v x1 x2 x3 x4 x5 x6 x7 : Nat) : Prop where
  l1 : x1 < 4294967296
  l2 : x2 < 4294967296
  l4 : x4 < 4294967296
  l5 : x5 < 4294967296
  l7 : x7 < 4294967296
  l3 : x3 < 4294967296
  l6 : x6 < 4294967296
  a1 : bits BinOp.xor IntKind.u32 (h : Int) (v : Int) = (x1 : Int)
  a2 : IntKind.u32.wrap ((x1 : Int) * 2654435761) = (x2 : Int)
  a3 : (x2 : Int) / 32768 = (x3 : Int)
  a4 : bits BinOp.xor IntKind.u32 (x2 : Int) (x3 : Int) = (x4 : Int)
  a5 : IntKind.u32.wrap ((x4 : Int) * 2246822507) = (x5 : Int)
  a6 : (x5 : Int) / 8192 = (x6 : Int)
  a7 : bits BinOp.xor IntKind.u32 (x5 : Int) (x6 : Int) = (x7 : Int)
  b1 : bits BinOp.xor IntKind.u64 (h : Int) (v : Int) = (x1 : Int)
  b2 : (x1 : Int) * 2654435761 % 4294967296 = (x2 : Int)
  b4 : bits BinOp.xor IntKind.u64 (x2 : Int) (x3 : Int) = (x4 : Int)
  b5 : (x4 : Int) * 2246822507 % 4294967296 = (x5 : Int)
  b7 : bits BinOp.xor IntKind.u64 (x5 : Int) (x6 : Int) = (x7 : Int)
  e : x7 = mx1 h v
theorem xor32 {a b : Nat} (ha : a < 4294967296) (hb : b < 4294967296) : a ^^^ b < 4294967296 := by
  have : a ^^^ b < 2 ^ 32 := Nat.xor_lt_two_pow (by omega) (by omega)
  omega
theorem mixR_of {h v : Nat} (hh : h < 4294967296) (hv : v < 4294967296) : ∃ x1 x2 x3 x4 x5 x6 x7, MixR h v x1 x2 x3 x4 x5 x6 x7 := by
  have l1 := xor32 hh hv
  have e1 := u32_xor_nat h v hh hv
  have f1 := bits_xor_u64_nat h v (by omega) (by omega)
  obtain ⟨x1, hx1⟩ : ∃ x, h ^^^ v = x := ⟨_, rfl⟩
  rw [hx1] at l1 e1 f1
  obtain ⟨x2, hx2⟩ : ∃ x, x1 * 2654435761 % 4294967296 = x := ⟨_, rfl⟩
  have l2 : x2 < 4294967296 := by omega
  obtain ⟨x3, hx3⟩ : ∃ x, x2 / 32768 = x := ⟨_, rfl⟩
  have l3 : x3 < 4294967296 := by omega
  have l4 := xor32 l2 l3
  have e4 := u32_xor_nat x2 x3 l2 l3
  have f4 := bits_xor_u64_nat x2 x3 (by omega) (by omega)
  obtain ⟨x4, hx4⟩ : ∃ x, x2 ^^^ x3 = x := ⟨_, rfl⟩
  rw [hx4] at l4 e4 f4
  obtain ⟨x5, hx5⟩ : ∃ x, x4 * 2246822507 % 4294967296 = x := ⟨_, rfl⟩
  have l5 : x5 < 4294967296 := by omega
  obtain ⟨x6, hx6⟩ : ∃ x, x5 / 8192 = x := ⟨_, rfl⟩
  have l6 : x6 < 4294967296 := by omega
  have l7 := xor32 l5 l6
  have e7 := u32_xor_nat x5 x6 l5 l6
  have f7 := bits_xor_u64_nat x5 x6 (by omega) (by omega)
  refine ⟨x1, x2, x3, x4, x5, x6, x5 ^^^ x6, l1, l2, l4, l5, l7, l3, l6, e1, ?_, ?_, e4, ?_, ?_, e7, f1, ?_, f4, ?_, f7, ?_⟩
  · rw [IntKind.wrap_u32']; omega
  · omega
  · rw [IntKind.wrap_u32']; omega
  · omega
  · omega
  · omega
  · unfold mx1
    rw [hx1, hx2, hx3, hx4, hx5, hx6]
set_option maxHeartbeats 2000000 in
theorem mix_any (s a b : Nat) (w : World) (hs : s < 4294967296) (ha : a < 4294967296) (hb : b < 4294967296) :
    Calls Tryz.prog 44 #[.int .u32 s, .int .u32 a, .int .u32 b] w fun e w' => e = .returned (.int .u32 (mixN s a b)) ∧ w = w' := by
  have i0 : ∀ w, (Instr.index 144 (.agg #[.int .u32 a, .int .u32 b]) (.int .i64 0)).run Tryz.prog w = .ok (.int .u32 a) w := fun _ => by kernel_rfl
  have i1 : ∀ w, (Instr.index 144 (.agg #[.int .u32 a, .int .u32 b]) (.int .i64 1)).run Tryz.prog w = .ok (.int .u32 b) w := fun _ => by kernel_rfl
  obtain ⟨x1, x2, x3, x4, x5, x6, x7, hX⟩ := mixR_of hs ha
  obtain ⟨y1, y2, y3, y4, y5, y6, y7, hY⟩ := mixR_of hX.l7 hb
  have HE : Hid ((y7 : Int) = (mixN s a b : Nat)) := Lib.hid (by unfold mixN; rw [← hX.e, ← hY.e])
  generalize ((mixN s a b : Nat) : Int) = G at *
  have HX := Lib.hid hX
  have HY := Lib.hid hY
  clear hX hY
  go_enter Tryz.func44, Tryz.ntmps44
  go_wp2
  go_loop [7, 9, 14] (fun h _ i => (i = .int .i64 0 ∧ h = .int .u32 s) ∨ (i = .int .i64 1 ∧ h = .int .u32 x7) ∨ (i = .int .i64 2 ∧ h = .int .u32 y7)) (fun _ _ i => 2 - (intOf i).toNat)
  case atStart => exact Or.inl ⟨rfl, rfl⟩
  case round =>
    rcases hrel with ⟨rfl, rfl⟩ | ⟨rfl, rfl⟩ | ⟨rfl, rfl⟩
    · obtain ⟨l1, l2, l4, l5, l7, l3, l6, a1, a2, a3, a4, a5, a6, a7, -, -, -, -, -, -⟩ := HX.out
      clear i1
      go_wp2
      go_round
      case rel => exact Or.inr (Or.inl ⟨rfl, rfl⟩)
      case measure => simp [intOf]
    · obtain ⟨l1, l2, l4, l5, l7, l3, l6, a1, a2, a3, a4, a5, a6, a7, -, -, -, -, -, -⟩ := HY.out
      clear i0
      go_wp2
      go_round
      case rel => exact Or.inr (Or.inr ⟨rfl, rfl⟩)
      case measure => simp [intOf]
    · go_wp2
      go_ret
      exact ⟨by rw [← HE.out]; rfl, rfl⟩
end
section
open Go.RowKit
def effD (k v n : Int) : Int := if k = 1 then v + n else if k = 2 then v * n / 1000 else 0
def clampF (v : Int) : Int := max (-500000000000000) (min v 500000000000000)
def faultGo (k t : Int) : List FaultD → Int → Int
  | [], v => v
  | f :: r, v => faultGo k t r (if f.sensor = k ∧ f.at_ ≤ t then clampF (effD f.kind v f.n) else v)
theorem faultGo_drop {k t : Int} {zs : List FaultD} {j : Nat} {f : FaultD} (h : zs[j]? = some f) (v : Int) : faultGo k t (zs.drop j) v = faultGo k t (zs.drop (j + 1)) (if f.sensor = k ∧ f.at_ ≤ t then clampF (effD f.kind v f.n) else v) := by
  obtain ⟨hj, rfl⟩ := List.getElem?_eq_some_iff.1 h
  rw [List.drop_eq_getElem_cons hj]; rfl
theorem clampF_bd (v : Int) : -500000000000000 ≤ clampF v ∧ clampF v ≤ 500000000000000 := by unfold clampF; omega
theorem faultGo_bd (k t : Int) : ∀ (zs : List FaultD) (v B : Int), 500000000000000 ≤ B → -B ≤ v → v ≤ B → -B ≤ faultGo k t zs v ∧ faultGo k t zs v ≤ B
  | [], v, B, _, h1, h2 => ⟨h1, h2⟩
  | f :: r, v, B, h0, h1, h2 => by
    unfold faultGo
    have hc := clampF_bd (effD f.kind v f.n)
    split
    · exact faultGo_bd k t r _ B h0 (by omega) (by omega)
    · exact faultGo_bd k t r _ B h0 h1 h2
theorem faults_iff {M : MachD} {zs : List FaultD} (h : faultsB M zs = true) : zs.length ≤ 32 ∧ ∀ f ∈ zs, (1 ≤ f.kind ∧ f.kind ≤ 3) ∧ -1000000000000000 ≤ f.n ∧ f.n ≤ 1000000000000000 ∧ (f.kind = 2 → -100000 ≤ f.n ∧ f.n ≤ 100000) := by
  unfold faultsB at h
  rw [Bool.and_eq_true, Bool.and_eq_true, decide_eq_true_iff, decide_eq_true_iff, List.all_eq_true] at h
  refine ⟨h.2.1, fun f hf => ?_⟩
  have h1 := h.2.2 f hf
  unfold faultB at h1
  rw [Bool.and_eq_true, Bool.and_eq_true, Bool.and_eq_true] at h1
  have h2 := wthn_iff.1 h1.1
  have h3 := wthn_iff.1 h1.2.2.2
  refine ⟨h2, ?_⟩
  have h4 : mostK f.kind ≤ 1000000000000000 := by
    unfold mostK; split
    · omega
    · split <;> omega
  refine ⟨by omega, by omega, fun e => ?_⟩
  rw [e] at h3
  simp only [mostK] at h3
  simpa using h3
theorem fluxP_bdB (p : Int × Int) (B : Int) : ∀ (S : List Src), (∀ x ∈ S, -B ≤ x.2 ∧ x.2 ≤ B) → -(250000 * B * (S.length : Int)) ≤ fluxP p S ∧ fluxP p S ≤ 250000 * B * (S.length : Int)
  | [], _ => by simp [fluxP]
  | x :: r, h => by
    have h1 := fluxP_bdB p B r (fun y hy => h y (List.mem_cons_of_mem _ hy))
    have h2 := h x (by simp)
    have h3 := infl_bd p.1 p.2 x.1.1 x.1.2
    have h4 := mul_bd h3.1 h3.2 h2.1 h2.2
    have h5 : 250000 * B * ((r.length + 1 : Nat) : Int) = 250000 * B * (r.length : Int) + 250000 * B := by
      rw [Int.natCast_add, Int.mul_add]; simp
    simp only [fluxP, List.length_cons]
    rw [h5]
    omega
theorem fluxM_bd {M : MachD} {C : CurD} (h : Fit2 M C) (p : Int × Int) : -400000000000000 ≤ fluxP p (srcM M C) ∧ fluxP p (srcM M C) ≤ 400000000000000 := by
  have hs := sound_of h.check
  have hg := cells_fine hs.grid
  have e : srcM M C = List.zipWith (fun c x => ((c.r, c.z), c.turns * x)) M.coils C.coils ++ (List.zipWith (fun s x => ((s.r, s.z), x)) M.shells C.shells ++ cellSrc M.grid C.plasma C.plasma.length) := rfl
  rw [e, fluxP_append]
  have a := fluxP_bdB p 100000000 (List.zipWith (fun c x => ((c.r, c.z), c.turns * x)) M.coils C.coils) (fun x hx => by
    obtain ⟨k, hk, e⟩ := List.mem_iff_getElem.1 hx
    simp at e
    simp at hk
    have h1 := hs.coils.2 _ (List.getElem_mem (show k < M.coils.length by omega))
    have h2 := h.coils.2 _ (List.getElem_mem (show k < C.coils.length by omega))
    have h3 := mul_bd (show 0 ≤ M.coils[k].turns by omega) h1.1.2 h2.1 h2.2
    rw [← e]; dsimp only; omega)
  have b := fluxP_bdB p 1000000 (List.zipWith (fun s x => ((s.r, s.z), x)) M.shells C.shells ++ cellSrc M.grid C.plasma C.plasma.length) (fun x hx => by
    rcases List.mem_append.1 hx with hx | hx
    · obtain ⟨k, hk, e⟩ := List.mem_iff_getElem.1 hx
      simp at e
      simp at hk
      have h2 := h.shells.2 _ (List.getElem_mem (show k < C.shells.length by omega))
      rw [← e]; dsimp only; omega
    · unfold cellSrc at hx
      obtain ⟨k, hk, e⟩ := List.mem_map.1 hx
      rw [List.mem_range] at hk
      have h2 := h.plasma.2 _ (List.getElem_mem hk)
      rw [← e]; dsimp only
      rw [List.getElem?_eq_getElem hk]; simp only [Option.getD_some]; omega)
  have la : (List.zipWith (fun (c : CoilD) (x : Int) => ((c.r, c.z), c.turns * x)) M.coils C.coils).length ≤ 12 := by
    have := hs.coils.1; simp; omega
  have lb : (List.zipWith (fun (s : ShellD) (x : Int) => ((s.r, s.z), x)) M.shells C.shells ++ cellSrc M.grid C.plasma C.plasma.length).length ≤ 80 := by
    have := hs.shells.1; have := h.plasma.1; simp [cellSrc]; omega
  omega
theorem exactL_bd (M : MachD) (C : CurD) (i : Int) : -1000000000000000 ≤ (exactL M C i).1 ∧ (exactL M C i).1 ≤ 1000000000000000 := by
  unfold exactL
  by_cases hv : validC M C = true
  · rw [if_pos hv]
    split
    · split
      · rename_i x _
        have q := fluxM_bd (fit2_iff.1 hv)
        have a := q (x.r, x.z)
        have b := q (x.r, x.z - 1)
        have c := q (x.r, x.z + 1)
        have d := q (x.r + 1, x.z)
        have e := q (x.r - 1, x.z)
        unfold sensP fieldP
        split
        · omega
        · split
          · dsimp only; omega
          · dsimp only; omega
      · simp
    · simp
  · rw [if_neg hv]; simp
theorem mx1_lt (h v : Nat) : mx1 h v < 4294967296 := by
  unfold mx1
  exact xor32 (Nat.mod_lt _ (by omega)) (Nat.lt_of_le_of_lt (Nat.div_le_self _ _) (Nat.mod_lt _ (by omega)))
theorem mixN_lt (s a b : Nat) : mixN s a b < 4294967296 := mx1_lt _ _
def rdF (M : MachD) (C : CurD) (zs : List FaultD) (sd tn k : Nat) : SpanD :=
  ⟨faultGo k tn zs (exactL M C k).1 + ((mixN sd tn k : Int).tmod (2 * (M.sensors.getD k ⟨⟨#[]⟩, 0, 0, 0, 0⟩).error + 1) - (M.sensors.getD k ⟨⟨#[]⟩, 0, 0, 0, 0⟩).error) - (M.sensors.getD k ⟨⟨#[]⟩, 0, 0, 0, 0⟩).error,
   faultGo k tn zs (exactL M C k).1 + ((mixN sd tn k : Int).tmod (2 * (M.sensors.getD k ⟨⟨#[]⟩, 0, 0, 0, 0⟩).error + 1) - (M.sensors.getD k ⟨⟨#[]⟩, 0, 0, 0, 0⟩).error) + (M.sensors.getD k ⟨⟨#[]⟩, 0, 0, 0, 0⟩).error⟩
theorem tdiv_thou (v : Int) : (-(max v (-v)) ≤ 1000 * v.tdiv 1000 ∧ 1000 * v.tdiv 1000 ≤ max v (-v)) ∧ -1000 ≤ v.tmod 1000 ∧ v.tmod 1000 ≤ 1000 := by
  have h := Int.mul_tdiv_add_tmod v 1000
  rcases Int.le_total 0 v with h0 | h0
  · have e := Int.tdiv_eq_ediv_of_nonneg (b := 1000) h0
    rw [e] at h ⊢
    omega
  · have e := Int.tdiv_eq_ediv_of_nonneg (a := -v) (b := 1000) (by omega)
    rw [Int.neg_tdiv] at e
    have e2 : v.tdiv 1000 = -(-v / 1000) := by omega
    rw [e2] at h ⊢
    omega
theorem gain_floor (v n : Int) : v.tdiv 1000 * n + flo (v.tmod 1000 * n) 1000 = v * n / 1000 := by
  have h : v * n = 1000 * (v.tdiv 1000 * n) + v.tmod 1000 * n := by
    conv => lhs; rw [← Int.mul_tdiv_add_tmod v 1000]
    rw [Int.add_mul, Int.mul_assoc]
  unfold flo
  rw [if_pos (by omega), h]
  omega
theorem mul_bd5 {a b A B : Int} (a0 : -A ≤ a) (a1 : a ≤ A) (b0 : -B ≤ b) (b1 : b ≤ B) : -(A * B) ≤ a * b ∧ a * b ≤ A * B := by
  have hA : 0 ≤ A := by omega
  have hB : 0 ≤ B := by omega
  have h1 : (A - a) * (B + b) ≥ 0 := Int.mul_nonneg (by omega) (by omega)
  have h2 : (A + a) * (B - b) ≥ 0 := Int.mul_nonneg (by omega) (by omega)
  have h3 : (A - a) * (B - b) ≥ 0 := Int.mul_nonneg (by omega) (by omega)
  have h4 : (A + a) * (B + b) ≥ 0 := Int.mul_nonneg (by omega) (by omega)
  simp only [Int.sub_mul, Int.mul_sub, Int.add_mul, Int.mul_add] at h1 h2 h3 h4
  omega
section
variable {P : Program} {e0 : Cfg} {U : Snaps} {l : Slots} {L : Boxes}
theorem q_indexArr {s e b o i n z : Nat} {ii : Int} {k : IntKind} (o' : Nat) {ox oi : Operand} {ty : TypeId} {pos : String} {af : Array Edge} {g : Option (Nat × Bool)} {dd : Option Nat} (hx : E l ox = some (.pointer (some ⟨b, o, none⟩))) (hi : E l oi = some (.int k ii)) (hii : ii = (i : Int)) (hil : i < n) (hu : ∀ w, (underlying s).run P w = .ok (.array n e) w) (hz : ∀ w, (sizeOf e).run P w = .ok z w) (ho : o + i * z = o') : Q1 P e0 U l L ⟨dd, .indexAddr s ox oi, ty, pos, af, g⟩ (.pointer (some ⟨b, o', none⟩)) := by
  intro a w hf hs
  have ha : (⟨b, o, none⟩ : Addr).add (i * z) = ⟨b, o', none⟩ := by
    unfold Addr.add; split
    · rename_i h; rw [h] at ho; subst ho; rfl
    · subst ho; rfl
  subst hii
  have h0 : (0 : Int) ≤ (i : Int) ∧ (i : Int) < (n : Int) := ⟨by omega, by omega⟩
  simp [execOp, hf.ev hx, hf.ev hi, Instr.indexAt, asIntOf, Instr.sureAddr, hu, hz, h0, ha, hil]
end
set_option maxRecDepth 100000 in
theorem cgained_any (v n : Int) (w : World) (v0 : -51000000000000000 ≤ v) (v1 : v ≤ 51000000000000000) (n0 : -100000 ≤ n) (n1 : n ≤ 100000) : Calls Tryz.prog 125 #[(.int .i64 v), (.int .i64 n)] w (Ret (.int .i64 (v * n / 1000)) w) := by
  have hq : -51000000000000 ≤ v.tdiv 1000 ∧ v.tdiv 1000 ≤ 51000000000000 := by have := (tdiv_thou v).1; omega
  have hr : -1000 ≤ v.tmod 1000 ∧ v.tmod 1000 ≤ 1000 := by have := (tdiv_thou v).2; omega
  have hm1 := mul_bd5 (a := v.tdiv 1000) (b := n) (A := 51000000000000) (B := 100000) hq.1 hq.2 n0 n1
  have hm2 := mul_bd5 (a := v.tmod 1000) (b := n) (A := 1000) (B := 100000) hr.1 hr.2 n0 n1
  have hf := flo_bd (v.tmod 1000 * n) 1000 (by omega) (by omega) (by omega)
  refine calls_ax (vs := [(.int .i64 v), (.int .i64 n)]) Tryz.func125 rfl rfl ?_
  refine ac_seq (ac_region ?_)
  refine al_p (q_assign rfl) (al_end (aq_then ?_))
  refine ac_seq (ac_region ?_)
  refine al_p (q_move rfl) ?_
  refine al_p (q_quo rfl rfl (by omega)) (al_p (q_move rfl) ?_)
  refine al_p (q_mul rfl rfl (by omega)) (al_p (q_move rfl) ?_)
  refine al_p (q_rem rfl rfl (by omega)) (al_p (q_move rfl) ?_)
  refine al_p (q_mul rfl rfl (by omega)) (al_call Tryz.call83 (.cons rfl (.cons rfl .nil)) rfl rfl (fun w1 hs1 => ?_))
  refine (down_any (v.tmod 1000 * n) 1000 _ (by omega) (by omega) (by omega) (by omega) (by omega)).mono ?_
  rintro e u1 ⟨rfl, rfl⟩
  refine ⟨_, rfl, (Below.refl _ _), ?_⟩
  clear hs1
  refine al_p (q_add rfl rfl (by omega)) (al_p (q_assign rfl) (al_end (aq_then ?_)))
  refine ac_ret (ret1 Tryz.results125 rfl (fun w9 hs => ?_))
  refine ⟨?_, hs.below⟩; rw [gain_floor]
def effF (k : Int) : Nat := if k = 1 then 124 else if k = 2 then 125 else 126
theorem sra_bl_x194_1_2_3 (a0 a1 a2 : Value) (ha0 : a0.oneCell' = true) (ha1 : a1.oneCell' = true) (ha2 : a2.oneCell' = true) : ∀ w, (Instr.build 186 #[(1, a0), (2, a1), (3, a2)]).run Tryz.prog w = .ok (.agg #[.nilFunc, a0, a1, a2]) w := by
  have ea0 : a0.cells = #[a0] := cells_one ha0
  have ea1 : a1.cells = #[a1] := cells_one ha1
  have ea2 : a2.cells = #[a2] := cells_one ha2
  intro w; simp [Instr.build, Instr.fill, cells_agg, Tryz.runUnderlying186, Tryz.zeroValue186, Tryz.sizeOf121, ea0, ea1, ea2]
set_option maxRecDepth 100000 in
theorem effect_1 (w : World) : Calls Tryz.prog 81 #[.int .i64 1] w (Ret (.func (.func 124) #[] #[]) w) := by
  refine calls_ax (vs := [.int .i64 1]) Tryz.func81 rfl rfl ?_
  refine ac_seq (ac_region ?_)
  refine al_p (q_assign rfl) (al_end (aq_then ?_))
  refine ac_seq (ac_region ?_)
  refine al_p (q_build (.cons rfl (.cons rfl (.cons rfl .nil))) (sra_bl_x194_1_2_3 _ _ _ rfl rfl rfl)) (al_new (fun b => .pointer (some ⟨b, 0, none⟩)) (r_alloc Tryz.zeroValue186 rfl) rfl rfl rfl ?_)
  intro b1
  refine al_storeAll (i := 0) rfl rfl rfl rfl Tryz.sizeOf186 rfl rfl .k0 rfl (al_end (aq_then ?_))
  refine ac_seq (ac_region ?_)
  refine al_p (q_move rfl) ?_
  refine al_p (q_indexArr (i := 1) 1 rfl rfl rfl (by decide) Tryz.runUnderlying186 Tryz.sizeOf121 rfl) (al_p (q_load (i := 0) rfl rfl rfl Tryz.isAgg121) (al_p (q_assign rfl) (al_end (aq_then ?_))))
  refine ac_ret (ret1 Tryz.results81 rfl (fun w9 hs => ?_))
  exact ⟨rfl, hs.below⟩
set_option maxRecDepth 100000 in
theorem effect_2 (w : World) : Calls Tryz.prog 81 #[.int .i64 2] w (Ret (.func (.func 125) #[] #[]) w) := by
  refine calls_ax (vs := [.int .i64 2]) Tryz.func81 rfl rfl ?_
  refine ac_seq (ac_region ?_)
  refine al_p (q_assign rfl) (al_end (aq_then ?_))
  refine ac_seq (ac_region ?_)
  refine al_p (q_build (.cons rfl (.cons rfl (.cons rfl .nil))) (sra_bl_x194_1_2_3 _ _ _ rfl rfl rfl)) (al_new (fun b => .pointer (some ⟨b, 0, none⟩)) (r_alloc Tryz.zeroValue186 rfl) rfl rfl rfl ?_)
  intro b1
  refine al_storeAll (i := 0) rfl rfl rfl rfl Tryz.sizeOf186 rfl rfl .k0 rfl (al_end (aq_then ?_))
  refine ac_seq (ac_region ?_)
  refine al_p (q_move rfl) ?_
  refine al_p (q_indexArr (i := 2) 2 rfl rfl rfl (by decide) Tryz.runUnderlying186 Tryz.sizeOf121 rfl) (al_p (q_load (i := 0) rfl rfl rfl Tryz.isAgg121) (al_p (q_assign rfl) (al_end (aq_then ?_))))
  refine ac_ret (ret1 Tryz.results81 rfl (fun w9 hs => ?_))
  exact ⟨rfl, hs.below⟩
set_option maxRecDepth 100000 in
theorem effect_3 (w : World) : Calls Tryz.prog 81 #[.int .i64 3] w (Ret (.func (.func 126) #[] #[]) w) := by
  refine calls_ax (vs := [.int .i64 3]) Tryz.func81 rfl rfl ?_
  refine ac_seq (ac_region ?_)
  refine al_p (q_assign rfl) (al_end (aq_then ?_))
  refine ac_seq (ac_region ?_)
  refine al_p (q_build (.cons rfl (.cons rfl (.cons rfl .nil))) (sra_bl_x194_1_2_3 _ _ _ rfl rfl rfl)) (al_new (fun b => .pointer (some ⟨b, 0, none⟩)) (r_alloc Tryz.zeroValue186 rfl) rfl rfl rfl ?_)
  intro b1
  refine al_storeAll (i := 0) rfl rfl rfl rfl Tryz.sizeOf186 rfl rfl .k0 rfl (al_end (aq_then ?_))
  refine ac_seq (ac_region ?_)
  refine al_p (q_move rfl) ?_
  refine al_p (q_indexArr (i := 3) 3 rfl rfl rfl (by decide) Tryz.runUnderlying186 Tryz.sizeOf121 rfl) (al_p (q_load (i := 0) rfl rfl rfl Tryz.isAgg121) (al_p (q_assign rfl) (al_end (aq_then ?_))))
  refine ac_ret (ret1 Tryz.results81 rfl (fun w9 hs => ?_))
  exact ⟨rfl, hs.below⟩
set_option maxRecDepth 100000 in
theorem eff1_any (v n : Int) (w : World) (h0 : -9000000000000000000 ≤ v + n) (h1 : v + n ≤ 9000000000000000000) : Calls Tryz.prog 124 #[(.int .i64 v), (.int .i64 n)] w (Ret (.int .i64 (v + n)) w) := by
  refine calls_ax (vs := [(.int .i64 v), (.int .i64 n)]) Tryz.func124 rfl rfl ?_
  refine ac_seq (ac_region ?_)
  refine al_p (q_assign rfl) (al_end (aq_then ?_))
  refine ac_seq (ac_region ?_)
  refine al_p (q_move rfl) (al_p (q_move rfl) ?_)
  refine al_p (q_add rfl rfl (by omega)) (al_p (q_assign rfl) (al_end (aq_then ?_)))
  refine ac_ret (ret1 Tryz.results124 rfl (fun w9 hs => ?_))
  exact ⟨rfl, hs.below⟩
set_option maxRecDepth 100000 in
theorem eff3_any (v n : Int) (w : World) : Calls Tryz.prog 126 #[(.int .i64 v), (.int .i64 n)] w (Ret (.int .i64 0) w) := by
  refine calls_ax (vs := [(.int .i64 v), (.int .i64 n)]) Tryz.func126 rfl rfl ?_
  refine ac_seq (ac_region ?_)
  refine al_p (q_assign rfl) (al_end (aq_then ?_))
  refine ac_seq (ac_region ?_)
  refine al_p (q_assign rfl) (al_end (aq_then ?_))
  refine ac_ret (ret1 Tryz.results126 rfl (fun w9 hs => ?_))
  exact ⟨rfl, hs.below⟩
theorem three_ways {k : Int} (h : 1 ≤ k ∧ k ≤ 3) : k = 1 ∨ k = 2 ∨ k = 3 := by omega
theorem effect_any (k : Int) (w : World) (h : 1 ≤ k ∧ k ≤ 3) : Calls Tryz.prog 81 #[.int .i64 k] w (Ret (.func (.func (effF k)) #[] #[]) w) := by
  rcases three_ways h with rfl | rfl | rfl
  · exact effect_1 w
  · exact effect_2 w
  · exact effect_3 w
theorem effF_call (k : Int) : ∀ (args : Array Value) (w : World), (callFunc (effF k) args).run Tryz.prog w = .ok (.enter (effF k) args) w := by
  unfold effF
  split
  · exact Tryz.call124
  · split
    · exact Tryz.call125
    · exact Tryz.call126
theorem eff_any (k v n : Int) (w : World) (h : 1 ≤ k ∧ k ≤ 3) (v0 : -50000000000000000 ≤ v) (v1 : v ≤ 50000000000000000) (n0 : -1000000000000000 ≤ n) (n1 : n ≤ 1000000000000000) (hn : k = 2 → -100000 ≤ n ∧ n ≤ 100000) : Calls Tryz.prog (effF k) #[.int .i64 v, .int .i64 n] w (Ret (.int .i64 (effD k v n)) w) := by
  rcases three_ways h with rfl | rfl | rfl
  · exact eff1_any v n w (by omega) (by omega)
  · exact cgained_any v n w (by omega) (by omega) (hn rfl).1 (hn rfl).2
  · exact eff3_any v n w
set_option maxRecDepth 100000 in
theorem faulty_any (v k tk : Int) (F : Option Addr) (nf cf : Nat) (zs : List FaultD) (w : World) (hF : IsT 4 FaultD.cells w F nf zs) (hn : nf ≤ 1000) (v0 : -50000000000000000 ≤ v) (v1 : v ≤ 50000000000000000) (hfs : ∀ f ∈ zs, (1 ≤ f.kind ∧ f.kind ≤ 3) ∧ -1000000000000000 ≤ f.n ∧ f.n ≤ 1000000000000000 ∧ (f.kind = 2 → -100000 ≤ f.n ∧ f.n ≤ 100000)) : Calls Tryz.prog 43 #[(.int .i64 v), (.slice F nf cf), (.int .i64 k), (.int .i64 tk)] w (Ret (.int .i64 (faultGo k tk zs v)) w) := by
  have e1 := hF.1
  refine calls_ax (vs := [(.int .i64 v), (.slice F nf cf), (.int .i64 k), (.int .i64 tk)]) Tryz.func43 rfl rfl ?_
  refine ac_seq (ac_region ?_)
  refine al_p (q_assign rfl) (al_end (aq_then ?_))
  refine ac_seq (ac_seq (ac_region ?_))
  refine al_p (q_move rfl) (al_p (q_lenS rfl Tryz.runUnderlying59) (al_p (q_move rfl) (al_end (aq_then ?_))))
  refine ac_block (ac_loop (β := Nat × Int) (fun y => y.1 ≤ nf ∧ faultGo k tk zs v = faultGo k tk (zs.drop y.1) y.2 ∧ -50000000000000000 ≤ y.2 ∧ y.2 ≤ 50000000000000000) (fun y => [(0, (.int .i64 y.2)), (2, (.int .i64 k)), (3, (.int .i64 tk)), (8, (.int .i64 0)), (11, (.slice F nf cf)), (12, (.int .i64 (nf : Int))), (13, (.int .i64 (y.1 : Int)))]) (fun _ => _) (fun y => []) (fun y => nf - y.1) (0, v) ⟨by simp, rfl, v0, v1⟩ ⟨rfl, rfl, rfl, rfl, rfl, rfl, rfl, trivial⟩ (fun w9 hs => hs) (fun y hF1 => ?_))
  obtain ⟨hyl, hyg, hy0, hy1⟩ := hF1
  refine ac_seq (ac_region ?_)
  refine al_p (q_lss rfl rfl) (al_end (aq_then ?_))
  refine ac_seq ?_
  refine ac_cond rfl (fun h1 => ?_) (fun h1 => ?_)
  · have hyk : y.1 < nf := by have := of_decide_eq_true h1; omega
    obtain ⟨b11, o11, hA1, hlt1, hget1⟩ := hF.2 (by omega)
    have hx1 := getD_get (l := zs) (d := ⟨0, 0, 0, 0⟩) (k := y.1) (by omega)
    have hfx := hfs _ (List.mem_of_getElem? hx1)
    refine ac_skip (aq_then (ac_seq (ac_block (ac_seq (ac_region ?_)))))
    refine al_p (q_indexAddrA (i := y.1) (o11 + y.1 * 4 + 0) hA1 rfl rfl rfl (by omega) Tryz.runUnderlying59 Tryz.sizeOf137 rfl) (al_p (q_loadXs (FaultD.cells (zs.getD y.1 ⟨0, 0, 0, 0⟩)) rfl Tryz.isAgg137 Tryz.sizeOf137 (fun w9 hs j9 v9 h9 => by rw [addr_add]; exact (hs.below.cell (p := ⟨_, _, none⟩) hlt1).trans ((hget1 y.1 _ hx1) j9 v9 h9)) rfl) (al_new (fun b => .pointer (some ⟨b, 0, none⟩)) (r_alloc Tryz.zeroValue137 rfl) rfl rfl rfl ?_))
    intro b1
    refine al_storeAll (i := 0) rfl rfl rfl rfl Tryz.sizeOf137 rfl rfl .k0 rfl (al_end (aq_then ?_))
    refine ac_seq (ac_region ?_)
    refine al_p (q_fieldAddr 1 rfl Tryz.runUnderlying137 rfl Tryz.sizeOf3 (by decide) rfl) (al_p (q_load (i := 0) rfl rfl rfl Tryz.isAgg3) (al_p (q_move rfl) (al_p (q_eql rfl rfl) (al_p (q_move rfl) ?_))))
    refine aq_split 21 rfl (fun hb1 => ?_) (fun hb1 => ?_)
    · have heq : (zs.getD y.1 ⟨0, 0, 0, 0⟩).sensor = k := of_decide_eq_true hb1
      refine al_p (q_fieldAddr 0 rfl Tryz.runUnderlying137 rfl Tryz.sizeOf3 (by decide) rfl) (al_p (q_load (i := 0) rfl rfl rfl Tryz.isAgg3) (al_p (q_move rfl) (al_p (q_leq rfl rfl) (al_p (q_pickT rfl rfl) ?_))))
      refine al_end (aq_then ?_)
      refine ac_cond rfl (fun h2 => ?_) (fun h2 => ?_)
      · have hat : (zs.getD y.1 ⟨0, 0, 0, 0⟩).at_ ≤ tk := of_decide_eq_true h2
        refine ac_draw 9 (by kernel_rfl) (by kernel_rfl) ?_
        refine ah_t 0 (fun w9 hs => hs) rfl rfl (by kernel_rfl) (q_fieldAddr 2 rfl Tryz.runUnderlying137 rfl Tryz.sizeOf3 (by decide) rfl) (ah_t 1 (fun w9 hs => hs) rfl rfl (by kernel_rfl) (q_load (i := 0) rfl rfl rfl Tryz.isAgg3) (ah_t 3 (fun w9 hs => hs) rfl rfl (by kernel_rfl) (q_move rfl) ?_))
        refine ah_t 4 (fun w9 hs => hs) rfl rfl (by kernel_rfl) (q_fieldAddr 3 rfl Tryz.runUnderlying137 rfl Tryz.sizeOf3 (by decide) rfl) (ah_t 5 (fun w9 hs => hs) rfl rfl (by kernel_rfl) (q_load (i := 0) rfl rfl rfl Tryz.isAgg3) (ah_one 2 rfl (by kernel_rfl) (fun hok1 hcl1 => ?_)))
        refine al_call Tryz.call81 (.cons rfl .nil) rfl rfl (fun w1 hs1 => ?_)
        refine (effect_any (zs.getD y.1 ⟨0, 0, 0, 0⟩).kind _ hfx.1).mono ?_
        rintro e u1 ⟨rfl, hb_1⟩
        refine ⟨_, rfl, hb_1, ?_⟩
        clear hs1
        refine al_end (ah_back hok1 hcl1 (fun w9 hs => (hs.fewer 1 rfl)) ?_)
        refine ah_one 6 rfl (by kernel_rfl) (fun hok2 hcl2 => ?_)
        refine al_callV (f := (effF (zs.getD y.1 ⟨0, 0, 0, 0⟩).kind)) (fi := []) (ca := []) rfl (effF_call _) (.cons rfl (.cons rfl .nil)) rfl rfl (fun w2 hs2 => ?_)
        refine (eff_any (zs.getD y.1 ⟨0, 0, 0, 0⟩).kind y.2 (zs.getD y.1 ⟨0, 0, 0, 0⟩).n _ hfx.1 hy0 hy1 hfx.2.1 hfx.2.2.1 hfx.2.2.2).mono ?_
        rintro e u2 ⟨rfl, hb_2⟩
        refine ⟨_, rfl, hb_2, ?_⟩
        clear hs2
        refine al_end (ah_back hok2 hcl2 (fun w9 hs => (hs.fewer 2 rfl)) ?_)
        refine ah_t 7 (fun w9 hs => (hs.fewer 2 rfl)) rfl rfl (by kernel_rfl) (q_min rfl rfl) (ah_t 8 (fun w9 hs => (hs.fewer 2 rfl)) rfl rfl (by kernel_rfl) (q_max rfl rfl) (ah_one 9 rfl (by kernel_rfl) (fun hok3 hcl3 => ?_)))
        refine al_p (q_assign rfl) (al_end (ah_last (by kernel_rfl) ?_))
        refine aq_inN (aq_then (ac_region ?_))
        refine al_p (q_add rfl rfl (by omega)) (al_p (q_move rfl) (al_end (aq_then ?_)))
        skip
        refine aq_round ((y.1 + 1, (max (-500000000000000) (min (effD (zs.getD y.1 ⟨0, 0, 0, 0⟩).kind y.2 (zs.getD y.1 ⟨0, 0, 0, 0⟩).n) 500000000000000)))) (by simp only; omega) ⟨by simp only; omega, by simp only; rw [hyg, faultGo_drop hx1]; first | rw [if_neg (fun h => hne h.1)] | rw [if_neg (fun h => hna h.2)] | (rw [if_pos ⟨heq, hat⟩]; rfl), by simp only; omega, by simp only; omega⟩ ⟨rfl, rfl, rfl, rfl, rfl, rfl, rfl, trivial⟩ (fun w9 hs => ((hs.fewer 2 rfl).tail 1 rfl))
      · have hna : ¬ (zs.getD y.1 ⟨0, 0, 0, 0⟩).at_ ≤ tk := of_decide_eq_false h2
        refine ac_skip (aq_inN (aq_then (ac_region ?_)))
        refine al_p (q_add rfl rfl (by omega)) (al_p (q_move rfl) (al_end (aq_then ?_)))
        skip
        refine aq_round ((y.1 + 1, y.2)) (by simp only; omega) ⟨by simp only; omega, by simp only; rw [hyg, faultGo_drop hx1]; first | rw [if_neg (fun h => hne h.1)] | rw [if_neg (fun h => hna h.2)] | (rw [if_pos ⟨heq, hat⟩]; rfl), by simp only; omega, by simp only; omega⟩ ⟨rfl, rfl, rfl, rfl, rfl, rfl, rfl, trivial⟩ (fun w9 hs => (hs.tail 1 rfl))
    · have hne : ¬ (zs.getD y.1 ⟨0, 0, 0, 0⟩).sensor = k := of_decide_eq_false hb1
      refine al_skip rfl rfl rfl (al_skip rfl rfl rfl (al_skip rfl rfl rfl (al_skip rfl rfl rfl (al_p (q_pickF rfl rfl) ?_))))
      refine al_end (aq_then ?_)
      refine ac_condF rfl (ac_skip (aq_inN (aq_then (ac_region ?_))))
      refine al_p (q_add rfl rfl (by omega)) (al_p (q_move rfl) (al_end (aq_then ?_)))
      skip
      refine aq_round ((y.1 + 1, y.2)) (by simp only; omega) ⟨by simp only; omega, by simp only; rw [hyg, faultGo_drop hx1]; first | rw [if_neg (fun h => hne h.1)] | rw [if_neg (fun h => hna h.2)] | (rw [if_pos ⟨heq, hat⟩]; rfl), by simp only; omega, by simp only; omega⟩ ⟨rfl, rfl, rfl, rfl, rfl, rfl, rfl, trivial⟩ (fun w9 hs => (hs.tail 1 rfl))
  · have hye : y.1 = nf := by have := of_decide_eq_false h1; omega
    refine ac_exit (aq_thenE (aq_thenE (aq_hit (aq_then ?_))))
    refine ac_seq (ac_region ?_)
    refine al_p (q_move rfl) (al_p (q_assign rfl) (al_end (aq_then ?_)))
    refine ac_ret (ret1 Tryz.results43 rfl (fun w9 hs => ?_))
    refine ⟨?_, hs.below⟩; rw [hyg, List.drop_eq_nil_of_le (by omega)]; rfl
end
end Go.Proofs.YthggkidiidnaoaaGreatDoor
