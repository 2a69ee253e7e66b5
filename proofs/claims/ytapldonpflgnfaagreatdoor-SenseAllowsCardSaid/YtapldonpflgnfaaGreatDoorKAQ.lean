import Derived.Test.YtapldonpflgnfaaGreatDoorKAJ
import Derived.Test.YtapldonpflgnfaaGreatDoorKAK
import Derived.Test.YtapldonpflgnfaaGreatDoorKAM
import Derived.Test.YtapldonpflgnfaaGreatDoorKAN
import Derived.Test.YtapldonpflgnfaaGreatDoorKAP
import Derived.Handy
import Derived.Outline
import Derived.Test.YtapldonpflgnfaaGreatDoorRows
import Derived.KernelRfl
import Derived.Laws.StructEq
namespace Go.Proofs.YtapldonpflgnfaaGreatDoor
set_option linter.unusedVariables false
set_option linter.unusedSimpArgs false
section
open Go.RowKit Go.Shelf
def fieldP (p : Int × Int) (S : List Src) : Int × Int := (fluxP (p.1, p.2 - 1) S - fluxP (p.1, p.2 + 1) S, fluxP (p.1 + 1, p.2) S - fluxP (p.1 - 1, p.2) S)
set_option maxRecDepth 100000 in
set_option maxHeartbeats 16000000 in
theorem fieldAt_any (R : MachR) (M : MachD) (Qr : CurR) (Cd : CurD) (p0 p1 : Int) (w : World) (hM : IsM w R M) (hC : IsC w Qr Cd) (hv : Fit2 M Cd) (g0 : -1000000 ≤ p0) (g1 : p0 ≤ 1000000) (g2 : -1000000 ≤ p1) (g3 : p1 ≤ 1000000) :
    Calls Tryz.prog 103 #[.agg (machCells R M), Qr.v, .agg #[.int .i64 p0, .int .i64 p1]] w (Ret (.tuple #[.int .i64 (fieldP (p0, p1) (srcM M Cd)).1, .int .i64 (fieldP (p0, p1) (srcM M Cd)).2]) w) := by
  have HF := Lib.hid (fun a b W (hb : Below w.heap.size w W) => fluxAt_any R M Qr Cd a b W (hM.below hb) (hC.below hb) hv)
  have HB := Lib.hid (fun p => (small_of hv).bd p)
  unfold fieldP
  dsimp only
  clear hM hC hv
  generalize srcM M Cd = S at *
  obtain ⟨A, B, Cl, D, la, ca, lb, cb, lc, cl, ld, cd⟩ := R
  obtain ⟨name, coils, shells, limits, ⟨r, z, nr, nz, step⟩, sensors⟩ := M
  obtain ⟨A1, B1, C1, na, qa, nb, qb, nc, qc⟩ := Qr
  have b1 := HB.out (p0, p1 - 1)
  have b2 := HB.out (p0, p1 + 1)
  have b3 := HB.out (p0 + 1, p1)
  have b4 := HB.out (p0 - 1, p1)
  have H1 := Lib.hid (show ∀ W, Below w.heap.size w W → Calls Tryz.prog 102 #[.agg #[.string name, .slice A la ca, .slice B lb cb, .slice Cl lc cl, .int .i64 r, .int .i64 z, .int .i64 nr, .int .i64 nz, .int .i64 step, .slice D ld cd], .agg #[.slice A1 na qa, .slice B1 nb qb, .slice C1 nc qc], .agg #[.int .i64 p0, .int .i64 (p1 - 1)]] W (Ret (.int .i64 (fluxP (p0, p1 - 1) S)) W) from fun W hb => HF.out _ _ W hb)
  have H2 := Lib.hid (show ∀ W, Below w.heap.size w W → Calls Tryz.prog 102 #[.agg #[.string name, .slice A la ca, .slice B lb cb, .slice Cl lc cl, .int .i64 r, .int .i64 z, .int .i64 nr, .int .i64 nz, .int .i64 step, .slice D ld cd], .agg #[.slice A1 na qa, .slice B1 nb qb, .slice C1 nc qc], .agg #[.int .i64 p0, .int .i64 (p1 + 1)]] W (Ret (.int .i64 (fluxP (p0, p1 + 1) S)) W) from fun W hb => HF.out _ _ W hb)
  have H3 := Lib.hid (show ∀ W, Below w.heap.size w W → Calls Tryz.prog 102 #[.agg #[.string name, .slice A la ca, .slice B lb cb, .slice Cl lc cl, .int .i64 r, .int .i64 z, .int .i64 nr, .int .i64 nz, .int .i64 step, .slice D ld cd], .agg #[.slice A1 na qa, .slice B1 nb qb, .slice C1 nc qc], .agg #[.int .i64 (p0 + 1), .int .i64 p1]] W (Ret (.int .i64 (fluxP (p0 + 1, p1) S)) W) from fun W hb => HF.out _ _ W hb)
  have H4 := Lib.hid (show ∀ W, Below w.heap.size w W → Calls Tryz.prog 102 #[.agg #[.string name, .slice A la ca, .slice B lb cb, .slice Cl lc cl, .int .i64 r, .int .i64 z, .int .i64 nr, .int .i64 nz, .int .i64 step, .slice D ld cd], .agg #[.slice A1 na qa, .slice B1 nb qb, .slice C1 nc qc], .agg #[.int .i64 (p0 - 1), .int .i64 p1]] W (Ret (.int .i64 (fluxP (p0 - 1, p1) S)) W) from fun W hb => HF.out _ _ W hb)
  generalize fluxP (p0, p1 - 1) S = f1 at *
  generalize fluxP (p0, p1 + 1) S = f2 at *
  generalize fluxP (p0 + 1, p1) S = f3 at *
  generalize fluxP (p0 - 1, p1) S = f4 at *
  clear HF HB
  show Calls Tryz.prog 103 #[.agg #[.string name, .slice A la ca, .slice B lb cb, .slice Cl lc cl, .int .i64 r, .int .i64 z, .int .i64 nr, .int .i64 nz, .int .i64 step, .slice D ld cd], .agg #[.slice A1 na qa, .slice B1 nb qb, .slice C1 nc qc], .agg #[.int .i64 p0, .int .i64 p1]] w _
  go_enter Tryz.func103, Tryz.ntmps103
  go_upto_region 1 with (fail)
  have m0 : (((w.alloc (.cells #[.string name, .slice A la ca, .slice B lb cb, .slice Cl lc cl, .int .i64 r, .int .i64 z, .int .i64 nr, .int .i64 nz, .int .i64 step, .slice D ld cd] 29)).alloc (.cells #[.slice A1 na qa, .slice B1 nb qb, .slice C1 nc qc] 32)).alloc (.cells #[.int .i64 p0, .int .i64 p1] 79)).cell? ⟨w.heap.size, 0, none⟩ = some (.string name) := by go_simp
  have m1 : (((w.alloc (.cells #[.string name, .slice A la ca, .slice B lb cb, .slice Cl lc cl, .int .i64 r, .int .i64 z, .int .i64 nr, .int .i64 nz, .int .i64 step, .slice D ld cd] 29)).alloc (.cells #[.slice A1 na qa, .slice B1 nb qb, .slice C1 nc qc] 32)).alloc (.cells #[.int .i64 p0, .int .i64 p1] 79)).cell? ⟨w.heap.size, 1, none⟩ = some (.slice A la ca) := by go_simp
  have m2 : (((w.alloc (.cells #[.string name, .slice A la ca, .slice B lb cb, .slice Cl lc cl, .int .i64 r, .int .i64 z, .int .i64 nr, .int .i64 nz, .int .i64 step, .slice D ld cd] 29)).alloc (.cells #[.slice A1 na qa, .slice B1 nb qb, .slice C1 nc qc] 32)).alloc (.cells #[.int .i64 p0, .int .i64 p1] 79)).cell? ⟨w.heap.size, 2, none⟩ = some (.slice B lb cb) := by go_simp
  have m3 : (((w.alloc (.cells #[.string name, .slice A la ca, .slice B lb cb, .slice Cl lc cl, .int .i64 r, .int .i64 z, .int .i64 nr, .int .i64 nz, .int .i64 step, .slice D ld cd] 29)).alloc (.cells #[.slice A1 na qa, .slice B1 nb qb, .slice C1 nc qc] 32)).alloc (.cells #[.int .i64 p0, .int .i64 p1] 79)).cell? ⟨w.heap.size, 3, none⟩ = some (.slice Cl lc cl) := by go_simp
  have m4 : (((w.alloc (.cells #[.string name, .slice A la ca, .slice B lb cb, .slice Cl lc cl, .int .i64 r, .int .i64 z, .int .i64 nr, .int .i64 nz, .int .i64 step, .slice D ld cd] 29)).alloc (.cells #[.slice A1 na qa, .slice B1 nb qb, .slice C1 nc qc] 32)).alloc (.cells #[.int .i64 p0, .int .i64 p1] 79)).cell? ⟨w.heap.size, 4, none⟩ = some (.int .i64 r) := by go_simp
  have m5 : (((w.alloc (.cells #[.string name, .slice A la ca, .slice B lb cb, .slice Cl lc cl, .int .i64 r, .int .i64 z, .int .i64 nr, .int .i64 nz, .int .i64 step, .slice D ld cd] 29)).alloc (.cells #[.slice A1 na qa, .slice B1 nb qb, .slice C1 nc qc] 32)).alloc (.cells #[.int .i64 p0, .int .i64 p1] 79)).cell? ⟨w.heap.size, 5, none⟩ = some (.int .i64 z) := by go_simp
  have m6 : (((w.alloc (.cells #[.string name, .slice A la ca, .slice B lb cb, .slice Cl lc cl, .int .i64 r, .int .i64 z, .int .i64 nr, .int .i64 nz, .int .i64 step, .slice D ld cd] 29)).alloc (.cells #[.slice A1 na qa, .slice B1 nb qb, .slice C1 nc qc] 32)).alloc (.cells #[.int .i64 p0, .int .i64 p1] 79)).cell? ⟨w.heap.size, 6, none⟩ = some (.int .i64 nr) := by go_simp
  have m7 : (((w.alloc (.cells #[.string name, .slice A la ca, .slice B lb cb, .slice Cl lc cl, .int .i64 r, .int .i64 z, .int .i64 nr, .int .i64 nz, .int .i64 step, .slice D ld cd] 29)).alloc (.cells #[.slice A1 na qa, .slice B1 nb qb, .slice C1 nc qc] 32)).alloc (.cells #[.int .i64 p0, .int .i64 p1] 79)).cell? ⟨w.heap.size, 7, none⟩ = some (.int .i64 nz) := by go_simp
  have m8 : (((w.alloc (.cells #[.string name, .slice A la ca, .slice B lb cb, .slice Cl lc cl, .int .i64 r, .int .i64 z, .int .i64 nr, .int .i64 nz, .int .i64 step, .slice D ld cd] 29)).alloc (.cells #[.slice A1 na qa, .slice B1 nb qb, .slice C1 nc qc] 32)).alloc (.cells #[.int .i64 p0, .int .i64 p1] 79)).cell? ⟨w.heap.size, 8, none⟩ = some (.int .i64 step) := by go_simp
  have m9 : (((w.alloc (.cells #[.string name, .slice A la ca, .slice B lb cb, .slice Cl lc cl, .int .i64 r, .int .i64 z, .int .i64 nr, .int .i64 nz, .int .i64 step, .slice D ld cd] 29)).alloc (.cells #[.slice A1 na qa, .slice B1 nb qb, .slice C1 nc qc] 32)).alloc (.cells #[.int .i64 p0, .int .i64 p1] 79)).cell? ⟨w.heap.size, 9, none⟩ = some (.slice D ld cd) := by go_simp
  have c0 : (((w.alloc (.cells #[.string name, .slice A la ca, .slice B lb cb, .slice Cl lc cl, .int .i64 r, .int .i64 z, .int .i64 nr, .int .i64 nz, .int .i64 step, .slice D ld cd] 29)).alloc (.cells #[.slice A1 na qa, .slice B1 nb qb, .slice C1 nc qc] 32)).alloc (.cells #[.int .i64 p0, .int .i64 p1] 79)).cell? ⟨w.heap.size + 1, 0, none⟩ = some (.slice A1 na qa) := by go_simp
  have c1 : (((w.alloc (.cells #[.string name, .slice A la ca, .slice B lb cb, .slice Cl lc cl, .int .i64 r, .int .i64 z, .int .i64 nr, .int .i64 nz, .int .i64 step, .slice D ld cd] 29)).alloc (.cells #[.slice A1 na qa, .slice B1 nb qb, .slice C1 nc qc] 32)).alloc (.cells #[.int .i64 p0, .int .i64 p1] 79)).cell? ⟨w.heap.size + 1, 1, none⟩ = some (.slice B1 nb qb) := by go_simp
  have c2 : (((w.alloc (.cells #[.string name, .slice A la ca, .slice B lb cb, .slice Cl lc cl, .int .i64 r, .int .i64 z, .int .i64 nr, .int .i64 nz, .int .i64 step, .slice D ld cd] 29)).alloc (.cells #[.slice A1 na qa, .slice B1 nb qb, .slice C1 nc qc] 32)).alloc (.cells #[.int .i64 p0, .int .i64 p1] 79)).cell? ⟨w.heap.size + 1, 2, none⟩ = some (.slice C1 nc qc) := by go_simp
  have p0c : (((w.alloc (.cells #[.string name, .slice A la ca, .slice B lb cb, .slice Cl lc cl, .int .i64 r, .int .i64 z, .int .i64 nr, .int .i64 nz, .int .i64 step, .slice D ld cd] 29)).alloc (.cells #[.slice A1 na qa, .slice B1 nb qb, .slice C1 nc qc] 32)).alloc (.cells #[.int .i64 p0, .int .i64 p1] 79)).cell? ⟨w.heap.size + 1 + 1, 0, none⟩ = some (.int .i64 p0) := by go_simp
  have p1c : (((w.alloc (.cells #[.string name, .slice A la ca, .slice B lb cb, .slice Cl lc cl, .int .i64 r, .int .i64 z, .int .i64 nr, .int .i64 nz, .int .i64 step, .slice D ld cd] 29)).alloc (.cells #[.slice A1 na qa, .slice B1 nb qb, .slice C1 nc qc] 32)).alloc (.cells #[.int .i64 p0, .int .i64 p1] 79)).cell? ⟨w.heap.size + 1 + 1, 1, none⟩ = some (.int .i64 p1) := by go_simp
  have hz : w.heap.size + 1 + 1 < (((w.alloc (.cells #[.string name, .slice A la ca, .slice B lb cb, .slice Cl lc cl, .int .i64 r, .int .i64 z, .int .i64 nr, .int .i64 nz, .int .i64 step, .slice D ld cd] 29)).alloc (.cells #[.slice A1 na qa, .slice B1 nb qb, .slice C1 nc qc] 32)).alloc (.cells #[.int .i64 p0, .int .i64 p1] 79)).heap.size := by simp
  have hB : Below w.heap.size w (((w.alloc (.cells #[.string name, .slice A la ca, .slice B lb cb, .slice Cl lc cl, .int .i64 r, .int .i64 z, .int .i64 nr, .int .i64 nz, .int .i64 step, .slice D ld cd] 29)).alloc (.cells #[.slice A1 na qa, .slice B1 nb qb, .slice C1 nc qc] 32)).alloc (.cells #[.int .i64 p0, .int .i64 p1] 79)) := by (repeat first | with_reducible exact Below.refl _ _ | (with_reducible refine Below.alloc ?_ ?_ _; rotate_left; exact (by first | omega | (simp; done) | (simp; omega))))
  obtain ⟨W0, hW0⟩ : ∃ W, ((w.alloc (.cells #[.string name, .slice A la ca, .slice B lb cb, .slice Cl lc cl, .int .i64 r, .int .i64 z, .int .i64 nr, .int .i64 nz, .int .i64 step, .slice D ld cd] 29)).alloc (.cells #[.slice A1 na qa, .slice B1 nb qb, .slice C1 nc qc] 32)).alloc (.cells #[.int .i64 p0, .int .i64 p1] 79) = W := ⟨_, rfl⟩
  rw [hW0] at hz hB m0 m1 m2 m3 m4 m5 m6 m7 m8 m9 c0 c1 c2 p0c p1c ⊢
  clear hW0
  have FM := Lib.hid (BoxL.mk10 (W := W0) (by omega) m0 m1 m2 m3 m4 m5 m6 m7 m8 m9)
  have FC := Lib.hid (BoxL.mk3 (W := W0) (by omega) c0 c1 c2)
  have FP := Lib.hid (BoxL.mk2 (W := W0) hz p0c p1c)
  have HZ := Lib.hid hz
  clear m0 m1 m2 m3 m4 m5 m6 m7 m8 m9 c0 c1 c2
  go_cut [8, 9] (fun s t wx => ∃ y x : Nat, s = .pointer (some ⟨y, 0, none⟩) ∧ t = .pointer (some ⟨x, 0, none⟩) ∧ wx.cell? ⟨y, 0, none⟩ = some (.int .i64 (p0)) ∧ wx.cell? ⟨y, 1, none⟩ = some (.int .i64 (p1 - 1)) ∧ wx.cell? ⟨x, 0, none⟩ = some (.int .i64 (p0)) ∧ wx.cell? ⟨x, 1, none⟩ = some (.int .i64 (p1 + 1)) ∧ y < wx.heap.size ∧ x < wx.heap.size ∧ W0.heap.size ≤ y ∧ W0.heap.size ≤ x ∧ Below W0.heap.size W0 wx)
  case first =>
    have v0 : IntKind.i64.wrap (p1 - 1) = p1 - 1 := IntWalk.i64_in _ (by omega)
    have v1 : IntKind.i64.wrap (p1 + 1) = p1 + 1 := IntWalk.i64_in _ (by omega)
    have HS : Hid (∀ w' : World, Reg (W0.heap.size) (W0) w' → (Reg (W0.heap.size) (W0) w' ∧ w'.cell? ⟨w.heap.size + 1 + 1, 0, none⟩ = some (.int .i64 p0) ∧ w'.cell? ⟨w.heap.size + 1 + 1, 1, none⟩ = some (.int .i64 p1))) := (fun w' h => by (have hc := h.cells; have hs := h.some; have hf := h.frozen; refine ⟨h, ?_⟩; (try simp only [World.size_alloc, World.size_setCell, size_drew, size_drewN] at hc hs hf); first | (simp (disch := omega) only [hc, hs, hf, cur_iff]; (try go_simp); done) | (simp (disch := first | omega | (simp; done)) only [hc, hs, hf, cur_iff]; (try go_simp); done) | (simp (maxDischargeDepth := 4) [hc, hs, hf, cur_iff, go_sem]; done) | (go_simp; done) | (simp (maxDischargeDepth := 4) [hc, hs, hf, cur_iff, go_sem]; go_simp))); go_region_held3 (fun w' => Reg (W0.heap.size) (W0) w' ∧ w'.cell? ⟨w.heap.size + 1 + 1, 0, none⟩ = some (.int .i64 p0) ∧ w'.cell? ⟨w.heap.size + 1 + 1, 1, none⟩ = some (.int .i64 p1)) (exact HS.out _ (by (repeat first | with_reducible exact Reg.refl _ _ | with_reducible refine Reg.alloc ?_ _ | with_reducible refine Reg.drew ?_))) (first | fail)
    all_goals go_wp2_with fail
    all_goals go_meet
    all_goals exact ⟨_, _, rfl, rfl, by go_simp, by go_simp, by go_simp, by go_simp, (by ((try simp only [World.size_alloc, World.size_setCell, size_drew, size_drewN]); omega)), (by ((try simp only [World.size_alloc, World.size_setCell, size_drew, size_drewN]); omega)), (by omega), (by omega), by (repeat first | with_reducible exact Below.refl _ _ | (with_reducible refine Below.alloc ?_ ?_ _; rotate_left; exact (by first | omega | (simp; done))) | with_reducible refine Below.drew ?_)⟩
  case rest =>
    obtain ⟨y8, y9, rfl, rfl, a0, a1, d0, d1, h8, h9, l8, l9, hb⟩ := hcut
    obtain ⟨W1, hW1⟩ : ∃ x, x = wc := ⟨_, rfl⟩
    subst hW1
    have hz1 := Nat.lt_of_lt_of_le HZ.out hb.size
    have p0d := (FP.out.below hb).at 0 (.int .i64 p0) rfl
    have p1d := (FP.out.below hb).at 1 (.int .i64 p1) rfl
    have hB1 := hB.trans (hb.mono hB.size)
    have E8 := Lib.hid (BoxL.mk2 h8 a0 a1)
    have E9 := Lib.hid (BoxL.mk2 h9 d0 d1)
    have HB1 := Lib.hid hb
    clear hb p0c p1c a0 a1 d0 d1 h8 h9 l8 l9 hz hB
    go_wp2_with fail
    go_cut [10, 11] (fun s t wx => ∃ y x : Nat, s = .pointer (some ⟨y, 0, none⟩) ∧ t = .pointer (some ⟨x, 0, none⟩) ∧ wx.cell? ⟨y, 0, none⟩ = some (.int .i64 (p0 - 1)) ∧ wx.cell? ⟨y, 1, none⟩ = some (.int .i64 (p1)) ∧ wx.cell? ⟨x, 0, none⟩ = some (.int .i64 (p0 + 1)) ∧ wx.cell? ⟨x, 1, none⟩ = some (.int .i64 (p1)) ∧ y < wx.heap.size ∧ x < wx.heap.size ∧ W1.heap.size ≤ y ∧ W1.heap.size ≤ x ∧ Below W1.heap.size W1 wx)
    case first =>
      have v0 : IntKind.i64.wrap (p0 - 1) = p0 - 1 := IntWalk.i64_in _ (by omega)
      have v1 : IntKind.i64.wrap (p0 + 1) = p0 + 1 := IntWalk.i64_in _ (by omega)
      have HS : Hid (∀ w' : World, Reg (W1.heap.size) (W1) w' → (Reg (W1.heap.size) (W1) w' ∧ w'.cell? ⟨w.heap.size + 1 + 1, 0, none⟩ = some (.int .i64 p0) ∧ w'.cell? ⟨w.heap.size + 1 + 1, 1, none⟩ = some (.int .i64 p1))) := (fun w' h => by (have hc := h.cells; have hs := h.some; have hf := h.frozen; refine ⟨h, ?_⟩; (try simp only [World.size_alloc, World.size_setCell, size_drew, size_drewN] at hc hs hf); first | (simp (disch := omega) only [hc, hs, hf, cur_iff]; (try go_simp); done) | (simp (disch := first | omega | (simp; done)) only [hc, hs, hf, cur_iff]; (try go_simp); done) | (simp (maxDischargeDepth := 4) [hc, hs, hf, cur_iff, go_sem]; done) | (go_simp; done) | (simp (maxDischargeDepth := 4) [hc, hs, hf, cur_iff, go_sem]; go_simp))); go_region_held3 (fun w' => Reg (W1.heap.size) (W1) w' ∧ w'.cell? ⟨w.heap.size + 1 + 1, 0, none⟩ = some (.int .i64 p0) ∧ w'.cell? ⟨w.heap.size + 1 + 1, 1, none⟩ = some (.int .i64 p1)) (exact HS.out _ (by (repeat first | with_reducible exact Reg.refl _ _ | with_reducible refine Reg.alloc ?_ _ | with_reducible refine Reg.drew ?_))) (first | fail)
      all_goals go_wp2_with fail
      all_goals go_meet
      all_goals exact ⟨_, _, rfl, rfl, by go_simp, by go_simp, by go_simp, by go_simp, (by ((try simp only [World.size_alloc, World.size_setCell, size_drew, size_drewN]); omega)), (by ((try simp only [World.size_alloc, World.size_setCell, size_drew, size_drewN]); omega)), (by omega), (by omega), by (repeat first | with_reducible exact Below.refl _ _ | (with_reducible refine Below.alloc ?_ ?_ _; rotate_left; exact (by first | omega | (simp; done))) | with_reducible refine Below.drew ?_)⟩
    case rest =>
      obtain ⟨y10, y11, rfl, rfl, a0, a1, d0, d1, h10, h11, l10, l11, hb⟩ := hcut
      have hbb := HB1.out.trans (hb.mono HB1.out.size)
      have m0 := (FM.out.below hbb).at 0 (.string name) rfl
      have m1 := (FM.out.below hbb).at 1 (.slice A la ca) rfl
      have m2 := (FM.out.below hbb).at 2 (.slice B lb cb) rfl
      have m3 := (FM.out.below hbb).at 3 (.slice Cl lc cl) rfl
      have m4 := (FM.out.below hbb).at 4 (.int .i64 r) rfl
      have m5 := (FM.out.below hbb).at 5 (.int .i64 z) rfl
      have m6 := (FM.out.below hbb).at 6 (.int .i64 nr) rfl
      have m7 := (FM.out.below hbb).at 7 (.int .i64 nz) rfl
      have m8 := (FM.out.below hbb).at 8 (.int .i64 step) rfl
      have m9 := (FM.out.below hbb).at 9 (.slice D ld cd) rfl
      have c0 := (FC.out.below hbb).at 0 (.slice A1 na qa) rfl
      have c1 := (FC.out.below hbb).at 1 (.slice B1 nb qb) rfl
      have c2 := (FC.out.below hbb).at 2 (.slice C1 nc qc) rfl
      have e0 := (E8.out.below hb).at 0 (.int .i64 p0) rfl
      have e1 := (E8.out.below hb).at 1 (.int .i64 (p1 - 1)) rfl
      have e2 := (E9.out.below hb).at 0 (.int .i64 p0) rfl
      have e3 := (E9.out.below hb).at 1 (.int .i64 (p1 + 1)) rfl
      have k8 := (E8.out.below hb).1
      have k9 := (E9.out.below hb).1
      have hz2 := Nat.lt_of_lt_of_le hz1 hb.size
      have hz3 : w.heap.size < wc.heap.size := by omega
      have hz4 : w.heap.size + 1 < wc.heap.size := by omega
      have hB2 := hB1.trans (hb.mono hB1.size)
      clear hb hbb p0d p1d E8 E9 HB1 FM FC FP HZ hz1 hB1 l10 l11
      have v0 : IntKind.i64.wrap (f1 - f2) = f1 - f2 := IntWalk.i64_in _ (by omega)
      have v1 : IntKind.i64.wrap (f3 - f4) = f3 - f4 := IntWalk.i64_in _ (by omega)
      go_wp2_with fail
      have HS : Hid (∀ w' : World, Reg (wc.heap.size) (wc) w' → (Reg (wc.heap.size) (wc) w' ∧ w'.cell? ⟨w.heap.size, 0, none⟩ = some (.string name) ∧ w'.cell? ⟨w.heap.size, 1, none⟩ = some (.slice A la ca) ∧ w'.cell? ⟨w.heap.size, 2, none⟩ = some (.slice B lb cb) ∧ w'.cell? ⟨w.heap.size, 3, none⟩ = some (.slice Cl lc cl) ∧ w'.cell? ⟨w.heap.size, 4, none⟩ = some (.int .i64 r) ∧ w'.cell? ⟨w.heap.size, 5, none⟩ = some (.int .i64 z) ∧ w'.cell? ⟨w.heap.size, 6, none⟩ = some (.int .i64 nr) ∧ w'.cell? ⟨w.heap.size, 7, none⟩ = some (.int .i64 nz) ∧ w'.cell? ⟨w.heap.size, 8, none⟩ = some (.int .i64 step) ∧ w'.cell? ⟨w.heap.size, 9, none⟩ = some (.slice D ld cd) ∧ w'.cell? ⟨w.heap.size + 1, 0, none⟩ = some (.slice A1 na qa) ∧ w'.cell? ⟨w.heap.size + 1, 1, none⟩ = some (.slice B1 nb qb) ∧ w'.cell? ⟨w.heap.size + 1, 2, none⟩ = some (.slice C1 nc qc) ∧ w'.cell? ⟨y8, 0, none⟩ = some (.int .i64 p0) ∧ w'.cell? ⟨y8, 1, none⟩ = some (.int .i64 (p1 - 1)) ∧ w'.cell? ⟨y9, 0, none⟩ = some (.int .i64 p0) ∧ w'.cell? ⟨y9, 1, none⟩ = some (.int .i64 (p1 + 1)) ∧ w'.cell? ⟨y10, 0, none⟩ = some (.int .i64 (p0 - 1)) ∧ w'.cell? ⟨y10, 1, none⟩ = some (.int .i64 p1) ∧ w'.cell? ⟨y11, 0, none⟩ = some (.int .i64 (p0 + 1)) ∧ w'.cell? ⟨y11, 1, none⟩ = some (.int .i64 p1))) := (fun w' h => by (have hc := h.cells; have hs := h.some; have hf := h.frozen; refine ⟨h, ?_⟩; (try simp only [World.size_alloc, World.size_setCell, size_drew, size_drewN] at hc hs hf); first | (simp (disch := omega) only [hc, hs, hf, cur_iff]; (try go_simp); done) | (simp (disch := first | omega | (simp; done)) only [hc, hs, hf, cur_iff]; (try go_simp); done) | (simp (maxDischargeDepth := 4) [hc, hs, hf, cur_iff, go_sem]; done) | (go_simp; done) | (simp (maxDischargeDepth := 4) [hc, hs, hf, cur_iff, go_sem]; go_simp))); go_region_held3 (fun w' => Reg (wc.heap.size) (wc) w' ∧ w'.cell? ⟨w.heap.size, 0, none⟩ = some (.string name) ∧ w'.cell? ⟨w.heap.size, 1, none⟩ = some (.slice A la ca) ∧ w'.cell? ⟨w.heap.size, 2, none⟩ = some (.slice B lb cb) ∧ w'.cell? ⟨w.heap.size, 3, none⟩ = some (.slice Cl lc cl) ∧ w'.cell? ⟨w.heap.size, 4, none⟩ = some (.int .i64 r) ∧ w'.cell? ⟨w.heap.size, 5, none⟩ = some (.int .i64 z) ∧ w'.cell? ⟨w.heap.size, 6, none⟩ = some (.int .i64 nr) ∧ w'.cell? ⟨w.heap.size, 7, none⟩ = some (.int .i64 nz) ∧ w'.cell? ⟨w.heap.size, 8, none⟩ = some (.int .i64 step) ∧ w'.cell? ⟨w.heap.size, 9, none⟩ = some (.slice D ld cd) ∧ w'.cell? ⟨w.heap.size + 1, 0, none⟩ = some (.slice A1 na qa) ∧ w'.cell? ⟨w.heap.size + 1, 1, none⟩ = some (.slice B1 nb qb) ∧ w'.cell? ⟨w.heap.size + 1, 2, none⟩ = some (.slice C1 nc qc) ∧ w'.cell? ⟨y8, 0, none⟩ = some (.int .i64 p0) ∧ w'.cell? ⟨y8, 1, none⟩ = some (.int .i64 (p1 - 1)) ∧ w'.cell? ⟨y9, 0, none⟩ = some (.int .i64 p0) ∧ w'.cell? ⟨y9, 1, none⟩ = some (.int .i64 (p1 + 1)) ∧ w'.cell? ⟨y10, 0, none⟩ = some (.int .i64 (p0 - 1)) ∧ w'.cell? ⟨y10, 1, none⟩ = some (.int .i64 p1) ∧ w'.cell? ⟨y11, 0, none⟩ = some (.int .i64 (p0 + 1)) ∧ w'.cell? ⟨y11, 1, none⟩ = some (.int .i64 p1)) (exact HS.out _ (by (repeat first | with_reducible exact Reg.refl _ _ | with_reducible exact (‹Reg _ _ _ ∧ _›).1 | with_reducible refine Reg.drew ?_ | (with_reducible apply Reg.call; rotate_left; with_reducible assumption)))) (first | (go_at_call 102; (with_reducible refine (H1.out _ (Reg.out (‹Reg _ _ _ ∧ _›).1 (by (repeat with_reducible assumption)) (by omega))).mono ?_); rintro e w9 ⟨rfl, hb⟩; (skip); (try simp only [World.size_alloc, World.size_setCell, size_drew, size_drewN] at hk); obtain ⟨hc, hf⟩ := bcell hb; have hs := hb.size; (try simp only [World.size_alloc, World.size_setCell, size_drew, size_drewN] at hs)) | (go_at_call 102; (with_reducible refine (H2.out _ (Reg.out (‹Reg _ _ _ ∧ _›).1 (by (repeat with_reducible assumption)) (by omega))).mono ?_); rintro e w9 ⟨rfl, hb⟩; (skip); (try simp only [World.size_alloc, World.size_setCell, size_drew, size_drewN] at hk); obtain ⟨hc, hf⟩ := bcell hb; have hs := hb.size; (try simp only [World.size_alloc, World.size_setCell, size_drew, size_drewN] at hs)))
      all_goals go_wp2_with fail
      all_goals (have HS : Hid (∀ w' : World, Reg (wc.heap.size) (wc) w' → (Reg (wc.heap.size) (wc) w' ∧ w'.cell? ⟨w.heap.size, 0, none⟩ = some (.string name) ∧ w'.cell? ⟨w.heap.size, 1, none⟩ = some (.slice A la ca) ∧ w'.cell? ⟨w.heap.size, 2, none⟩ = some (.slice B lb cb) ∧ w'.cell? ⟨w.heap.size, 3, none⟩ = some (.slice Cl lc cl) ∧ w'.cell? ⟨w.heap.size, 4, none⟩ = some (.int .i64 r) ∧ w'.cell? ⟨w.heap.size, 5, none⟩ = some (.int .i64 z) ∧ w'.cell? ⟨w.heap.size, 6, none⟩ = some (.int .i64 nr) ∧ w'.cell? ⟨w.heap.size, 7, none⟩ = some (.int .i64 nz) ∧ w'.cell? ⟨w.heap.size, 8, none⟩ = some (.int .i64 step) ∧ w'.cell? ⟨w.heap.size, 9, none⟩ = some (.slice D ld cd) ∧ w'.cell? ⟨w.heap.size + 1, 0, none⟩ = some (.slice A1 na qa) ∧ w'.cell? ⟨w.heap.size + 1, 1, none⟩ = some (.slice B1 nb qb) ∧ w'.cell? ⟨w.heap.size + 1, 2, none⟩ = some (.slice C1 nc qc) ∧ w'.cell? ⟨y8, 0, none⟩ = some (.int .i64 p0) ∧ w'.cell? ⟨y8, 1, none⟩ = some (.int .i64 (p1 - 1)) ∧ w'.cell? ⟨y9, 0, none⟩ = some (.int .i64 p0) ∧ w'.cell? ⟨y9, 1, none⟩ = some (.int .i64 (p1 + 1)) ∧ w'.cell? ⟨y10, 0, none⟩ = some (.int .i64 (p0 - 1)) ∧ w'.cell? ⟨y10, 1, none⟩ = some (.int .i64 p1) ∧ w'.cell? ⟨y11, 0, none⟩ = some (.int .i64 (p0 + 1)) ∧ w'.cell? ⟨y11, 1, none⟩ = some (.int .i64 p1))) := (fun w' h => by (have hc := h.cells; have hs := h.some; have hf := h.frozen; refine ⟨h, ?_⟩; (try simp only [World.size_alloc, World.size_setCell, size_drew, size_drewN] at hc hs hf); first | (simp (disch := omega) only [hc, hs, hf, cur_iff]; (try go_simp); done) | (simp (disch := first | omega | (simp; done)) only [hc, hs, hf, cur_iff]; (try go_simp); done) | (simp (maxDischargeDepth := 4) [hc, hs, hf, cur_iff, go_sem]; done) | (go_simp; done) | (simp (maxDischargeDepth := 4) [hc, hs, hf, cur_iff, go_sem]; go_simp))); go_region_held3 (fun w' => Reg (wc.heap.size) (wc) w' ∧ w'.cell? ⟨w.heap.size, 0, none⟩ = some (.string name) ∧ w'.cell? ⟨w.heap.size, 1, none⟩ = some (.slice A la ca) ∧ w'.cell? ⟨w.heap.size, 2, none⟩ = some (.slice B lb cb) ∧ w'.cell? ⟨w.heap.size, 3, none⟩ = some (.slice Cl lc cl) ∧ w'.cell? ⟨w.heap.size, 4, none⟩ = some (.int .i64 r) ∧ w'.cell? ⟨w.heap.size, 5, none⟩ = some (.int .i64 z) ∧ w'.cell? ⟨w.heap.size, 6, none⟩ = some (.int .i64 nr) ∧ w'.cell? ⟨w.heap.size, 7, none⟩ = some (.int .i64 nz) ∧ w'.cell? ⟨w.heap.size, 8, none⟩ = some (.int .i64 step) ∧ w'.cell? ⟨w.heap.size, 9, none⟩ = some (.slice D ld cd) ∧ w'.cell? ⟨w.heap.size + 1, 0, none⟩ = some (.slice A1 na qa) ∧ w'.cell? ⟨w.heap.size + 1, 1, none⟩ = some (.slice B1 nb qb) ∧ w'.cell? ⟨w.heap.size + 1, 2, none⟩ = some (.slice C1 nc qc) ∧ w'.cell? ⟨y8, 0, none⟩ = some (.int .i64 p0) ∧ w'.cell? ⟨y8, 1, none⟩ = some (.int .i64 (p1 - 1)) ∧ w'.cell? ⟨y9, 0, none⟩ = some (.int .i64 p0) ∧ w'.cell? ⟨y9, 1, none⟩ = some (.int .i64 (p1 + 1)) ∧ w'.cell? ⟨y10, 0, none⟩ = some (.int .i64 (p0 - 1)) ∧ w'.cell? ⟨y10, 1, none⟩ = some (.int .i64 p1) ∧ w'.cell? ⟨y11, 0, none⟩ = some (.int .i64 (p0 + 1)) ∧ w'.cell? ⟨y11, 1, none⟩ = some (.int .i64 p1)) (exact HS.out _ (by (repeat first | with_reducible exact (‹Reg _ _ _ ∧ _›).1 | with_reducible refine Reg.drew ?_ | (with_reducible apply Reg.call; rotate_left; with_reducible assumption)))) (first | (go_at_call 102; (with_reducible refine (H3.out _ (Reg.out (‹Reg _ _ _ ∧ _›).1 (by (repeat with_reducible assumption)) (by omega))).mono ?_); rintro e w9 ⟨rfl, hb⟩; (skip); (try simp only [World.size_alloc, World.size_setCell, size_drew, size_drewN] at hk); obtain ⟨hc, hf⟩ := bcell hb; have hs := hb.size; (try simp only [World.size_alloc, World.size_setCell, size_drew, size_drewN] at hs)) | (go_at_call 102; (with_reducible refine (H4.out _ (Reg.out (‹Reg _ _ _ ∧ _›).1 (by (repeat with_reducible assumption)) (by omega))).mono ?_); rintro e w9 ⟨rfl, hb⟩; (skip); (try simp only [World.size_alloc, World.size_setCell, size_drew, size_drewN] at hk); obtain ⟨hc, hf⟩ := bcell hb; have hs := hb.size; (try simp only [World.size_alloc, World.size_setCell, size_drew, size_drewN] at hs))))
      all_goals go_wp2_with fail
      all_goals go_ret2
      all_goals exact ⟨rfl, (Reg.out (‹Reg _ _ _ ∧ _›).1 (by (repeat with_reducible assumption)) (by omega))⟩
end
section
open Go.RowKit
def zeros (n : Nat) : List Value := List.replicate n (.int .i64 0)
end
section
open Go.RowKit
def cellsN (M : MachD) : Int := if checkC M = 0 then M.grid.nr * M.grid.nz else 0
end
section
open Go.RowKit
end
section
open Go.RowKit
theorem flat_ints : ∀ n : Nat, (List.replicate n (0 : Int)).flatMap intCells = List.replicate n (.int .i64 0)
  | 0 => rfl
  | n + 1 => by rw [List.replicate_succ, List.replicate_succ, List.flatMap_cons, flat_ints n]; rfl
end
section
open Go.RowKit
theorem IsT.get {α : Type} {n : Nat} {enc : α → List Value} {w : World} {b o len : Nat} {zs : List α} (h : IsT n enc w (some ⟨b, o, none⟩) len zs) {j : Nat} {x : α} (hx : zs[j]? = some x) {i : Nat} {v : Value} (hv : (enc x)[i]? = some v) : w.cell? ⟨b, o + j * n + i, none⟩ = some v := by
  have hj := (List.getElem?_eq_some_iff.1 hx).1
  obtain ⟨b', o', e, _, hc⟩ := h.2 (by rw [← h.1]; omega)
  injection e with e
  injection e with e1 e2
  subst e1 e2
  exact hc j x hx i v hv
set_option maxHeartbeats 400000 in
theorem rwithin2_any (n a b : Int) (w : World) :
    Calls Tryz.prog 94 #[.int .i64 n, .int .i64 a, .int .i64 b] w fun e w' => e = .returned (.bool (wthn n a b)) ∧ w = w' := by
  go_enter Tryz.func94, Tryz.ntmps94
  go_wp2
  all_goals go_ret
  all_goals (simp [wthn]; try omega)
set_option maxHeartbeats 400000 in
theorem rplaced_any (r z : Int) (w : World) :
    Calls Tryz.prog 114 #[.int .i64 r, .int .i64 z] w fun e w' => e = .returned (.bool (nearB r z 60)) ∧ w = w' := by
  have HE : Hid (nearB r z 60 = (wthn r (-60) 60 && wthn z (-60) 60)) := Lib.hid rfl
  cases h : wthn r (-60) 60
  all_goals go_enter Tryz.func114, Tryz.ntmps114
  all_goals go_wp2_with (go_at_call 94; refine (rwithin2_any _ _ _ _).mono ?_; rintro e w1 ⟨rfl, rfl⟩)
  all_goals go_ret
  all_goals exact ⟨by rw [HE.out, h]; rfl, rfl⟩
theorem nameByte_ways {x : Int} (h0 : 0 ≤ x) (h1 : x < 256) :
    (x < 48 ∧ nameByte x = false) ∨ (48 ≤ x ∧ x ≤ 57 ∧ nameByte x = true) ∨ (57 < x ∧ x < 95 ∧ nameByte x = false) ∨ (x = 95 ∧ nameByte x = true) ∨ (95 < x ∧ x < 97 ∧ nameByte x = false) ∨ (97 ≤ x ∧ x ≤ 122 ∧ nameByte x = true) ∨ (122 < x ∧ nameByte x = false) := by
  have e : nameByte x = true ↔ (97 ≤ x ∧ x ≤ 122) ∨ x = 95 ∨ (48 ≤ x ∧ x ≤ 57) := by simp [nameByte, smallB]
  have f : nameByte x = false ↔ ¬((97 ≤ x ∧ x ≤ 122) ∨ x = 95 ∨ (48 ≤ x ∧ x ≤ 57)) := by rw [← e]; simp
  rw [e, f]
  omega
set_option maxHeartbeats 4000000 in
theorem rname_any (s : ByteArray) (w : World) :
    Calls Tryz.prog 110 #[.string s] w fun e w' => e = .returned (.bool (nameB s.data.toList)) ∧ w = w' := by
  have hz : s.data.toList.length = s.size := Array.length_toList
  cases hL : s.data.toList with
  | nil =>
    rw [hL] at hz
    have h1 : s.size = 0 := hz.symm
    clear hz hL
    go_enter Tryz.func110, Tryz.ntmps110
    go_wp2
    go_ret
    exact ⟨rfl, rfl⟩
  | cons c r =>
    rw [hL] at hz
    have hz1 : s.size = r.length + 1 := by rw [← hz]; rfl
    have ix0 : ∀ W : World, (Instr.index 9 (.string s) (.int .i64 0)).run Tryz.prog W = .ok (.int .u8 (c.toNat : Int)) W := fun W => indexS_any s (c :: r) hL 0 (by simp) W
    have HG : Hid (nameB (c :: r) = (decide (r.length < 16) && (smallB c.toNat && (c :: r).all fun b => nameByte b.toNat))) := Lib.hid rfl
    generalize nameB (c :: r) = G at *
    have hs1 : 1 ≤ s.size := by omega
    have hs0 : ¬((s.size : Int) < 1) := by omega
    by_cases h16 : r.length < 16
    · have hs2 : s.size ≤ 16 := by omega
      have c0 : (0 : Int) ≤ c.toNat := by omega
      by_cases hsm : smallB c.toNat = true
      · have HN : Hid (G = (c :: r).all fun b => nameByte b.toNat) := Lib.hid (by rw [HG.out, decide_eq_true h16, hsm]; simp)
        obtain ⟨s1, s2⟩ : (97 : Int) ≤ c.toNat ∧ (c.toNat : Int) ≤ 122 := by simpa [smallB] using hsm
        obtain ⟨l, hl⟩ : ∃ l, c :: r = l := ⟨_, rfl⟩
        rw [hl] at HN hL hz
        clear HG hl hz1 hsm
        generalize (c.toNat : Int) = ci at *
        have HL := Lib.hid hL
        have HZ := Lib.hid hz
        clear hL hz
        go_enter Tryz.func110, Tryz.ntmps110
        go_wp2_with fail
        clear ix0 s1 s2
        go_loop [3, 4] (fun i _ => ∃ k : Nat, k ≤ s.size ∧ i = .int .i64 k ∧ Hid (((l.drop k).all fun b => nameByte b.toNat) = G)) (fun i _ => s.size - (intOf i).toNat)
        case atStart => exact ⟨0, Nat.zero_le _, rfl, Lib.hid (by rw [HN.out]; rfl)⟩
        case round =>
          obtain ⟨k, hk, rfl, hG⟩ := hrel
          by_cases hlt : k < s.size
          · have hkl : k < l.length := by rw [HZ.out]; exact hlt
            have ix := indexS_any s l HL.out k hkl
            have HS := Lib.hid (show (nameByte l[k].toNat && ((l.drop (k + 1)).all fun b => nameByte b.toNat)) = G from by rw [← hG.out, List.drop_eq_getElem_cons hkl]; rfl)
            have c255 : l[k].toNat < 256 := l[k].toNat_lt
            obtain ⟨x, hxe⟩ : ∃ x : Int, (l[k].toNat : Int) = x := ⟨_, rfl⟩
            rw [hxe] at ix HS
            have hx0 : 0 ≤ x := by omega
            have hx1 : x < 256 := by omega
            clear hkl hxe c255
            rcases nameByte_ways hx0 hx1 with ⟨h1, hnb⟩ | ⟨h1, h2, hnb⟩ | ⟨h1, h2, hnb⟩ | ⟨rfl, hnb⟩ | ⟨h1, h2, hnb⟩ | ⟨h1, h2, hnb⟩ | ⟨h1, hnb⟩
            · rw [hnb] at HS; clear hnb
              have h95 : (x == 95) = false := by rw [beq_eq_false_iff_ne]; omega
              go_wp2_with fail
              go_ret
              exact ⟨by rw [← HS.out]; rfl, rfl⟩
            · rw [hnb] at HS; clear hnb
              have HT : Hid (((l.drop (k + 1)).all fun b => nameByte b.toNat) = G) := Lib.hid (by have h := HS.out; rwa [Bool.true_and] at h)
              have h95 : (x == 95) = false := by rw [beq_eq_false_iff_ne]; omega
              go_wp2_with fail
              all_goals go_round
              all_goals first | exact ⟨k + 1, by omega, by go_num, HT⟩ | (simp [intOf]; omega)
            · rw [hnb] at HS; clear hnb
              have d57 : decide (x ≤ 57) = false := decide_eq_false (by omega)
              have h95 : (x == 95) = false := by rw [beq_eq_false_iff_ne]; omega
              go_wp2_with fail
              go_ret
              exact ⟨by rw [← HS.out]; rfl, rfl⟩
            · rw [hnb] at HS; clear hnb
              have HT : Hid (((l.drop (k + 1)).all fun b => nameByte b.toNat) = G) := Lib.hid (by have h := HS.out; rwa [Bool.true_and] at h)
              go_wp2_with fail
              all_goals go_round
              all_goals first | exact ⟨k + 1, by omega, by go_num, HT⟩ | (simp [intOf]; omega)
            · rw [hnb] at HS; clear hnb
              have d57 : decide (x ≤ 57) = false := decide_eq_false (by omega)
              have h95 : (x == 95) = false := by rw [beq_eq_false_iff_ne]; omega
              go_wp2_with fail
              go_ret
              exact ⟨by rw [← HS.out]; rfl, rfl⟩
            · rw [hnb] at HS; clear hnb
              have HT : Hid (((l.drop (k + 1)).all fun b => nameByte b.toNat) = G) := Lib.hid (by have h := HS.out; rwa [Bool.true_and] at h)
              have h95 : (x == 95) = false := by rw [beq_eq_false_iff_ne]; omega
              go_wp2_with fail
              all_goals go_round
              all_goals first | exact ⟨k + 1, by omega, by go_num, HT⟩ | (simp [intOf]; omega)
            · rw [hnb] at HS; clear hnb
              have d57 : decide (x ≤ 57) = false := decide_eq_false (by omega)
              have d122 : decide (x ≤ 122) = false := decide_eq_false (by omega)
              have h95 : (x == 95) = false := by rw [beq_eq_false_iff_ne]; omega
              go_wp2_with fail
              go_ret
              exact ⟨by rw [← HS.out]; rfl, rfl⟩
          · have HT : Hid (G = true) := Lib.hid (by rw [← hG.out, List.drop_of_length_le (by rw [HZ.out]; omega)]; rfl)
            go_wp2
            go_ret
            exact ⟨by rw [HT.out]; rfl, rfl⟩
      · have hsf : smallB c.toNat = false := by simpa using hsm
        have HN : Hid (G = false) := Lib.hid (by rw [HG.out, hsf]; simp)
        have hw : (c.toNat : Int) < 97 ∨ ((97 : Int) ≤ c.toNat ∧ 122 < (c.toNat : Int)) := by
          simp [smallB] at hsf; omega
        clear hz hz1 hL HG hsm hsf
        generalize (c.toNat : Int) = ci at *
        rcases hw with hw | ⟨hw1, hw2⟩
        all_goals go_enter Tryz.func110, Tryz.ntmps110
        all_goals go_wp2_with fail
        all_goals go_ret
        all_goals exact ⟨by rw [HN.out]; rfl, rfl⟩
    · have hs2 : 16 < s.size := by omega
      have HN : Hid (G = false) := Lib.hid (by rw [HG.out, decide_eq_false h16]; rfl)
      clear hz hz1 hL HG h16
      go_enter Tryz.func110, Tryz.ntmps110
      go_wp2_with fail
      go_ret
      exact ⟨by rw [HN.out]; rfl, rfl⟩
end
section
open Go.RowKit Go.Shelf
set_option maxRecDepth 100000 in
set_option maxHeartbeats 16000000 in
theorem rcoils_any (name : ByteArray) (A B C D : Option Addr) (la ca lb cb lc cc ld cd : Nat) (r z nr nz step : Int) (zs : List CoilD) (w : World) (hI : IsT 8 CoilD.cells w A la zs) :
    Calls Tryz.prog 111 #[.agg #[.string name, .slice A la ca, .slice B lb cb, .slice C lc cc, .int .i64 r, .int .i64 z, .int .i64 nr, .int .i64 nz, .int .i64 step, .slice D ld cd]] w (Ret (.int .i64 (eachC coilC 12 zs)) w) := by
  have HI := Lib.hid hI
  have hz := hI.1
  by_cases hm : 12 < la
  · have HG : Hid (eachC coilC 12 zs = 4) := Lib.hid (by unfold eachC; rw [if_pos (by omega)])
    clear hI hz
    generalize eachC coilC 12 zs = G at *
    go_enter Tryz.func111, Tryz.ntmps111
    go_wp2_with fail
    go_ret
    exact ⟨by rw [HG.out]; rfl, by (repeat first | with_reducible exact Below.refl _ _ | (with_reducible refine Below.alloc ?_ ?_ _; rotate_left; exact (by omega)))⟩
  have hl : la ≤ 1000000000000000 := by omega
  have HG : Hid (eachC coilC 12 zs = eachGo coilC [] zs) := Lib.hid (by unfold eachC; rw [if_neg (by omega)])
  generalize eachC coilC 12 zs = G at *
  clear hI hz
  go_enter Tryz.func111, Tryz.ntmps111
  go_wp2_with fail
  go_loopw [3, 4, 5] (fun i _ _ wr => ∃ j : Nat, j ≤ la ∧ i = .int .i64 j ∧ Hid (eachGo coilC (zs.take j) (zs.drop j) = G) ∧ Below w.heap.size w wr ∧ w.heap.size < wr.heap.size ∧ wr.cell? ⟨w.heap.size, 1, none⟩ = some (.slice A la ca)) (fun i _ _ _ => la - (intOf i).toNat)
  case atStart => exact ⟨0, Nat.zero_le _, rfl, Lib.hid HG.out.symm, by (repeat first | with_reducible exact Below.refl _ _ | (with_reducible refine Below.alloc ?_ ?_ _; rotate_left; exact (by omega))), by simp, by go_simp⟩
  case round =>
    obtain ⟨j, hj, rfl, hG, hB, hq, q1⟩ := hrel
    by_cases hlt : j < la
    · obtain ⟨hzl, hcl⟩ := HI.out.below hB
      obtain ⟨b, o, rfl, hb0, hcl⟩ := hcl (by omega)
      obtain ⟨x, hx⟩ : ∃ x, zs[j]? = some x := ⟨_, List.getElem?_eq_getElem (by omega)⟩
      have HS := Lib.hid (hG.out.symm.trans (eachGo_step coilC hx))
      have x0 : wr.cell? ⟨b, o + j * 8, none⟩ = some (.string x.name) := by have h := hcl j x hx 0 _ rfl; simpa using h
      have x1 : wr.cell? ⟨b, o + j * 8 + 1, none⟩ = some (.int .i64 x.r) := by have h := hcl j x hx 1 _ rfl; simpa using h
      have x2 : wr.cell? ⟨b, o + j * 8 + 2, none⟩ = some (.int .i64 x.z) := by have h := hcl j x hx 2 _ rfl; simpa using h
      have x3 : wr.cell? ⟨b, o + j * 8 + 3, none⟩ = some (.int .i64 x.turns) := by have h := hcl j x hx 3 _ rfl; simpa using h
      have x4 : wr.cell? ⟨b, o + j * 8 + 4, none⟩ = some (.int .i64 x.cur) := by have h := hcl j x hx 4 _ rfl; simpa using h
      have x5 : wr.cell? ⟨b, o + j * 8 + 5, none⟩ = some (.int .i64 x.step) := by have h := hcl j x hx 5 _ rfl; simpa using h
      have x6 : wr.cell? ⟨b, o + j * 8 + 6, none⟩ = some (.int .i64 x.heat) := by have h := hcl j x hx 6 _ rfl; simpa using h
      have x7 : wr.cell? ⟨b, o + j * 8 + 7, none⟩ = some (.int .i64 x.cool) := by have h := hcl j x hx 7 _ rfl; simpa using h
      have hsz := hB.size
      clear hcl hx hzl hG
      have jc : (0 : Int) ≤ j := by omega
      have jn : ((j : Int)).toNat = j := by omega
      cases hnm : nameB x.name.data.toList
      · have HF : Hid ((1 : Int) = G) := Lib.hid (by rw [HS.out]; unfold coilC; rw [hnm]; simp)
        clear HS
        go_wp2_with (go_at_call 110; refine (rname_any _ _).mono ?_; rintro e w1 ⟨rfl, rfl⟩)
        go_ret
        exact ⟨by rw [← HF.out]; rfl, by (repeat first | with_reducible assumption | (with_reducible refine Below.alloc ?_ ?_ _; rotate_left; exact (by omega)))⟩
      · have HK0 : Hid (coilC x (zs.take j) = if (zs.take j).any (fun y => decide (y.name = x.name)) = true then 6 else rng (nearB x.r x.z 60 && (wthn x.turns 1 100 && (wthn x.cur 1 1000000 && (wthn x.step 1 1000000 && (wthn x.heat 1 1000000000000 && wthn x.cool 0 1000000000)))))) := Lib.hid (by unfold coilC; rw [hnm]; rfl)
        go_wp2_with (go_at_call 110; refine (rname_any _ _).mono ?_; rintro e w1 ⟨rfl, rfl⟩)
        clear hnm x0
        obtain ⟨wo, hwo⟩ : ∃ wo, wo = wr := ⟨_, rfl⟩
        subst hwo
        go_loopw [5] (fun k wr => ∃ t : Nat, t ≤ j ∧ k = .int .i64 t ∧ Hid (∀ y ∈ zs.take t, y.name ≠ x.name) ∧ Below w.heap.size w wr ∧ wo.heap.size < wr.heap.size ∧ wr.cell? ⟨w.heap.size, 1, none⟩ = some (.slice (some ⟨b, o, none⟩) la ca) ∧ wr.cell? ⟨wo.heap.size, 0, none⟩ = some (.string x.name) ∧ wr.cell? ⟨wo.heap.size, 1, none⟩ = some (.int .i64 x.r) ∧ wr.cell? ⟨wo.heap.size, 2, none⟩ = some (.int .i64 x.z) ∧ wr.cell? ⟨wo.heap.size, 3, none⟩ = some (.int .i64 x.turns) ∧ wr.cell? ⟨wo.heap.size, 4, none⟩ = some (.int .i64 x.cur) ∧ wr.cell? ⟨wo.heap.size, 5, none⟩ = some (.int .i64 x.step) ∧ wr.cell? ⟨wo.heap.size, 6, none⟩ = some (.int .i64 x.heat) ∧ wr.cell? ⟨wo.heap.size, 7, none⟩ = some (.int .i64 x.cool)) (fun k _ => j - (intOf k).toNat)
        case atStart => exact ⟨0, Nat.zero_le _, rfl, Lib.hid (fun y hy => by simp at hy), by (repeat first | with_reducible assumption | (with_reducible refine Below.alloc ?_ ?_ _; rotate_left; exact (by omega))), by simp, by go_simp, by go_simp, by go_simp, by go_simp, by go_simp, by go_simp, by go_simp, by go_simp, by go_simp⟩
        case round =>
          obtain ⟨t, ht, rfl, hU, hBx, hwx, q2, c0, c1, c2, c3, c4, c5, c6, c7⟩ := hrel
          have hqx : w.heap.size < wr.heap.size := by omega
          by_cases htj : t < j
          · obtain ⟨y, hy⟩ : ∃ y, zs[t]? = some y := ⟨_, List.getElem?_eq_getElem (by rw [HI.out.1]; omega)⟩
            have y0 : wr.cell? ⟨b, o + t * 8, none⟩ = some (.string y.name) := by have h := (HI.out.below hBx).get hy (i := 0) rfl; simpa using h
            have hyt : zs.take (t + 1) = zs.take t ++ [y] := by
              obtain ⟨hk, rfl⟩ := List.getElem?_eq_some_iff.1 hy
              exact List.take_succ_eq_append_getElem hk
            have hym : y ∈ zs.take j := List.mem_take_iff_getElem.2 ⟨t, by rw [HI.out.1]; omega, by
              obtain ⟨hk, rfl⟩ := List.getElem?_eq_some_iff.1 hy
              rfl⟩
            have HYT := Lib.hid hyt
            clear hy hyt
            have hsb := str_beq y.name x.name
            have tc : (0 : Int) ≤ t := by omega
            have tn : ((t : Int)).toNat = t := by omega
            by_cases e : y.name = x.name
            · have HF : Hid ((6 : Int) = G) := Lib.hid (by
                rw [HS.out, HK0.out, if_pos (List.any_eq_true.2 ⟨y, hym, decide_eq_true e⟩)]; rfl)
              rw [decide_eq_true e] at hsb
              clear e HS HK0 HYT hym
              obtain ⟨yn, hyn⟩ : ∃ yn, y.name = yn := ⟨_, rfl⟩
              rw [hyn] at y0 hsb
              obtain ⟨xn, hxn⟩ : ∃ xn, x.name = xn := ⟨_, rfl⟩
              rw [hxn] at c0 hsb
              clear hyn hxn
              go_wp2_with fail
              go_quiet (fail)
              go_wp2_with fail
              go_ret
              exact ⟨by rw [← HF.out]; rfl, by (repeat first | with_reducible assumption | with_reducible refine Below_drewN ?_ _)⟩
            · have HU2 : Hid (∀ u ∈ zs.take (t + 1), u.name ≠ x.name) := Lib.hid (by
                rw [HYT.out]; intro u hu
                rcases List.mem_append.1 hu with hu | hu
                · exact hU.out u hu
                · obtain rfl : u = y := by simpa using hu
                  exact e)
              rw [decide_eq_false e] at hsb
              clear e HYT hym
              go_wp2_with fail
              go_quiet (fail)
              go_wp2_with fail
              go_roundw
              case rel => exact ⟨t + 1, by omega, by go_num, HU2, by (repeat first | with_reducible assumption | with_reducible refine Below_drewN ?_ _), by simpa using hwx, by go_simp, by go_simp, by go_simp, by go_simp, by go_simp, by go_simp, by go_simp, by go_simp, by go_simp⟩
              case measure => simp [intOf]; omega
          · obtain rfl : t = j := by omega
            have HK : Hid (coilC x (zs.take t) = rng (nearB x.r x.z 60 && (wthn x.turns 1 100 && (wthn x.cur 1 1000000 && (wthn x.step 1 1000000 && (wthn x.heat 1 1000000000000 && wthn x.cool 0 1000000000)))))) := Lib.hid (by
              rw [HK0.out, if_neg (by
                intro h
                obtain ⟨u, hu, hd⟩ := List.any_eq_true.1 h
                exact hU.out u hu (of_decide_eq_true hd))])
            clear HK0
            cases p1 : nearB x.r x.z 60
            · have HF : Hid ((7 : Int) = G) := Lib.hid (by rw [HS.out, HK.out, p1]; simp [rng])
              clear HS HK
              go_wp2_with (go_at_call 114; refine (rplaced_any _ _ _).mono ?_; rintro e w1 ⟨rfl, rfl⟩)
              go_ret
              exact ⟨by rw [← HF.out]; rfl, by (repeat with_reducible assumption)⟩
            cases p2 : wthn x.turns 1 100
            · have HF : Hid ((7 : Int) = G) := Lib.hid (by rw [HS.out, HK.out, p1, p2]; simp [rng])
              clear HS HK
              go_wp2_with (first | (go_at_call 94; refine (rwithin2_any _ _ _ _).mono ?_; rintro e w1 ⟨rfl, rfl⟩) | (go_at_call 114; refine (rplaced_any _ _ _).mono ?_; rintro e w1 ⟨rfl, rfl⟩))
              go_ret
              exact ⟨by rw [← HF.out]; rfl, by (repeat with_reducible assumption)⟩
            cases p3 : wthn x.cur 1 1000000
            · have HF : Hid ((7 : Int) = G) := Lib.hid (by rw [HS.out, HK.out, p1, p2, p3]; simp [rng])
              clear HS HK
              go_wp2_with (first | (go_at_call 94; refine (rwithin2_any _ _ _ _).mono ?_; rintro e w1 ⟨rfl, rfl⟩) | (go_at_call 114; refine (rplaced_any _ _ _).mono ?_; rintro e w1 ⟨rfl, rfl⟩))
              go_ret
              exact ⟨by rw [← HF.out]; rfl, by (repeat with_reducible assumption)⟩
            cases p4 : wthn x.step 1 1000000
            · have HF : Hid ((7 : Int) = G) := Lib.hid (by rw [HS.out, HK.out, p1, p2, p3, p4]; simp [rng])
              clear HS HK
              go_wp2_with (first | (go_at_call 94; refine (rwithin2_any _ _ _ _).mono ?_; rintro e w1 ⟨rfl, rfl⟩) | (go_at_call 114; refine (rplaced_any _ _ _).mono ?_; rintro e w1 ⟨rfl, rfl⟩))
              go_ret
              exact ⟨by rw [← HF.out]; rfl, by (repeat with_reducible assumption)⟩
            cases p5 : wthn x.heat 1 1000000000000
            · have HF : Hid ((7 : Int) = G) := Lib.hid (by rw [HS.out, HK.out, p1, p2, p3, p4, p5]; simp [rng])
              clear HS HK
              go_wp2_with (first | (go_at_call 94; refine (rwithin2_any _ _ _ _).mono ?_; rintro e w1 ⟨rfl, rfl⟩) | (go_at_call 114; refine (rplaced_any _ _ _).mono ?_; rintro e w1 ⟨rfl, rfl⟩))
              go_ret
              exact ⟨by rw [← HF.out]; rfl, by (repeat with_reducible assumption)⟩
            cases p6 : wthn x.cool 0 1000000000
            · have HF : Hid ((7 : Int) = G) := Lib.hid (by rw [HS.out, HK.out, p1, p2, p3, p4, p5, p6]; simp [rng])
              clear HS HK
              go_wp2_with (first | (go_at_call 94; refine (rwithin2_any _ _ _ _).mono ?_; rintro e w1 ⟨rfl, rfl⟩) | (go_at_call 114; refine (rplaced_any _ _ _).mono ?_; rintro e w1 ⟨rfl, rfl⟩))
              go_ret
              exact ⟨by rw [← HF.out]; rfl, by (repeat with_reducible assumption)⟩
            have HN : Hid (eachGo coilC (zs.take (t + 1)) (zs.drop (t + 1)) = G) := Lib.hid (by rw [HS.out, HK.out, p1, p2, p3, p4, p5, p6]; simp [rng])
            clear HS HK
            go_wp2_with (first | (go_at_call 94; refine (rwithin2_any _ _ _ _).mono ?_; rintro e w1 ⟨rfl, rfl⟩) | (go_at_call 114; refine (rplaced_any _ _ _).mono ?_; rintro e w1 ⟨rfl, rfl⟩))
            go_roundw
            case rel => exact ⟨t + 1, by omega, by go_num, HN, by (repeat with_reducible assumption), hqx, by go_simp⟩
            case measure => simp [intOf]; omega
    · have HN : Hid ((0 : Int) = G) := Lib.hid (by rw [← hG.out, List.drop_of_length_le (by rw [HI.out.1]; omega)]; rfl)
      go_wp2
      go_ret
      exact ⟨by rw [← HN.out]; rfl, by (repeat with_reducible assumption)⟩
end
end Go.Proofs.YtapldonpflgnfaaGreatDoor
