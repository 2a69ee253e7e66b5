import Derived.Test.YtapldonpflgnfaaDoorMAN
import Derived.Handy
import Derived.Outline
namespace Go.Proofs.YtapldonpflgnfaaDoor
set_option linter.unusedVariables false
set_option linter.unusedSimpArgs false
section
open Go.RowKit Go.Shelf
def fieldP (p : Int × Int) (S : List Src) : Int × Int := (fluxP (p.1, p.2 - 1) S - fluxP (p.1, p.2 + 1) S, fluxP (p.1 + 1, p.2) S - fluxP (p.1 - 1, p.2) S)
set_option maxRecDepth 100000 in
set_option maxHeartbeats 16000000 in
theorem fieldAt_any (R : MachR) (M : MachD) (Qr : CurR) (Cd : CurD) (p0 p1 : Int) (w : World) (hM : IsM w R M) (hC : IsC w Qr Cd) (hv : Fit2 M Cd) (g0 : -1000000 ≤ p0) (g1 : p0 ≤ 1000000) (g2 : -1000000 ≤ p1) (g3 : p1 ≤ 1000000) :
    Calls Tryd.prog 34 #[.agg (machCells R M), Qr.v, .agg #[.int .i64 p0, .int .i64 p1]] w (Ret (.tuple #[.int .i64 (fieldP (p0, p1) (srcM M Cd)).1, .int .i64 (fieldP (p0, p1) (srcM M Cd)).2]) w) := by
  have HF := Lib.hid (fun a b W (hb : Below w.heap.size w W) => fluxAt_any R M Qr Cd a b W (hM.below hb) (hC.below hb) hv)
  have HB := Lib.hid (fun p => (small_of hv).bd p)
  unfold fieldP
  dsimp only
  clear hM hC hv
  generalize srcM M Cd = S at *
  obtain ⟨A, B, Cl, D, la, ca, lb, cb, lc, cl, ld, cd⟩ := R
  obtain ⟨name, coils, shells, limits, ⟨r, z, nr, nz, step⟩, sensors⟩ := M
  obtain ⟨A1, B1, C1, na, qa, nb, qb, nc, qc⟩ := Qr
  have b1 := HB.out (p0, p1 - 1)
  have b2 := HB.out (p0, p1 + 1)
  have b3 := HB.out (p0 + 1, p1)
  have b4 := HB.out (p0 - 1, p1)
  have H1 := Lib.hid (show ∀ W, Below w.heap.size w W → Calls Tryd.prog 33 #[.agg #[.string name, .slice A la ca, .slice B lb cb, .slice Cl lc cl, .int .i64 r, .int .i64 z, .int .i64 nr, .int .i64 nz, .int .i64 step, .slice D ld cd], .agg #[.slice A1 na qa, .slice B1 nb qb, .slice C1 nc qc], .agg #[.int .i64 p0, .int .i64 (p1 - 1)]] W (Ret (.int .i64 (fluxP (p0, p1 - 1) S)) W) from fun W hb => HF.out _ _ W hb)
  have H2 := Lib.hid (show ∀ W, Below w.heap.size w W → Calls Tryd.prog 33 #[.agg #[.string name, .slice A la ca, .slice B lb cb, .slice Cl lc cl, .int .i64 r, .int .i64 z, .int .i64 nr, .int .i64 nz, .int .i64 step, .slice D ld cd], .agg #[.slice A1 na qa, .slice B1 nb qb, .slice C1 nc qc], .agg #[.int .i64 p0, .int .i64 (p1 + 1)]] W (Ret (.int .i64 (fluxP (p0, p1 + 1) S)) W) from fun W hb => HF.out _ _ W hb)
  have H3 := Lib.hid (show ∀ W, Below w.heap.size w W → Calls Tryd.prog 33 #[.agg #[.string name, .slice A la ca, .slice B lb cb, .slice Cl lc cl, .int .i64 r, .int .i64 z, .int .i64 nr, .int .i64 nz, .int .i64 step, .slice D ld cd], .agg #[.slice A1 na qa, .slice B1 nb qb, .slice C1 nc qc], .agg #[.int .i64 (p0 + 1), .int .i64 p1]] W (Ret (.int .i64 (fluxP (p0 + 1, p1) S)) W) from fun W hb => HF.out _ _ W hb)
  have H4 := Lib.hid (show ∀ W, Below w.heap.size w W → Calls Tryd.prog 33 #[.agg #[.string name, .slice A la ca, .slice B lb cb, .slice Cl lc cl, .int .i64 r, .int .i64 z, .int .i64 nr, .int .i64 nz, .int .i64 step, .slice D ld cd], .agg #[.slice A1 na qa, .slice B1 nb qb, .slice C1 nc qc], .agg #[.int .i64 (p0 - 1), .int .i64 p1]] W (Ret (.int .i64 (fluxP (p0 - 1, p1) S)) W) from fun W hb => HF.out _ _ W hb)
  generalize fluxP (p0, p1 - 1) S = f1 at *
  generalize fluxP (p0, p1 + 1) S = f2 at *
  generalize fluxP (p0 + 1, p1) S = f3 at *
  generalize fluxP (p0 - 1, p1) S = f4 at *
  clear HF HB
  show Calls Tryd.prog 34 #[.agg #[.string name, .slice A la ca, .slice B lb cb, .slice Cl lc cl, .int .i64 r, .int .i64 z, .int .i64 nr, .int .i64 nz, .int .i64 step, .slice D ld cd], .agg #[.slice A1 na qa, .slice B1 nb qb, .slice C1 nc qc], .agg #[.int .i64 p0, .int .i64 p1]] w _
  go_enter Tryd.func34, Tryd.ntmps34
  go_upto_region 1 with (fail)
  have m0 : (((w.alloc (.cells #[.string name, .slice A la ca, .slice B lb cb, .slice Cl lc cl, .int .i64 r, .int .i64 z, .int .i64 nr, .int .i64 nz, .int .i64 step, .slice D ld cd] 29)).alloc (.cells #[.slice A1 na qa, .slice B1 nb qb, .slice C1 nc qc] 32)).alloc (.cells #[.int .i64 p0, .int .i64 p1] 55)).cell? ⟨w.heap.size, 0, none⟩ = some (.string name) := by go_simp
  have m1 : (((w.alloc (.cells #[.string name, .slice A la ca, .slice B lb cb, .slice Cl lc cl, .int .i64 r, .int .i64 z, .int .i64 nr, .int .i64 nz, .int .i64 step, .slice D ld cd] 29)).alloc (.cells #[.slice A1 na qa, .slice B1 nb qb, .slice C1 nc qc] 32)).alloc (.cells #[.int .i64 p0, .int .i64 p1] 55)).cell? ⟨w.heap.size, 1, none⟩ = some (.slice A la ca) := by go_simp
  have m2 : (((w.alloc (.cells #[.string name, .slice A la ca, .slice B lb cb, .slice Cl lc cl, .int .i64 r, .int .i64 z, .int .i64 nr, .int .i64 nz, .int .i64 step, .slice D ld cd] 29)).alloc (.cells #[.slice A1 na qa, .slice B1 nb qb, .slice C1 nc qc] 32)).alloc (.cells #[.int .i64 p0, .int .i64 p1] 55)).cell? ⟨w.heap.size, 2, none⟩ = some (.slice B lb cb) := by go_simp
  have m3 : (((w.alloc (.cells #[.string name, .slice A la ca, .slice B lb cb, .slice Cl lc cl, .int .i64 r, .int .i64 z, .int .i64 nr, .int .i64 nz, .int .i64 step, .slice D ld cd] 29)).alloc (.cells #[.slice A1 na qa, .slice B1 nb qb, .slice C1 nc qc] 32)).alloc (.cells #[.int .i64 p0, .int .i64 p1] 55)).cell? ⟨w.heap.size, 3, none⟩ = some (.slice Cl lc cl) := by go_simp
  have m4 : (((w.alloc (.cells #[.string name, .slice A la ca, .slice B lb cb, .slice Cl lc cl, .int .i64 r, .int .i64 z, .int .i64 nr, .int .i64 nz, .int .i64 step, .slice D ld cd] 29)).alloc (.cells #[.slice A1 na qa, .slice B1 nb qb, .slice C1 nc qc] 32)).alloc (.cells #[.int .i64 p0, .int .i64 p1] 55)).cell? ⟨w.heap.size, 4, none⟩ = some (.int .i64 r) := by go_simp
  have m5 : (((w.alloc (.cells #[.string name, .slice A la ca, .slice B lb cb, .slice Cl lc cl, .int .i64 r, .int .i64 z, .int .i64 nr, .int .i64 nz, .int .i64 step, .slice D ld cd] 29)).alloc (.cells #[.slice A1 na qa, .slice B1 nb qb, .slice C1 nc qc] 32)).alloc (.cells #[.int .i64 p0, .int .i64 p1] 55)).cell? ⟨w.heap.size, 5, none⟩ = some (.int .i64 z) := by go_simp
  have m6 : (((w.alloc (.cells #[.string name, .slice A la ca, .slice B lb cb, .slice Cl lc cl, .int .i64 r, .int .i64 z, .int .i64 nr, .int .i64 nz, .int .i64 step, .slice D ld cd] 29)).alloc (.cells #[.slice A1 na qa, .slice B1 nb qb, .slice C1 nc qc] 32)).alloc (.cells #[.int .i64 p0, .int .i64 p1] 55)).cell? ⟨w.heap.size, 6, none⟩ = some (.int .i64 nr) := by go_simp
  have m7 : (((w.alloc (.cells #[.string name, .slice A la ca, .slice B lb cb, .slice Cl lc cl, .int .i64 r, .int .i64 z, .int .i64 nr, .int .i64 nz, .int .i64 step, .slice D ld cd] 29)).alloc (.cells #[.slice A1 na qa, .slice B1 nb qb, .slice C1 nc qc] 32)).alloc (.cells #[.int .i64 p0, .int .i64 p1] 55)).cell? ⟨w.heap.size, 7, none⟩ = some (.int .i64 nz) := by go_simp
  have m8 : (((w.alloc (.cells #[.string name, .slice A la ca, .slice B lb cb, .slice Cl lc cl, .int .i64 r, .int .i64 z, .int .i64 nr, .int .i64 nz, .int .i64 step, .slice D ld cd] 29)).alloc (.cells #[.slice A1 na qa, .slice B1 nb qb, .slice C1 nc qc] 32)).alloc (.cells #[.int .i64 p0, .int .i64 p1] 55)).cell? ⟨w.heap.size, 8, none⟩ = some (.int .i64 step) := by go_simp
  have m9 : (((w.alloc (.cells #[.string name, .slice A la ca, .slice B lb cb, .slice Cl lc cl, .int .i64 r, .int .i64 z, .int .i64 nr, .int .i64 nz, .int .i64 step, .slice D ld cd] 29)).alloc (.cells #[.slice A1 na qa, .slice B1 nb qb, .slice C1 nc qc] 32)).alloc (.cells #[.int .i64 p0, .int .i64 p1] 55)).cell? ⟨w.heap.size, 9, none⟩ = some (.slice D ld cd) := by go_simp
  have c0 : (((w.alloc (.cells #[.string name, .slice A la ca, .slice B lb cb, .slice Cl lc cl, .int .i64 r, .int .i64 z, .int .i64 nr, .int .i64 nz, .int .i64 step, .slice D ld cd] 29)).alloc (.cells #[.slice A1 na qa, .slice B1 nb qb, .slice C1 nc qc] 32)).alloc (.cells #[.int .i64 p0, .int .i64 p1] 55)).cell? ⟨w.heap.size + 1, 0, none⟩ = some (.slice A1 na qa) := by go_simp
  have c1 : (((w.alloc (.cells #[.string name, .slice A la ca, .slice B lb cb, .slice Cl lc cl, .int .i64 r, .int .i64 z, .int .i64 nr, .int .i64 nz, .int .i64 step, .slice D ld cd] 29)).alloc (.cells #[.slice A1 na qa, .slice B1 nb qb, .slice C1 nc qc] 32)).alloc (.cells #[.int .i64 p0, .int .i64 p1] 55)).cell? ⟨w.heap.size + 1, 1, none⟩ = some (.slice B1 nb qb) := by go_simp
  have c2 : (((w.alloc (.cells #[.string name, .slice A la ca, .slice B lb cb, .slice Cl lc cl, .int .i64 r, .int .i64 z, .int .i64 nr, .int .i64 nz, .int .i64 step, .slice D ld cd] 29)).alloc (.cells #[.slice A1 na qa, .slice B1 nb qb, .slice C1 nc qc] 32)).alloc (.cells #[.int .i64 p0, .int .i64 p1] 55)).cell? ⟨w.heap.size + 1, 2, none⟩ = some (.slice C1 nc qc) := by go_simp
  have p0c : (((w.alloc (.cells #[.string name, .slice A la ca, .slice B lb cb, .slice Cl lc cl, .int .i64 r, .int .i64 z, .int .i64 nr, .int .i64 nz, .int .i64 step, .slice D ld cd] 29)).alloc (.cells #[.slice A1 na qa, .slice B1 nb qb, .slice C1 nc qc] 32)).alloc (.cells #[.int .i64 p0, .int .i64 p1] 55)).cell? ⟨w.heap.size + 1 + 1, 0, none⟩ = some (.int .i64 p0) := by go_simp
  have p1c : (((w.alloc (.cells #[.string name, .slice A la ca, .slice B lb cb, .slice Cl lc cl, .int .i64 r, .int .i64 z, .int .i64 nr, .int .i64 nz, .int .i64 step, .slice D ld cd] 29)).alloc (.cells #[.slice A1 na qa, .slice B1 nb qb, .slice C1 nc qc] 32)).alloc (.cells #[.int .i64 p0, .int .i64 p1] 55)).cell? ⟨w.heap.size + 1 + 1, 1, none⟩ = some (.int .i64 p1) := by go_simp
  have hz : w.heap.size + 1 + 1 < (((w.alloc (.cells #[.string name, .slice A la ca, .slice B lb cb, .slice Cl lc cl, .int .i64 r, .int .i64 z, .int .i64 nr, .int .i64 nz, .int .i64 step, .slice D ld cd] 29)).alloc (.cells #[.slice A1 na qa, .slice B1 nb qb, .slice C1 nc qc] 32)).alloc (.cells #[.int .i64 p0, .int .i64 p1] 55)).heap.size := by simp
  have hB : Below w.heap.size w (((w.alloc (.cells #[.string name, .slice A la ca, .slice B lb cb, .slice Cl lc cl, .int .i64 r, .int .i64 z, .int .i64 nr, .int .i64 nz, .int .i64 step, .slice D ld cd] 29)).alloc (.cells #[.slice A1 na qa, .slice B1 nb qb, .slice C1 nc qc] 32)).alloc (.cells #[.int .i64 p0, .int .i64 p1] 55)) := by (repeat first | with_reducible exact Below.refl _ _ | (with_reducible refine Below.alloc ?_ ?_ _; rotate_left; exact (by first | omega | (simp; done) | (simp; omega))))
  obtain ⟨W0, hW0⟩ : ∃ W, ((w.alloc (.cells #[.string name, .slice A la ca, .slice B lb cb, .slice Cl lc cl, .int .i64 r, .int .i64 z, .int .i64 nr, .int .i64 nz, .int .i64 step, .slice D ld cd] 29)).alloc (.cells #[.slice A1 na qa, .slice B1 nb qb, .slice C1 nc qc] 32)).alloc (.cells #[.int .i64 p0, .int .i64 p1] 55) = W := ⟨_, rfl⟩
  rw [hW0] at hz hB m0 m1 m2 m3 m4 m5 m6 m7 m8 m9 c0 c1 c2 p0c p1c ⊢
  clear hW0
  have FM := Lib.hid (BoxL.mk10 (W := W0) (by omega) m0 m1 m2 m3 m4 m5 m6 m7 m8 m9)
  have FC := Lib.hid (BoxL.mk3 (W := W0) (by omega) c0 c1 c2)
  have FP := Lib.hid (BoxL.mk2 (W := W0) hz p0c p1c)
  have HZ := Lib.hid hz
  clear m0 m1 m2 m3 m4 m5 m6 m7 m8 m9 c0 c1 c2
  go_cut [8, 9] (fun s t wx => ∃ y x : Nat, s = .pointer (some ⟨y, 0, none⟩) ∧ t = .pointer (some ⟨x, 0, none⟩) ∧ wx.cell? ⟨y, 0, none⟩ = some (.int .i64 (p0)) ∧ wx.cell? ⟨y, 1, none⟩ = some (.int .i64 (p1 - 1)) ∧ wx.cell? ⟨x, 0, none⟩ = some (.int .i64 (p0)) ∧ wx.cell? ⟨x, 1, none⟩ = some (.int .i64 (p1 + 1)) ∧ y < wx.heap.size ∧ x < wx.heap.size ∧ W0.heap.size ≤ y ∧ W0.heap.size ≤ x ∧ Below W0.heap.size W0 wx)
  case first =>
    have v0 : IntKind.i64.wrap (p1 - 1) = p1 - 1 := IntWalk.i64_in _ (by omega)
    have v1 : IntKind.i64.wrap (p1 + 1) = p1 + 1 := IntWalk.i64_in _ (by omega)
    have HS : Hid (∀ w' : World, Reg (W0.heap.size) (W0) w' → (Reg (W0.heap.size) (W0) w' ∧ w'.cell? ⟨w.heap.size + 1 + 1, 0, none⟩ = some (.int .i64 p0) ∧ w'.cell? ⟨w.heap.size + 1 + 1, 1, none⟩ = some (.int .i64 p1))) := (fun w' h => by (have hc := h.cells; have hs := h.some; have hf := h.frozen; refine ⟨h, ?_⟩; (try simp only [World.size_alloc, World.size_setCell, size_drew, size_drewN] at hc hs hf); first | (simp (disch := omega) only [hc, hs, hf, cur_iff]; (try go_simp); done) | (simp (disch := first | omega | (simp; done)) only [hc, hs, hf, cur_iff]; (try go_simp); done) | (simp (maxDischargeDepth := 4) [hc, hs, hf, cur_iff, go_sem]; done) | (go_simp; done) | (simp (maxDischargeDepth := 4) [hc, hs, hf, cur_iff, go_sem]; go_simp))); go_region_held3 (fun w' => Reg (W0.heap.size) (W0) w' ∧ w'.cell? ⟨w.heap.size + 1 + 1, 0, none⟩ = some (.int .i64 p0) ∧ w'.cell? ⟨w.heap.size + 1 + 1, 1, none⟩ = some (.int .i64 p1)) (exact HS.out _ (by (repeat first | with_reducible exact Reg.refl _ _ | with_reducible refine Reg.alloc ?_ _ | with_reducible refine Reg.drew ?_))) (first | fail)
    all_goals go_wp2_with fail
    all_goals go_meet
    all_goals exact ⟨_, _, rfl, rfl, by go_simp, by go_simp, by go_simp, by go_simp, (by ((try simp only [World.size_alloc, World.size_setCell, size_drew, size_drewN]); omega)), (by ((try simp only [World.size_alloc, World.size_setCell, size_drew, size_drewN]); omega)), (by omega), (by omega), by (repeat first | with_reducible exact Below.refl _ _ | (with_reducible refine Below.alloc ?_ ?_ _; rotate_left; exact (by first | omega | (simp; done))) | with_reducible refine Below.drew ?_)⟩
  case rest =>
    obtain ⟨y8, y9, rfl, rfl, a0, a1, d0, d1, h8, h9, l8, l9, hb⟩ := hcut
    obtain ⟨W1, hW1⟩ : ∃ x, x = wc := ⟨_, rfl⟩
    subst hW1
    have hz1 := Nat.lt_of_lt_of_le HZ.out hb.size
    have p0d := (FP.out.below hb).at 0 (.int .i64 p0) rfl
    have p1d := (FP.out.below hb).at 1 (.int .i64 p1) rfl
    have hB1 := hB.trans (hb.mono hB.size)
    have E8 := Lib.hid (BoxL.mk2 h8 a0 a1)
    have E9 := Lib.hid (BoxL.mk2 h9 d0 d1)
    have HB1 := Lib.hid hb
    clear hb p0c p1c a0 a1 d0 d1 h8 h9 l8 l9 hz hB
    go_wp2_with fail
    go_cut [10, 11] (fun s t wx => ∃ y x : Nat, s = .pointer (some ⟨y, 0, none⟩) ∧ t = .pointer (some ⟨x, 0, none⟩) ∧ wx.cell? ⟨y, 0, none⟩ = some (.int .i64 (p0 - 1)) ∧ wx.cell? ⟨y, 1, none⟩ = some (.int .i64 (p1)) ∧ wx.cell? ⟨x, 0, none⟩ = some (.int .i64 (p0 + 1)) ∧ wx.cell? ⟨x, 1, none⟩ = some (.int .i64 (p1)) ∧ y < wx.heap.size ∧ x < wx.heap.size ∧ W1.heap.size ≤ y ∧ W1.heap.size ≤ x ∧ Below W1.heap.size W1 wx)
    case first =>
      have v0 : IntKind.i64.wrap (p0 - 1) = p0 - 1 := IntWalk.i64_in _ (by omega)
      have v1 : IntKind.i64.wrap (p0 + 1) = p0 + 1 := IntWalk.i64_in _ (by omega)
      have HS : Hid (∀ w' : World, Reg (W1.heap.size) (W1) w' → (Reg (W1.heap.size) (W1) w' ∧ w'.cell? ⟨w.heap.size + 1 + 1, 0, none⟩ = some (.int .i64 p0) ∧ w'.cell? ⟨w.heap.size + 1 + 1, 1, none⟩ = some (.int .i64 p1))) := (fun w' h => by (have hc := h.cells; have hs := h.some; have hf := h.frozen; refine ⟨h, ?_⟩; (try simp only [World.size_alloc, World.size_setCell, size_drew, size_drewN] at hc hs hf); first | (simp (disch := omega) only [hc, hs, hf, cur_iff]; (try go_simp); done) | (simp (disch := first | omega | (simp; done)) only [hc, hs, hf, cur_iff]; (try go_simp); done) | (simp (maxDischargeDepth := 4) [hc, hs, hf, cur_iff, go_sem]; done) | (go_simp; done) | (simp (maxDischargeDepth := 4) [hc, hs, hf, cur_iff, go_sem]; go_simp))); go_region_held3 (fun w' => Reg (W1.heap.size) (W1) w' ∧ w'.cell? ⟨w.heap.size + 1 + 1, 0, none⟩ = some (.int .i64 p0) ∧ w'.cell? ⟨w.heap.size + 1 + 1, 1, none⟩ = some (.int .i64 p1)) (exact HS.out _ (by (repeat first | with_reducible exact Reg.refl _ _ | with_reducible refine Reg.alloc ?_ _ | with_reducible refine Reg.drew ?_))) (first | fail)
      all_goals go_wp2_with fail
      all_goals go_meet
      all_goals exact ⟨_, _, rfl, rfl, by go_simp, by go_simp, by go_simp, by go_simp, (by ((try simp only [World.size_alloc, World.size_setCell, size_drew, size_drewN]); omega)), (by ((try simp only [World.size_alloc, World.size_setCell, size_drew, size_drewN]); omega)), (by omega), (by omega), by (repeat first | with_reducible exact Below.refl _ _ | (with_reducible refine Below.alloc ?_ ?_ _; rotate_left; exact (by first | omega | (simp; done))) | with_reducible refine Below.drew ?_)⟩
    case rest =>
      obtain ⟨y10, y11, rfl, rfl, a0, a1, d0, d1, h10, h11, l10, l11, hb⟩ := hcut
      have hbb := HB1.out.trans (hb.mono HB1.out.size)
      have m0 := (FM.out.below hbb).at 0 (.string name) rfl
      have m1 := (FM.out.below hbb).at 1 (.slice A la ca) rfl
      have m2 := (FM.out.below hbb).at 2 (.slice B lb cb) rfl
      have m3 := (FM.out.below hbb).at 3 (.slice Cl lc cl) rfl
      have m4 := (FM.out.below hbb).at 4 (.int .i64 r) rfl
      have m5 := (FM.out.below hbb).at 5 (.int .i64 z) rfl
      have m6 := (FM.out.below hbb).at 6 (.int .i64 nr) rfl
      have m7 := (FM.out.below hbb).at 7 (.int .i64 nz) rfl
      have m8 := (FM.out.below hbb).at 8 (.int .i64 step) rfl
      have m9 := (FM.out.below hbb).at 9 (.slice D ld cd) rfl
      have c0 := (FC.out.below hbb).at 0 (.slice A1 na qa) rfl
      have c1 := (FC.out.below hbb).at 1 (.slice B1 nb qb) rfl
      have c2 := (FC.out.below hbb).at 2 (.slice C1 nc qc) rfl
      have e0 := (E8.out.below hb).at 0 (.int .i64 p0) rfl
      have e1 := (E8.out.below hb).at 1 (.int .i64 (p1 - 1)) rfl
      have e2 := (E9.out.below hb).at 0 (.int .i64 p0) rfl
      have e3 := (E9.out.below hb).at 1 (.int .i64 (p1 + 1)) rfl
      have k8 := (E8.out.below hb).1
      have k9 := (E9.out.below hb).1
      have hz2 := Nat.lt_of_lt_of_le hz1 hb.size
      have hz3 : w.heap.size < wc.heap.size := by omega
      have hz4 : w.heap.size + 1 < wc.heap.size := by omega
      have hB2 := hB1.trans (hb.mono hB1.size)
      clear hb hbb p0d p1d E8 E9 HB1 FM FC FP HZ hz1 hB1 l10 l11
      have v0 : IntKind.i64.wrap (f1 - f2) = f1 - f2 := IntWalk.i64_in _ (by omega)
      have v1 : IntKind.i64.wrap (f3 - f4) = f3 - f4 := IntWalk.i64_in _ (by omega)
      go_wp2_with fail
      have HS : Hid (∀ w' : World, Reg (wc.heap.size) (wc) w' → (Reg (wc.heap.size) (wc) w' ∧ w'.cell? ⟨w.heap.size, 0, none⟩ = some (.string name) ∧ w'.cell? ⟨w.heap.size, 1, none⟩ = some (.slice A la ca) ∧ w'.cell? ⟨w.heap.size, 2, none⟩ = some (.slice B lb cb) ∧ w'.cell? ⟨w.heap.size, 3, none⟩ = some (.slice Cl lc cl) ∧ w'.cell? ⟨w.heap.size, 4, none⟩ = some (.int .i64 r) ∧ w'.cell? ⟨w.heap.size, 5, none⟩ = some (.int .i64 z) ∧ w'.cell? ⟨w.heap.size, 6, none⟩ = some (.int .i64 nr) ∧ w'.cell? ⟨w.heap.size, 7, none⟩ = some (.int .i64 nz) ∧ w'.cell? ⟨w.heap.size, 8, none⟩ = some (.int .i64 step) ∧ w'.cell? ⟨w.heap.size, 9, none⟩ = some (.slice D ld cd) ∧ w'.cell? ⟨w.heap.size + 1, 0, none⟩ = some (.slice A1 na qa) ∧ w'.cell? ⟨w.heap.size + 1, 1, none⟩ = some (.slice B1 nb qb) ∧ w'.cell? ⟨w.heap.size + 1, 2, none⟩ = some (.slice C1 nc qc) ∧ w'.cell? ⟨y8, 0, none⟩ = some (.int .i64 p0) ∧ w'.cell? ⟨y8, 1, none⟩ = some (.int .i64 (p1 - 1)) ∧ w'.cell? ⟨y9, 0, none⟩ = some (.int .i64 p0) ∧ w'.cell? ⟨y9, 1, none⟩ = some (.int .i64 (p1 + 1)) ∧ w'.cell? ⟨y10, 0, none⟩ = some (.int .i64 (p0 - 1)) ∧ w'.cell? ⟨y10, 1, none⟩ = some (.int .i64 p1) ∧ w'.cell? ⟨y11, 0, none⟩ = some (.int .i64 (p0 + 1)) ∧ w'.cell? ⟨y11, 1, none⟩ = some (.int .i64 p1))) := (fun w' h => by (have hc := h.cells; have hs := h.some; have hf := h.frozen; refine ⟨h, ?_⟩; (try simp only [World.size_alloc, World.size_setCell, size_drew, size_drewN] at hc hs hf); first | (simp (disch := omega) only [hc, hs, hf, cur_iff]; (try go_simp); done) | (simp (disch := first | omega | (simp; done)) only [hc, hs, hf, cur_iff]; (try go_simp); done) | (simp (maxDischargeDepth := 4) [hc, hs, hf, cur_iff, go_sem]; done) | (go_simp; done) | (simp (maxDischargeDepth := 4) [hc, hs, hf, cur_iff, go_sem]; go_simp))); go_region_held3 (fun w' => Reg (wc.heap.size) (wc) w' ∧ w'.cell? ⟨w.heap.size, 0, none⟩ = some (.string name) ∧ w'.cell? ⟨w.heap.size, 1, none⟩ = some (.slice A la ca) ∧ w'.cell? ⟨w.heap.size, 2, none⟩ = some (.slice B lb cb) ∧ w'.cell? ⟨w.heap.size, 3, none⟩ = some (.slice Cl lc cl) ∧ w'.cell? ⟨w.heap.size, 4, none⟩ = some (.int .i64 r) ∧ w'.cell? ⟨w.heap.size, 5, none⟩ = some (.int .i64 z) ∧ w'.cell? ⟨w.heap.size, 6, none⟩ = some (.int .i64 nr) ∧ w'.cell? ⟨w.heap.size, 7, none⟩ = some (.int .i64 nz) ∧ w'.cell? ⟨w.heap.size, 8, none⟩ = some (.int .i64 step) ∧ w'.cell? ⟨w.heap.size, 9, none⟩ = some (.slice D ld cd) ∧ w'.cell? ⟨w.heap.size + 1, 0, none⟩ = some (.slice A1 na qa) ∧ w'.cell? ⟨w.heap.size + 1, 1, none⟩ = some (.slice B1 nb qb) ∧ w'.cell? ⟨w.heap.size + 1, 2, none⟩ = some (.slice C1 nc qc) ∧ w'.cell? ⟨y8, 0, none⟩ = some (.int .i64 p0) ∧ w'.cell? ⟨y8, 1, none⟩ = some (.int .i64 (p1 - 1)) ∧ w'.cell? ⟨y9, 0, none⟩ = some (.int .i64 p0) ∧ w'.cell? ⟨y9, 1, none⟩ = some (.int .i64 (p1 + 1)) ∧ w'.cell? ⟨y10, 0, none⟩ = some (.int .i64 (p0 - 1)) ∧ w'.cell? ⟨y10, 1, none⟩ = some (.int .i64 p1) ∧ w'.cell? ⟨y11, 0, none⟩ = some (.int .i64 (p0 + 1)) ∧ w'.cell? ⟨y11, 1, none⟩ = some (.int .i64 p1)) (exact HS.out _ (by (repeat first | with_reducible exact Reg.refl _ _ | with_reducible exact (‹Reg _ _ _ ∧ _›).1 | with_reducible refine Reg.drew ?_ | (with_reducible apply Reg.call; rotate_left; with_reducible assumption)))) (first | (go_at_call 33; (with_reducible refine (H1.out _ (Reg.out (‹Reg _ _ _ ∧ _›).1 (by (repeat with_reducible assumption)) (by omega))).mono ?_); rintro e w9 ⟨rfl, hb⟩; (skip); (try simp only [World.size_alloc, World.size_setCell, size_drew, size_drewN] at hk); obtain ⟨hc, hf⟩ := bcell hb; have hs := hb.size; (try simp only [World.size_alloc, World.size_setCell, size_drew, size_drewN] at hs)) | (go_at_call 33; (with_reducible refine (H2.out _ (Reg.out (‹Reg _ _ _ ∧ _›).1 (by (repeat with_reducible assumption)) (by omega))).mono ?_); rintro e w9 ⟨rfl, hb⟩; (skip); (try simp only [World.size_alloc, World.size_setCell, size_drew, size_drewN] at hk); obtain ⟨hc, hf⟩ := bcell hb; have hs := hb.size; (try simp only [World.size_alloc, World.size_setCell, size_drew, size_drewN] at hs)))
      all_goals go_wp2_with fail
      all_goals (have HS : Hid (∀ w' : World, Reg (wc.heap.size) (wc) w' → (Reg (wc.heap.size) (wc) w' ∧ w'.cell? ⟨w.heap.size, 0, none⟩ = some (.string name) ∧ w'.cell? ⟨w.heap.size, 1, none⟩ = some (.slice A la ca) ∧ w'.cell? ⟨w.heap.size, 2, none⟩ = some (.slice B lb cb) ∧ w'.cell? ⟨w.heap.size, 3, none⟩ = some (.slice Cl lc cl) ∧ w'.cell? ⟨w.heap.size, 4, none⟩ = some (.int .i64 r) ∧ w'.cell? ⟨w.heap.size, 5, none⟩ = some (.int .i64 z) ∧ w'.cell? ⟨w.heap.size, 6, none⟩ = some (.int .i64 nr) ∧ w'.cell? ⟨w.heap.size, 7, none⟩ = some (.int .i64 nz) ∧ w'.cell? ⟨w.heap.size, 8, none⟩ = some (.int .i64 step) ∧ w'.cell? ⟨w.heap.size, 9, none⟩ = some (.slice D ld cd) ∧ w'.cell? ⟨w.heap.size + 1, 0, none⟩ = some (.slice A1 na qa) ∧ w'.cell? ⟨w.heap.size + 1, 1, none⟩ = some (.slice B1 nb qb) ∧ w'.cell? ⟨w.heap.size + 1, 2, none⟩ = some (.slice C1 nc qc) ∧ w'.cell? ⟨y8, 0, none⟩ = some (.int .i64 p0) ∧ w'.cell? ⟨y8, 1, none⟩ = some (.int .i64 (p1 - 1)) ∧ w'.cell? ⟨y9, 0, none⟩ = some (.int .i64 p0) ∧ w'.cell? ⟨y9, 1, none⟩ = some (.int .i64 (p1 + 1)) ∧ w'.cell? ⟨y10, 0, none⟩ = some (.int .i64 (p0 - 1)) ∧ w'.cell? ⟨y10, 1, none⟩ = some (.int .i64 p1) ∧ w'.cell? ⟨y11, 0, none⟩ = some (.int .i64 (p0 + 1)) ∧ w'.cell? ⟨y11, 1, none⟩ = some (.int .i64 p1))) := (fun w' h => by (have hc := h.cells; have hs := h.some; have hf := h.frozen; refine ⟨h, ?_⟩; (try simp only [World.size_alloc, World.size_setCell, size_drew, size_drewN] at hc hs hf); first | (simp (disch := omega) only [hc, hs, hf, cur_iff]; (try go_simp); done) | (simp (disch := first | omega | (simp; done)) only [hc, hs, hf, cur_iff]; (try go_simp); done) | (simp (maxDischargeDepth := 4) [hc, hs, hf, cur_iff, go_sem]; done) | (go_simp; done) | (simp (maxDischargeDepth := 4) [hc, hs, hf, cur_iff, go_sem]; go_simp))); go_region_held3 (fun w' => Reg (wc.heap.size) (wc) w' ∧ w'.cell? ⟨w.heap.size, 0, none⟩ = some (.string name) ∧ w'.cell? ⟨w.heap.size, 1, none⟩ = some (.slice A la ca) ∧ w'.cell? ⟨w.heap.size, 2, none⟩ = some (.slice B lb cb) ∧ w'.cell? ⟨w.heap.size, 3, none⟩ = some (.slice Cl lc cl) ∧ w'.cell? ⟨w.heap.size, 4, none⟩ = some (.int .i64 r) ∧ w'.cell? ⟨w.heap.size, 5, none⟩ = some (.int .i64 z) ∧ w'.cell? ⟨w.heap.size, 6, none⟩ = some (.int .i64 nr) ∧ w'.cell? ⟨w.heap.size, 7, none⟩ = some (.int .i64 nz) ∧ w'.cell? ⟨w.heap.size, 8, none⟩ = some (.int .i64 step) ∧ w'.cell? ⟨w.heap.size, 9, none⟩ = some (.slice D ld cd) ∧ w'.cell? ⟨w.heap.size + 1, 0, none⟩ = some (.slice A1 na qa) ∧ w'.cell? ⟨w.heap.size + 1, 1, none⟩ = some (.slice B1 nb qb) ∧ w'.cell? ⟨w.heap.size + 1, 2, none⟩ = some (.slice C1 nc qc) ∧ w'.cell? ⟨y8, 0, none⟩ = some (.int .i64 p0) ∧ w'.cell? ⟨y8, 1, none⟩ = some (.int .i64 (p1 - 1)) ∧ w'.cell? ⟨y9, 0, none⟩ = some (.int .i64 p0) ∧ w'.cell? ⟨y9, 1, none⟩ = some (.int .i64 (p1 + 1)) ∧ w'.cell? ⟨y10, 0, none⟩ = some (.int .i64 (p0 - 1)) ∧ w'.cell? ⟨y10, 1, none⟩ = some (.int .i64 p1) ∧ w'.cell? ⟨y11, 0, none⟩ = some (.int .i64 (p0 + 1)) ∧ w'.cell? ⟨y11, 1, none⟩ = some (.int .i64 p1)) (exact HS.out _ (by (repeat first | with_reducible exact (‹Reg _ _ _ ∧ _›).1 | with_reducible refine Reg.drew ?_ | (with_reducible apply Reg.call; rotate_left; with_reducible assumption)))) (first | (go_at_call 33; (with_reducible refine (H3.out _ (Reg.out (‹Reg _ _ _ ∧ _›).1 (by (repeat with_reducible assumption)) (by omega))).mono ?_); rintro e w9 ⟨rfl, hb⟩; (skip); (try simp only [World.size_alloc, World.size_setCell, size_drew, size_drewN] at hk); obtain ⟨hc, hf⟩ := bcell hb; have hs := hb.size; (try simp only [World.size_alloc, World.size_setCell, size_drew, size_drewN] at hs)) | (go_at_call 33; (with_reducible refine (H4.out _ (Reg.out (‹Reg _ _ _ ∧ _›).1 (by (repeat with_reducible assumption)) (by omega))).mono ?_); rintro e w9 ⟨rfl, hb⟩; (skip); (try simp only [World.size_alloc, World.size_setCell, size_drew, size_drewN] at hk); obtain ⟨hc, hf⟩ := bcell hb; have hs := hb.size; (try simp only [World.size_alloc, World.size_setCell, size_drew, size_drewN] at hs))))
      all_goals go_wp2_with fail
      all_goals go_ret2
      all_goals exact ⟨rfl, (Reg.out (‹Reg _ _ _ ∧ _›).1 (by (repeat with_reducible assumption)) (by omega))⟩
end
end Go.Proofs.YtapldonpflgnfaaDoor
