import Derived.Test.YtapldonpflgnfaaGreatDoorLBD
import Derived.Test.YtapldonpflgnfaaGreatDoorLBH
namespace Go.Proofs.YtapldonpflgnfaaGreatDoor
set_option linter.unusedVariables false
set_option linter.unusedSimpArgs false
section
open Go.RowKit Go.Shelf
def exM : MachD := ⟨⟨#[97]⟩, [], [], [⟨9, 0⟩], ⟨3, 4, 1, 1, 1⟩, [⟨⟨#[115]⟩, 1, 0, 0, 0⟩]⟩
def exC : CurD := ⟨[], [], [2]⟩
theorem exM_ok : checkC exM = 0 := by kernel_rfl
theorem exC_ok : validC exM exC = true := by kernel_rfl
theorem ex_flux : fluxW (0, 0) 0 (cellSrc ⟨3, 4, 1, 1, 1⟩ [2] 1) = 68964 := by kernel_rfl
set_option maxRecDepth 100000 in
set_option maxHeartbeats 8000000 in
theorem read_ex (x y z : Nat) (w : World) (hM : IsM w ⟨none, none, some ⟨x, 0, none⟩, some ⟨y, 0, none⟩, 0, 0, 0, 0, 1, 1, 1, 1⟩ exM) (hC : IsC w ⟨none, none, some ⟨z, 0, none⟩, 0, 0, 0, 0, 1, 1⟩ exC) :
  Calls Tryz.prog 25 #[.agg #[.string ⟨#[97]⟩, .slice none 0 0, .slice none 0 0, .slice (some ⟨x, 0, none⟩) 1 1, .int .i64 3, .int .i64 4, .int .i64 1, .int .i64 1, .int .i64 1, .slice (some ⟨y, 0, none⟩) 1 1], .agg #[.slice none 0 0, .slice none 0 0, .slice (some ⟨z, 0, none⟩) 1 1], .agg #[.int .u32 0, .slice none 0 0, .slice none 0 0], .int .i64 0] w
   fun e w' => ∃ b, e = .returned (.tuple #[.slice (some ⟨b, 0, none⟩) 1 1, .int .i64 0]) ∧ w.heap.size ≤ b ∧ b < w'.heap.size ∧ w'.cell? ⟨b, 0, none⟩ = some (.int .i64 68964) ∧ w'.cell? ⟨b, 1, none⟩ = some (.int .i64 68964) ∧ Below w.heap.size w w' := by
 have HV := Lib.hid (fun W (hb : Below w.heap.size w W) => show Calls Tryz.prog 56 #[.agg #[.string ⟨#[97]⟩, .slice none 0 0, .slice none 0 0, .slice (some ⟨x, 0, none⟩) 1 1, .int .i64 3, .int .i64 4, .int .i64 1, .int .i64 1, .int .i64 1, .slice (some ⟨y, 0, none⟩) 1 1], .agg #[.slice none 0 0, .slice none 0 0, .slice (some ⟨z, 0, none⟩) 1 1]] W (Ret (.bool true) W) from by
  have := validCurrents_any _ _ _ _ W (hM.below hb) (hC.below hb); rw [exC_ok] at this; exact this)
 have HF := Lib.hid (fun W (hb : Below w.heap.size w W) => show Calls Tryz.prog 57 #[.agg #[.string ⟨#[97]⟩, .slice none 0 0, .slice none 0 0, .slice (some ⟨x, 0, none⟩) 1 1, .int .i64 3, .int .i64 4, .int .i64 1, .int .i64 1, .int .i64 1, .slice (some ⟨y, 0, none⟩) 1 1], .slice none 0 0] W (Ret (.bool true) W) from by
  have := validFaults_nil _ _ W (hM.below hb) exM_ok; exact this)
 have HE := Lib.hid (fun W (hb : Below w.heap.size w W) => show Calls Tryz.prog 58 #[.agg #[.string ⟨#[97]⟩, .slice none 0 0, .slice none 0 0, .slice (some ⟨x, 0, none⟩) 1 1, .int .i64 3, .int .i64 4, .int .i64 1, .int .i64 1, .int .i64 1, .slice (some ⟨y, 0, none⟩) 1 1], .agg #[.slice none 0 0, .slice none 0 0, .slice (some ⟨z, 0, none⟩) 1 1], .int .i64 0] W (Ret (.tuple #[.int .i64 68964, .int .i64 0]) W) from by
  have := exact_flux ⟨#[97]⟩ none none (some ⟨x, 0, none⟩) (some ⟨y, 0, none⟩) 0 0 1 1 1 1 ⟨3, 4, 1, 1, 1⟩ [⟨9, 0⟩] [⟨⟨#[115]⟩, 1, 0, 0, 0⟩] none none (some ⟨z, 0, none⟩) 0 0 0 0 1 1 [] [] [2] 0 ⟨⟨#[115]⟩, 1, 0, 0, 0⟩ W (hM.below hb) (hC.below hb) exC_ok rfl rfl
  rw [ex_flux] at this; exact this)
 have HY : Hid (y < w.heap.size ∧ w.cell? ⟨y, 0, none⟩ = some (.string ⟨#[115]⟩) ∧ w.cell? ⟨y, 1, none⟩ = some (.int .i64 1) ∧ w.cell? ⟨y, 2, none⟩ = some (.int .i64 0) ∧ w.cell? ⟨y, 3, none⟩ = some (.int .i64 0) ∧ w.cell? ⟨y, 4, none⟩ = some (.int .i64 0)) := by
  obtain ⟨b, o, hD, hb0, hcl⟩ := hM.sensors.2 (show 0 < 1 by omega)
  dsimp only at hD
  injection hD with hD
  injection hD with h1 h2 _
  subst h1
  subst h2
  have c0 := hcl 0 ⟨⟨#[115]⟩, 1, 0, 0, 0⟩ rfl 0 _ rfl
  have c1 := hcl 0 ⟨⟨#[115]⟩, 1, 0, 0, 0⟩ rfl 1 _ rfl
  have c2 := hcl 0 ⟨⟨#[115]⟩, 1, 0, 0, 0⟩ rfl 2 _ rfl
  have c3 := hcl 0 ⟨⟨#[115]⟩, 1, 0, 0, 0⟩ rfl 3 _ rfl
  have c4 := hcl 0 ⟨⟨#[115]⟩, 1, 0, 0, 0⟩ rfl 4 _ rfl
  exact Lib.hid ⟨hb0, by simpa using c0, by simpa using c1, by simpa using c2, by simpa using c3, by simpa using c4⟩
 clear hM hC
 have wt : wthn 0 0 1000000000 = true := by decide
 have hmk : ∀ w, (Instr.makeSlice 33 (.int .i64 1) (.int .i64 1)).run Tryz.prog w = .ok (.slice (some ⟨w.heap.size, 0, none⟩) 1 1) (w.alloc (.cells #[.int .i64 0, .int .i64 0] 41)) := fun _ => by kernel_rfl
 have hmk : ∀ w, (Instr.makeSlice 33 (.int .i64 1) (.int .i64 1)).run Tryz.prog w = .ok (.slice (some ⟨w.heap.size, 0, none⟩) 1 1) (w.alloc (.cells #[.int .i64 0, .int .i64 0] 41)) := fun _ => by kernel_rfl
 have hmk : ∀ w, (Instr.makeSlice 33 (.int .i64 1) (.int .i64 1)).run Tryz.prog w = .ok (.slice (some ⟨w.heap.size, 0, none⟩) 1 1) (w.alloc (.cells #[.int .i64 0, .int .i64 0] 41)) := fun _ => by kernel_rfl
 have hmk : ∀ w, (Instr.makeSlice 33 (.int .i64 1) (.int .i64 1)).run Tryz.prog w = .ok (.slice (some ⟨w.heap.size, 0, none⟩) 1 1) (w.alloc (.cells #[.int .i64 0, .int .i64 0] 41)) := fun _ => by kernel_rfl
 have hmk : ∀ w, (Instr.makeSlice 33 (.int .i64 1) (.int .i64 1)).run Tryz.prog w = .ok (.slice (some ⟨w.heap.size, 0, none⟩) 1 1) (w.alloc (.cells #[.int .i64 0, .int .i64 0] 41)) := fun _ => by kernel_rfl
 have hmk : ∀ w, (Instr.makeSlice 33 (.int .i64 1) (.int .i64 1)).run Tryz.prog w = .ok (.slice (some ⟨w.heap.size, 0, none⟩) 1 1) (w.alloc (.cells #[.int .i64 0, .int .i64 0] 41)) := fun _ => by kernel_rfl
 have hmk : ∀ w, (Instr.makeSlice 33 (.int .i64 1) (.int .i64 1)).run Tryz.prog w = .ok (.slice (some ⟨w.heap.size, 0, none⟩) 1 1) (w.alloc (.cells #[.int .i64 0, .int .i64 0] 41)) := fun _ => by kernel_rfl
 have hmk : ∀ w, (Instr.makeSlice 33 (.int .i64 1) (.int .i64 1)).run Tryz.prog w = .ok (.slice (some ⟨w.heap.size, 0, none⟩) 1 1) (w.alloc (.cells #[.int .i64 0, .int .i64 0] 41)) := fun _ => by kernel_rfl
 go_enter Tryz.func25, Tryz.ntmps25
 go_wp2_with (first | (go_at_call 56; refine (HV.out _ (by (repeat first | with_reducible exact Below.refl _ _ | (with_reducible refine Below.alloc ?_ ?_ _; rotate_left; exact (by first | omega | (simp; done) | (simp; omega)))))).mono ?_; rintro e w1 ⟨rfl, hb⟩; have hB : Below w.heap.size w w1 := Below.trans (by (repeat first | with_reducible exact Below.refl _ _ | (with_reducible refine Below.alloc ?_ ?_ _; rotate_left; exact (by first | omega | (simp; done) | (simp; omega))))) (hb.mono (by (simp; omega))); obtain ⟨hc, hf⟩ := bcell hb; have hs := hb.size; clear hb; (try simp only [World.size_alloc, World.size_setCell] at hc hf); (try simp only [World.size_alloc, World.size_setCell] at hs); (try have hs' := Nat.lt_of_succ_le hs); (try have hs0 : w.heap.size < w1.heap.size := by omega); (try have hs1 : w.heap.size + 1 < w1.heap.size := by omega); (try have hs2 : w.heap.size + 1 + 1 < w1.heap.size := by omega); (try have hs3 : w.heap.size + 1 + 1 + 1 < w1.heap.size := by omega)) | (go_at_call 57; refine (HF.out _ (by (repeat with_reducible assumption))).mono ?_; rintro e w1 ⟨rfl, hb⟩; have hB : Below w.heap.size w w1 := Below.trans (by (repeat with_reducible assumption)) (hb.mono (by omega)); obtain ⟨hc, hf⟩ := bcell hb; have hs := hb.size; clear hb; (try simp only [World.size_alloc, World.size_setCell] at hc hf); (try simp only [World.size_alloc, World.size_setCell] at hs); (try have hs' := Nat.lt_of_succ_le hs); (try have hs0 : w.heap.size < w1.heap.size := by omega); (try have hs1 : w.heap.size + 1 < w1.heap.size := by omega); (try have hs2 : w.heap.size + 1 + 1 < w1.heap.size := by omega); (try have hs3 : w.heap.size + 1 + 1 + 1 < w1.heap.size := by omega)) | (go_at_call 37; refine (swithin_any _ _ _ _).mono ?_; rintro e w1 ⟨rfl, rfl⟩))
 clear hmk
 obtain ⟨X, hX⟩ : ∃ X, w1.heap.size = X := ⟨_, rfl⟩
 have hX0 : w.heap.size + 1 + 1 < X := by omega
 rw [hX]
 have HX := Lib.hid hX
 clear hX
 go_loopw [11, 12, 13, 14, 36] (fun _ _ _ _ i wr => (i = .int .i64 0 ∧ (wr.cell? ⟨w.heap.size, 0, none⟩ = some (.string ⟨#[97]⟩) ∧ wr.cell? ⟨w.heap.size, 1, none⟩ = some (.slice none 0 0) ∧ wr.cell? ⟨w.heap.size, 2, none⟩ = some (.slice none 0 0) ∧ wr.cell? ⟨w.heap.size, 3, none⟩ = some (.slice (some ⟨x, 0, none⟩) 1 1) ∧ wr.cell? ⟨w.heap.size, 4, none⟩ = some (.int .i64 3) ∧ wr.cell? ⟨w.heap.size, 5, none⟩ = some (.int .i64 4) ∧ wr.cell? ⟨w.heap.size, 6, none⟩ = some (.int .i64 1) ∧ wr.cell? ⟨w.heap.size, 7, none⟩ = some (.int .i64 1) ∧ wr.cell? ⟨w.heap.size, 8, none⟩ = some (.int .i64 1) ∧ wr.cell? ⟨w.heap.size, 9, none⟩ = some (.slice (some ⟨y, 0, none⟩) 1 1) ∧ wr.cell? ⟨w.heap.size + 1, 0, none⟩ = some (.slice none 0 0) ∧ wr.cell? ⟨w.heap.size + 1, 1, none⟩ = some (.slice none 0 0) ∧ wr.cell? ⟨w.heap.size + 1, 2, none⟩ = some (.slice (some ⟨z, 0, none⟩) 1 1) ∧ wr.cell? ⟨w.heap.size + 1 + 1, 0, none⟩ = some (.int .u32 0) ∧ wr.cell? ⟨w.heap.size + 1 + 1, 1, none⟩ = some (.slice none 0 0)) ∧ Below w.heap.size w wr ∧ X < wr.heap.size ∧ ((wr).cell? ⟨X, 0, none⟩ = some (cur (wr) ⟨X, 0, none⟩) ∧ (wr).frozen? ⟨X, 0, none⟩ = false) ∧ ((wr).cell? ⟨X, 1, none⟩ = some (cur (wr) ⟨X, 1, none⟩) ∧ (wr).frozen? ⟨X, 1, none⟩ = false)) ∨ (i = .int .i64 1 ∧ Below w.heap.size w wr ∧ X < wr.heap.size ∧ wr.cell? ⟨X, 0, none⟩ = some (.int .i64 68964) ∧ wr.cell? ⟨X, 1, none⟩ = some (.int .i64 68964))) (fun _ _ _ _ i _ => 1 - (intOf i).toNat)
 case atStart =>
  have hX := HX.out
  subst hX
  exact .inl ⟨rfl, ⟨by go_simp, by go_simp, by go_simp, by go_simp, by go_simp, by go_simp, by go_simp, by go_simp, by go_simp, by go_simp, by go_simp, by go_simp, by go_simp, by go_simp, by go_simp⟩, by (repeat first | with_reducible assumption | (with_reducible refine Below.alloc ?_ ?_ _; rotate_left; exact (by omega))), (by ((try simp only [World.size_alloc, World.size_setCell, size_drew, size_drewN]); omega)), ⟨by simp only [cur_iff]; go_simp, by go_simp⟩, ⟨by simp only [cur_iff]; go_simp, by go_simp⟩⟩
 case round =>
  rcases hrel with ⟨rfl, ⟨m0, m1, m2, m3, m4, m5, m6, m7, m8, m9, c0, c1, c2, s0, s1⟩, hB', hXs, ⟨k0, q0⟩, ⟨k1, q1⟩⟩ | ⟨rfl, hB', hXs, v0, v1⟩
  ·obtain ⟨y0, Y0, Y1, Y2, Y3, Y4⟩ := HY.out
   have z0 := (hB'.cell (p := ⟨y, 0, none⟩) y0).trans Y0
   have z1 := (hB'.cell (p := ⟨y, 1, none⟩) y0).trans Y1
   have z2 := (hB'.cell (p := ⟨y, 2, none⟩) y0).trans Y2
   have z3 := (hB'.cell (p := ⟨y, 3, none⟩) y0).trans Y3
   have z4 := (hB'.cell (p := ⟨y, 4, none⟩) y0).trans Y4
   have g0 : w.heap.size < wr.heap.size := by omega
   have g1 : w.heap.size + 1 < wr.heap.size := by omega
   have g2 : w.heap.size + 1 + 1 < wr.heap.size := by omega
   clear Y0 Y1 Y2 Y3 Y4
   go_upto_region 11 with (first | (go_at_call 58; refine (HE.out _ (by (repeat first | with_reducible assumption | (with_reducible refine Below.alloc ?_ ?_ _; rotate_left; exact (by omega))))).mono ?_; rintro e w2 ⟨rfl, hb⟩; have hB2 : Below w.heap.size w w2 := Below.trans (by (repeat first | with_reducible assumption | (with_reducible refine Below.alloc ?_ ?_ _; rotate_left; exact (by omega)))) (hb.mono (by ((try simp only [World.size_alloc, World.size_setCell, size_drew, size_drewN]); omega))); obtain ⟨hc2, hf2⟩ := bcell hb; have hs2 := hb.size; (try simp only [World.size_alloc, World.size_setCell] at hc2 hf2 hs2); have X0 : (w2.cell? ⟨X, 0, none⟩).isSome = true := (by rw [hc2 X 0 (by omega)]; go_simp); have X1 : (w2.cell? ⟨X, 1, none⟩).isSome = true := (by rw [hc2 X 1 (by omega)]; go_simp); have Q0 : w2.frozen? ⟨X, 0, none⟩ = false := (by rw [hf2 X 0 (by omega)]; go_simp); have Q1 : w2.frozen? ⟨X, 1, none⟩ = false := (by rw [hf2 X 1 (by omega)]; go_simp); have S0 : w2.cell? ⟨w.heap.size + 1 + 1, 0, none⟩ = some (.int .u32 0) := (by rw [hc2 _ _ (by omega)]; go_simp); have S1 : w2.cell? ⟨w.heap.size + 1 + 1, 1, none⟩ = some (.slice none 0 0) := (by rw [hc2 _ _ (by omega)]; go_simp); have E4 : w2.cell? ⟨wr.heap.size, 4, none⟩ = some (.int .i64 0) := (by rw [hc2 _ _ (by omega)]; go_simp); clear hc2 hf2 hb) | (go_at_call 59; refine (faulty_nil _ _ _ _).mono ?_; rintro e w3 ⟨rfl, rfl⟩))
   go_cut [13] (fun s13 wx => s13 = .int .i64 68964 ∧ Below w.heap.size w wx ∧ X < wx.heap.size ∧ wx.cell? ⟨X, 0, none⟩ = some (cur wx ⟨X, 0, none⟩) ∧ wx.cell? ⟨X, 1, none⟩ = some (cur wx ⟨X, 1, none⟩) ∧ wx.frozen? ⟨X, 0, none⟩ = false ∧ wx.frozen? ⟨X, 1, none⟩ = false ∧ wx.cell? ⟨wr.heap.size, 4, none⟩ = some (.int .i64 0))
   case first =>
    have r1 : (0 : Int).tmod 1 = 0 := by decide
    have r2 : ((1 : Int) == 0) = false := by decide
    have r3 : ¬(1 : Int) = 0 := by decide
    have r4 : IntKind.i64.wrap 0 = 0 := by decide
    have r5 : IntKind.i64.wrap 1 = 1 := by decide
    have r6 : IntKind.i64.wrap 68964 = 68964 := by decide
    have HS : Hid (∀ w' : World, Reg (w2.heap.size) (w2) w' → (Reg (w2.heap.size) (w2) w' ∧ w'.cell? ⟨w.heap.size + 1 + 1, 0, none⟩ = some (.int .u32 0) ∧ w'.cell? ⟨wr.heap.size, 4, none⟩ = some (.int .i64 0))) := (fun w' h => by (have hc := h.cells; have hs := h.some; have hf := h.frozen; refine ⟨h, ?_⟩; (try simp only [World.size_alloc, World.size_setCell, size_drew, size_drewN] at hc hs hf); first | (simp (disch := omega) only [hc, hs, hf, cur_iff]; (try go_simp); done) | (simp (disch := first | omega | (simp; done)) only [hc, hs, hf, cur_iff]; (try go_simp); done) | (simp (maxDischargeDepth := 4) [hc, hs, hf, cur_iff, go_sem]; done) | (go_simp; done) | (simp (maxDischargeDepth := 4) [hc, hs, hf, cur_iff, go_sem]; go_simp))); go_region_held3 (fun w' => Reg (w2.heap.size) (w2) w' ∧ w'.cell? ⟨w.heap.size + 1 + 1, 0, none⟩ = some (.int .u32 0) ∧ w'.cell? ⟨wr.heap.size, 4, none⟩ = some (.int .i64 0)) (exact HS.out _ (by (repeat first | with_reducible exact Reg.refl _ _ | with_reducible exact (‹Reg _ _ _ ∧ _›).1 | with_reducible refine Reg.drew ?_))) ((go_at_call 60; refine (mix_zero _).mono ?_; rintro e w4 ⟨rfl, rfl⟩))
    all_goals go_wp2_with fail
    all_goals go_meet
    all_goals
     have hH := ‹Reg _ _ _ ∧ _›
     refine ⟨rfl, Reg.out hH.1 hB2 (by omega), Nat.lt_of_lt_of_le (by omega) hH.1.size, (by rw [cur_iff]; exact (hH.1.some _ _ (by omega)).trans X0), (by rw [cur_iff]; exact (hH.1.some _ _ (by omega)).trans X1), (hH.1.frozen _ _ (by omega)).trans Q0, (hH.1.frozen _ _ (by omega)).trans Q1, hH.2.2⟩
   case rest =>
    obtain ⟨rfl, hB3, hX3, x0, x1, f0, f1, e4⟩ := hcut
    go_wp2_with fail
    go_roundw
    case rel => exact .inr ⟨rfl, by (repeat first | with_reducible assumption | (with_reducible refine Below.setCell ?_ ?_ _; rotate_left; exact (by (simp; omega)))), (by ((try simp only [World.size_alloc, World.size_setCell, size_drew, size_drewN]); omega)), by go_simp, by go_simp⟩
    case measure => simp [intOf]
  ·go_wp2_with fail
   go_ret2
   exact ⟨X, rfl, by omega, hXs, v0, v1, hB'⟩
end
section
open Go.RowKit
set_option maxHeartbeats 2000000 in
theorem gains_pos (v lo hi : Int) (w : World) (hv : 0 < v) (v2 : v ≤ 1000000000000000) (l1 : -1000000000000000 ≤ lo) (l2 : lo ≤ 1000000000000000) (h1 : -1000000000000000 ≤ hi) (h2 : hi ≤ 1000000000000000) :
  Calls Tryz.prog 62 #[Pr (v, lo, hi)] w (Ret (Sp (flo (lo * 1000) v) (cei (hi * 1000) v)) w) := by
 have e1 : IntKind.i64.wrap (lo * 1000) = lo * 1000 := IntWalk.i64_in _ (by omega)
 have e2 : IntKind.i64.wrap (hi * 1000) = hi * 1000 := IntWalk.i64_in _ (by omega)
 have HD := Lib.hid (fun W => down_any (lo * 1000) v W (by omega) (by omega) (by omega) (by omega) (by omega))
 have HU := Lib.hid (fun W => up_any (hi * 1000) v W (by omega) (by omega) (by omega) (by omega) (by omega))
 go_enter Tryz.func62, Tryz.ntmps62
 go_upto_region 1 with fail
 go_cut [3, 4] (fun s3 s4 wx => s3 = .int .i64 (lo * 1000) ∧ s4 = .int .i64 (hi * 1000) ∧ wx.cell? ⟨w.heap.size, 0, none⟩ = some (.int .i64 v) ∧ w.heap.size + 1 < wx.heap.size ∧ Below w.heap.size w wx ∧ (wx).cell? ⟨w.heap.size + 1, 0, none⟩ = some (cur (wx) ⟨w.heap.size + 1, 0, none⟩) ∧ (wx).frozen? ⟨w.heap.size + 1, 0, none⟩ = false ∧ (wx).cell? ⟨w.heap.size + 1, 1, none⟩ = some (cur (wx) ⟨w.heap.size + 1, 1, none⟩) ∧ (wx).frozen? ⟨w.heap.size + 1, 1, none⟩ = false)
 case first =>
  go_quiet (fail)
  go_wp2_with fail
  go_meet
  exact ⟨rfl, rfl, (by go_simp), (by ((try simp only [World.size_alloc, World.size_setCell, size_drew, size_drewN]); omega)), (by (repeat first | with_reducible exact Below.refl _ _ | (with_reducible refine Below.alloc ?_ ?_ _; rotate_left; exact (by first | omega | (simp; done))) | with_reducible refine Below_drewN ?_ _)), (by simp only [cur_iff]; go_simp), (by go_simp), (by simp only [cur_iff]; go_simp), (by go_simp)⟩
 case rest =>
  obtain ⟨rfl, rfl, c0, hs, hB, k0, q0, k1, q1⟩ := hcut
  clear e1 e2
  generalize lo * 1000 = L at *
  generalize hi * 1000 = U at *
  go_wp2_with fail
  have HS : Hid (∀ w' : World, Reg (w.heap.size + 1) (wc) w' → (Reg (w.heap.size + 1) (wc) w' ∧ w'.cell? ⟨w.heap.size, 0, none⟩ = some (.int .i64 v))) := (fun w' h => by (have hc := h.cells; have hs := h.some; have hf := h.frozen; refine ⟨h, ?_⟩; (try simp only [World.size_alloc, World.size_setCell, size_drew, size_drewN] at hc hs hf); first | (simp (disch := omega) only [hc, hs, hf, cur_iff]; (try go_simp); done) | (simp (disch := first | omega | (simp; done)) only [hc, hs, hf, cur_iff]; (try go_simp); done) | (simp (maxDischargeDepth := 4) [hc, hs, hf, cur_iff, go_sem]; done) | (go_simp; done) | (simp (maxDischargeDepth := 4) [hc, hs, hf, cur_iff, go_sem]; go_simp))); go_region_held3 (fun w' => Reg (w.heap.size + 1) (wc) w' ∧ w'.cell? ⟨w.heap.size, 0, none⟩ = some (.int .i64 v)) (exact HS.out _ (by (repeat first | with_reducible exact Reg.refl _ _ | with_reducible exact (‹Reg _ _ _ ∧ _›).1 | (with_reducible refine Reg.setCell ?_ ?_ _; rotate_left; exact (by (simp; done))) | with_reducible refine Reg.drew ?_))) (first | (go_at_call 69; refine (HD.out _).mono ?_; rintro e w1 ⟨rfl, rfl⟩) | (go_at_call 68; refine (HU.out _).mono ?_; rintro e w1 ⟨rfl, rfl⟩))
  all_goals go_wp2_with fail
  all_goals exact bodyPost_ret (resF Tryz.results62 _ _ _ _ _ rfl (by (try simp only [isSome_setCell]); first | assumption | go_simp) (by (try simp only [isSome_setCell]); first | assumption | go_simp)) rfl ⟨rfl, by (repeat first | with_reducible assumption | (with_reducible refine Below.setCell ?_ ?_ _; rotate_left; exact (by (simp; done))) | with_reducible refine Below.drew ?_)⟩
end
section
open Go.RowKit
set_option maxHeartbeats 2000000 in
theorem gains_neg (v lo hi : Int) (w : World) (hv : v < 0) (v2 : -1000000000000000 ≤ v) (l1 : -1000000000000000 ≤ lo) (l2 : lo ≤ 1000000000000000) (h1 : -1000000000000000 ≤ hi) (h2 : hi ≤ 1000000000000000) :
  Calls Tryz.prog 62 #[Pr (v, lo, hi)] w (Ret (Sp (flo (hi * 1000) v) (cei (lo * 1000) v)) w) := by
 have e1 : IntKind.i64.wrap (lo * 1000) = lo * 1000 := IntWalk.i64_in _ (by omega)
 have e2 : IntKind.i64.wrap (hi * 1000) = hi * 1000 := IntWalk.i64_in _ (by omega)
 have HD := Lib.hid (fun W => down_any (hi * 1000) v W (by omega) (by omega) (by omega) (by omega) (by omega))
 have HU := Lib.hid (fun W => up_any (lo * 1000) v W (by omega) (by omega) (by omega) (by omega) (by omega))
 go_enter Tryz.func62, Tryz.ntmps62
 go_upto_region 1 with fail
 go_cut [3, 4] (fun s3 s4 wx => s3 = .int .i64 (lo * 1000) ∧ s4 = .int .i64 (hi * 1000) ∧ wx.cell? ⟨w.heap.size, 0, none⟩ = some (.int .i64 v) ∧ w.heap.size + 1 < wx.heap.size ∧ Below w.heap.size w wx ∧ (wx).cell? ⟨w.heap.size + 1, 0, none⟩ = some (cur (wx) ⟨w.heap.size + 1, 0, none⟩) ∧ (wx).frozen? ⟨w.heap.size + 1, 0, none⟩ = false ∧ (wx).cell? ⟨w.heap.size + 1, 1, none⟩ = some (cur (wx) ⟨w.heap.size + 1, 1, none⟩) ∧ (wx).frozen? ⟨w.heap.size + 1, 1, none⟩ = false)
 case first =>
  go_quiet (fail)
  go_wp2_with fail
  go_meet
  exact ⟨rfl, rfl, (by go_simp), (by ((try simp only [World.size_alloc, World.size_setCell, size_drew, size_drewN]); omega)), (by (repeat first | with_reducible exact Below.refl _ _ | (with_reducible refine Below.alloc ?_ ?_ _; rotate_left; exact (by first | omega | (simp; done))) | with_reducible refine Below_drewN ?_ _)), (by simp only [cur_iff]; go_simp), (by go_simp), (by simp only [cur_iff]; go_simp), (by go_simp)⟩
 case rest =>
  obtain ⟨rfl, rfl, c0, hs, hB, k0, q0, k1, q1⟩ := hcut
  clear e1 e2
  generalize lo * 1000 = L at *
  generalize hi * 1000 = U at *
  go_wp2_with fail
  have HS : Hid (∀ w' : World, Reg (w.heap.size + 1) (wc) w' → (Reg (w.heap.size + 1) (wc) w' ∧ w'.cell? ⟨w.heap.size, 0, none⟩ = some (.int .i64 v))) := (fun w' h => by (have hc := h.cells; have hs := h.some; have hf := h.frozen; refine ⟨h, ?_⟩; (try simp only [World.size_alloc, World.size_setCell, size_drew, size_drewN] at hc hs hf); first | (simp (disch := omega) only [hc, hs, hf, cur_iff]; (try go_simp); done) | (simp (disch := first | omega | (simp; done)) only [hc, hs, hf, cur_iff]; (try go_simp); done) | (simp (maxDischargeDepth := 4) [hc, hs, hf, cur_iff, go_sem]; done) | (go_simp; done) | (simp (maxDischargeDepth := 4) [hc, hs, hf, cur_iff, go_sem]; go_simp))); go_region_held3 (fun w' => Reg (w.heap.size + 1) (wc) w' ∧ w'.cell? ⟨w.heap.size, 0, none⟩ = some (.int .i64 v)) (exact HS.out _ (by (repeat first | with_reducible exact Reg.refl _ _ | with_reducible exact (‹Reg _ _ _ ∧ _›).1 | (with_reducible refine Reg.setCell ?_ ?_ _; rotate_left; exact (by (simp; done))) | with_reducible refine Reg.drew ?_))) (first | (go_at_call 69; refine (HD.out _).mono ?_; rintro e w1 ⟨rfl, rfl⟩) | (go_at_call 68; refine (HU.out _).mono ?_; rintro e w1 ⟨rfl, rfl⟩))
  all_goals go_wp2_with fail
  all_goals exact bodyPost_ret (resF Tryz.results62 _ _ _ _ _ rfl (by (try simp only [isSome_setCell]); first | assumption | go_simp) (by (try simp only [isSome_setCell]); first | assumption | go_simp)) rfl ⟨rfl, by (repeat first | with_reducible assumption | (with_reducible refine Below.setCell ?_ ?_ _; rotate_left; exact (by (simp; done))) | with_reducible refine Below.drew ?_)⟩
end
section
open Go.RowKit
set_option maxHeartbeats 2000000 in
theorem gains_zero (lo hi a b : Int) (w : World) (hg : (cont lo hi 0 = true ∧ a = -1000000000 ∧ b = 1000000000) ∨ (cont lo hi 0 = false ∧ a = 1 ∧ b = 0)) (l1 : -1000000000000000 ≤ lo) (l2 : lo ≤ 1000000000000000) (h1 : -1000000000000000 ≤ hi) (h2 : hi ≤ 1000000000000000) :
  Calls Tryz.prog 62 #[Pr (0, lo, hi)] w (Ret (Sp a b) w) := by
 have e1 : IntKind.i64.wrap (lo * 1000) = lo * 1000 := IntWalk.i64_in _ (by omega)
 have e2 : IntKind.i64.wrap (hi * 1000) = hi * 1000 := IntWalk.i64_in _ (by omega)
 go_enter Tryz.func62, Tryz.ntmps62
 go_upto_region 1 with fail
 go_cut [] (fun wx => wx.cell? ⟨w.heap.size, 0, none⟩ = some (.int .i64 0) ∧ wx.cell? ⟨w.heap.size, 1, none⟩ = some (.int .i64 lo) ∧ wx.cell? ⟨w.heap.size, 2, none⟩ = some (.int .i64 hi) ∧ w.heap.size + 1 < wx.heap.size ∧ Below w.heap.size w wx ∧ (wx).cell? ⟨w.heap.size + 1, 0, none⟩ = some (cur (wx) ⟨w.heap.size + 1, 0, none⟩) ∧ (wx).frozen? ⟨w.heap.size + 1, 0, none⟩ = false ∧ (wx).cell? ⟨w.heap.size + 1, 1, none⟩ = some (cur (wx) ⟨w.heap.size + 1, 1, none⟩) ∧ (wx).frozen? ⟨w.heap.size + 1, 1, none⟩ = false)
 case first =>
  go_quiet (fail)
  go_wp2_with fail
  go_meet
  exact ⟨(by go_simp), (by go_simp), (by go_simp), (by ((try simp only [World.size_alloc, World.size_setCell, size_drew, size_drewN]); omega)), (by (repeat first | with_reducible exact Below.refl _ _ | (with_reducible refine Below.alloc ?_ ?_ _; rotate_left; exact (by first | omega | (simp; done))) | with_reducible refine Below_drewN ?_ _)), (by simp only [cur_iff]; go_simp), (by go_simp), (by simp only [cur_iff]; go_simp), (by go_simp)⟩
 case rest =>
  obtain ⟨c0, c1, c2, hs, hB, k0, q0, k1, q1⟩ := hcut
  clear e1 e2
  rcases hg with ⟨hc, rfl, rfl⟩ | ⟨hc, rfl, rfl⟩
  ·go_wp2_with (first | (go_at_call 70; refine (contains_any _ _ _ _).mono ?_; rintro e w1 ⟨rfl, hb⟩; have hB : Below w.heap.size w w1 := Below.trans (by (repeat with_reducible assumption)) (hb.mono (by omega)); obtain ⟨hc, hf⟩ := bcell hb; have hs := hb.size; clear hb; (try simp only [World.size_alloc, World.size_setCell] at hc hf); (try simp only [World.size_alloc, World.size_setCell] at hs); (try have hs' := Nat.lt_of_succ_le hs); (try have hs0 : w.heap.size < w1.heap.size := by omega); (try have hs1 : w.heap.size + 1 < w1.heap.size := by omega); (try have hs2 : w.heap.size + 1 + 1 < w1.heap.size := by omega); (try have hs3 : w.heap.size + 1 + 1 + 1 < w1.heap.size := by omega); (try have iso : (w1.cell? ⟨w.heap.size, 0, none⟩).isSome = true := by (rw [hc _ _ (by omega)]; (try simp only [isSome_setCell]); first | assumption | go_simp)); (try have iso : (w1.cell? ⟨w.heap.size, 1, none⟩).isSome = true := by (rw [hc _ _ (by omega)]; (try simp only [isSome_setCell]); first | assumption | go_simp)); (try have iso : (w1.cell? ⟨w.heap.size + 1, 0, none⟩).isSome = true := by (rw [hc _ _ (by omega)]; (try simp only [isSome_setCell]); first | assumption | go_simp)); (try have iso : (w1.cell? ⟨w.heap.size + 1, 1, none⟩).isSome = true := by (rw [hc _ _ (by omega)]; (try simp only [isSome_setCell]); first | assumption | go_simp)); (try have iso : (w1.cell? ⟨w.heap.size + 1 + 1, 0, none⟩).isSome = true := by (rw [hc _ _ (by first | omega | (simp; done) | (simp; omega))]; (try simp only [isSome_setCell]); first | assumption | go_simp)); (try have iso : (w1.cell? ⟨w.heap.size + 1 + 1, 1, none⟩).isSome = true := by (rw [hc _ _ (by first | omega | (simp; done) | (simp; omega))]; (try simp only [isSome_setCell]); first | assumption | go_simp))) | (go_at_call 105; refine (everyGain_any _).mono ?_; rintro e w1 ⟨rfl, hb⟩; have hB : Below w.heap.size w w1 := Below.trans (by (repeat with_reducible assumption)) (hb.mono (by omega)); obtain ⟨hc, hf⟩ := bcell hb; have hs := hb.size; clear hb; (try simp only [World.size_alloc, World.size_setCell] at hc hf); (try simp only [World.size_alloc, World.size_setCell] at hs); (try have hs' := Nat.lt_of_succ_le hs); (try have hs0 : w.heap.size < w1.heap.size := by omega); (try have hs1 : w.heap.size + 1 < w1.heap.size := by omega); (try have hs2 : w.heap.size + 1 + 1 < w1.heap.size := by omega); (try have hs3 : w.heap.size + 1 + 1 + 1 < w1.heap.size := by omega); (try have iso : (w1.cell? ⟨w.heap.size, 0, none⟩).isSome = true := by (rw [hc _ _ (by omega)]; (try simp only [isSome_setCell]); first | assumption | go_simp)); (try have iso : (w1.cell? ⟨w.heap.size, 1, none⟩).isSome = true := by (rw [hc _ _ (by omega)]; (try simp only [isSome_setCell]); first | assumption | go_simp)); (try have iso : (w1.cell? ⟨w.heap.size + 1, 0, none⟩).isSome = true := by (rw [hc _ _ (by omega)]; (try simp only [isSome_setCell]); first | assumption | go_simp)); (try have iso : (w1.cell? ⟨w.heap.size + 1, 1, none⟩).isSome = true := by (rw [hc _ _ (by omega)]; (try simp only [isSome_setCell]); first | assumption | go_simp)); (try have iso : (w1.cell? ⟨w.heap.size + 1 + 1, 0, none⟩).isSome = true := by (rw [hc _ _ (by first | omega | (simp; done) | (simp; omega))]; (try simp only [isSome_setCell]); first | assumption | go_simp)); (try have iso : (w1.cell? ⟨w.heap.size + 1 + 1, 1, none⟩).isSome = true := by (rw [hc _ _ (by first | omega | (simp; done) | (simp; omega))]; (try simp only [isSome_setCell]); first | assumption | go_simp))))
   exact bodyPost_ret (resS Tryz.results62 _ _ _ _ _ rfl (by (try simp only [isSome_setCell]); first | assumption | go_simp) (by (try simp only [isSome_setCell]); first | assumption | go_simp)) rfl ⟨rfl, by (repeat first | with_reducible assumption | (with_reducible refine Below.setCell ?_ ?_ _; rotate_left; exact (by (simp; done))))⟩
  ·go_wp2_with (go_at_call 70; refine (contains_any _ _ _ _).mono ?_; rintro e w1 ⟨rfl, hb⟩; have hB : Below w.heap.size w w1 := Below.trans (by (repeat with_reducible assumption)) (hb.mono (by omega)); obtain ⟨hc, hf⟩ := bcell hb; have hs := hb.size; clear hb; (try simp only [World.size_alloc, World.size_setCell] at hc hf); (try simp only [World.size_alloc, World.size_setCell] at hs); (try have hs' := Nat.lt_of_succ_le hs); (try have hs0 : w.heap.size < w1.heap.size := by omega); (try have hs1 : w.heap.size + 1 < w1.heap.size := by omega); (try have hs2 : w.heap.size + 1 + 1 < w1.heap.size := by omega); (try have hs3 : w.heap.size + 1 + 1 + 1 < w1.heap.size := by omega); (try have iso : (w1.cell? ⟨w.heap.size, 0, none⟩).isSome = true := by (rw [hc _ _ (by omega)]; (try simp only [isSome_setCell]); first | assumption | go_simp)); (try have iso : (w1.cell? ⟨w.heap.size, 1, none⟩).isSome = true := by (rw [hc _ _ (by omega)]; (try simp only [isSome_setCell]); first | assumption | go_simp)); (try have iso : (w1.cell? ⟨w.heap.size + 1, 0, none⟩).isSome = true := by (rw [hc _ _ (by omega)]; (try simp only [isSome_setCell]); first | assumption | go_simp)); (try have iso : (w1.cell? ⟨w.heap.size + 1, 1, none⟩).isSome = true := by (rw [hc _ _ (by omega)]; (try simp only [isSome_setCell]); first | assumption | go_simp)); (try have iso : (w1.cell? ⟨w.heap.size + 1 + 1, 0, none⟩).isSome = true := by (rw [hc _ _ (by first | omega | (simp; done) | (simp; omega))]; (try simp only [isSome_setCell]); first | assumption | go_simp)); (try have iso : (w1.cell? ⟨w.heap.size + 1 + 1, 1, none⟩).isSome = true := by (rw [hc _ _ (by first | omega | (simp; done) | (simp; omega))]; (try simp only [isSome_setCell]); first | assumption | go_simp)))
   exact bodyPost_ret (resS Tryz.results62 _ _ _ _ _ rfl (by (try simp only [isSome_setCell]); first | assumption | go_simp) (by (try simp only [isSome_setCell]); first | assumption | go_simp)) rfl ⟨rfl, by (repeat first | with_reducible assumption | (with_reducible refine Below.setCell ?_ ?_ _; rotate_left; exact (by (simp; done))))⟩
end
section
open Go.RowKit
theorem gains_any (v lo hi : Int) (w : World) (hk : okP (v, lo, hi) = true) :
  Calls Tryz.prog 62 #[Pr (v, lo, hi)] w (Ret (Sp (gLo (v, lo, hi)) (gHi (v, lo, hi))) w) := by
 obtain ⟨⟨v1, v2⟩, hle, l1, h2⟩ := okP_iff.1 hk
 dsimp only at v1 v2 hle l1 h2
 unfold gLo gHi
 dsimp only
 by_cases p : 0 < v
 ·rw [if_pos p, if_pos p]; exact gains_pos v lo hi w p v2 l1 (by omega) (by omega) h2
 ·by_cases n : v < 0
  ·rw [if_neg p, if_neg p, if_pos n, if_pos n]; exact gains_neg v lo hi w n v1 l1 (by omega) (by omega) h2
  ·obtain rfl : v = 0 := by omega
   rw [if_neg p, if_neg p, if_neg n, if_neg n]
   have hvl : vld lo hi = true := vld_iff.2 ⟨hle, l1, h2⟩
   by_cases c : lo ≤ 0 ∧ 0 ≤ hi
   ·rw [if_pos c, if_pos c]; exact gains_zero lo hi _ _ w (.inl ⟨by simp [cont, hvl, c], rfl, rfl⟩) l1 (by omega) (by omega) h2
   ·rw [if_neg c, if_neg c]; exact gains_zero lo hi _ _ w (.inr ⟨by simp [cont]; omega, rfl, rfl⟩) l1 (by omega) (by omega) h2
end
section
open Go.RowKit Go.Shelf
theorem res3p {fn : Func} {p u : Tmp} (h : fn.results = #[.cell p 41, .tmp u]) (tmps : Array Value) (W : World) (b : Nat) (x y z : Value)
  (hp : tmps.getD p undef = .pointer (some ⟨b, 0, none⟩)) (hu : tmps.getD u undef = z) (h0 : W.cell? ⟨b, 0, none⟩ = some x) (h1 : W.cell? ⟨b, 1, none⟩ = some y) :
  (results fn tmps).run Tryz.prog W = .ok (.tuple #[.agg #[x, y], z]) W := by
 rw [results_cell_tmp h, hp, hu]
 simp [go_sem, h0, h1]
def gainL (x : Tri) : Int × Int × Int :=
 if okP x = true then if gHi x < gLo x then (0, 0, 8) else if vld (gLo x) (gHi x) = true then (gLo x, gHi x, 0) else (0, 0, 9) else (0, 0, 1)
set_option maxHeartbeats 2000000 in
theorem gain_any (v lo hi : Int) (w : World) : Calls Tryz.prog 26 #[Pr (v, lo, hi)] w (Ret (.tuple #[.agg #[.int .i64 (gainL (v, lo, hi)).1, .int .i64 (gainL (v, lo, hi)).2.1], .int .i64 (gainL (v, lo, hi)).2.2]) w) := by
 have HV := Lib.hid (fun W => validPair_any v lo hi W)
 by_cases hk : okP (v, lo, hi) = true
 ·have HG := Lib.hid (fun W => gains_any v lo hi W hk)
  rw [hk] at HV
  by_cases h8 : gHi (v, lo, hi) < gLo (v, lo, hi)
  ·rw [show gainL (v, lo, hi) = (0, 0, 8) by unfold gainL; rw [if_pos hk, if_pos h8]]
   generalize gHi (v, lo, hi) = b at *
   generalize gLo (v, lo, hi) = a at *
   clear hk
   go_enter Tryz.func26, Tryz.ntmps26
   go_wp2_with (first | (go_at_call 61; refine (HV.out _).mono ?_; rintro e w1 ⟨rfl, hb⟩; have hB : Below w.heap.size w w1 := Below.trans (by (repeat first | with_reducible exact Below.refl _ _ | (with_reducible refine Below.alloc ?_ ?_ _; rotate_left; exact (by first | omega | (simp; done))))) (hb.mono (by (simp; omega))); obtain ⟨hc, hf⟩ := bcell hb; have hs := hb.size; clear hb; (try simp only [World.size_alloc, World.size_setCell] at hc hf); (try simp only [World.size_alloc, World.size_setCell] at hs); (try have hs' := Nat.lt_of_succ_le hs); (try have hs0 : w.heap.size < w1.heap.size := by omega); (try have hs1 : w.heap.size + 1 < w1.heap.size := by omega); (try have hs2 : w.heap.size + 1 + 1 < w1.heap.size := by omega); (try have hs3 : w.heap.size + 1 + 1 + 1 < w1.heap.size := by omega); (try have iso : (w1.cell? ⟨w.heap.size, 0, none⟩).isSome = true := by (rw [hc _ _ (by omega)]; (try simp only [isSome_setCell]); first | assumption | go_simp)); (try have iso : (w1.cell? ⟨w.heap.size, 1, none⟩).isSome = true := by (rw [hc _ _ (by omega)]; (try simp only [isSome_setCell]); first | assumption | go_simp)); (try have iso : (w1.cell? ⟨w.heap.size + 1, 0, none⟩).isSome = true := by (rw [hc _ _ (by omega)]; (try simp only [isSome_setCell]); first | assumption | go_simp)); (try have iso : (w1.cell? ⟨w.heap.size + 1, 1, none⟩).isSome = true := by (rw [hc _ _ (by omega)]; (try simp only [isSome_setCell]); first | assumption | go_simp)); (try have iso : (w1.cell? ⟨w.heap.size + 1 + 1, 0, none⟩).isSome = true := by (rw [hc _ _ (by first | omega | (simp; done) | (simp; omega))]; (try simp only [isSome_setCell]); first | assumption | go_simp)); (try have iso : (w1.cell? ⟨w.heap.size + 1 + 1, 1, none⟩).isSome = true := by (rw [hc _ _ (by first | omega | (simp; done) | (simp; omega))]; (try simp only [isSome_setCell]); first | assumption | go_simp))) | (go_at_call 62; refine (HG.out _).mono ?_; rintro e w1 ⟨rfl, hb⟩; have hB : Below w.heap.size w w1 := Below.trans (by (repeat with_reducible assumption)) (hb.mono (by omega)); obtain ⟨hc, hf⟩ := bcell hb; have hs := hb.size; clear hb; (try simp only [World.size_alloc, World.size_setCell] at hc hf); (try simp only [World.size_alloc, World.size_setCell] at hs); (try have hs' := Nat.lt_of_succ_le hs); (try have hs0 : w.heap.size < w1.heap.size := by omega); (try have hs1 : w.heap.size + 1 < w1.heap.size := by omega); (try have hs2 : w.heap.size + 1 + 1 < w1.heap.size := by omega); (try have hs3 : w.heap.size + 1 + 1 + 1 < w1.heap.size := by omega); (try have iso : (w1.cell? ⟨w.heap.size, 0, none⟩).isSome = true := by (rw [hc _ _ (by omega)]; (try simp only [isSome_setCell]); first | assumption | go_simp)); (try have iso : (w1.cell? ⟨w.heap.size, 1, none⟩).isSome = true := by (rw [hc _ _ (by omega)]; (try simp only [isSome_setCell]); first | assumption | go_simp)); (try have iso : (w1.cell? ⟨w.heap.size + 1, 0, none⟩).isSome = true := by (rw [hc _ _ (by omega)]; (try simp only [isSome_setCell]); first | assumption | go_simp)); (try have iso : (w1.cell? ⟨w.heap.size + 1, 1, none⟩).isSome = true := by (rw [hc _ _ (by omega)]; (try simp only [isSome_setCell]); first | assumption | go_simp)); (try have iso : (w1.cell? ⟨w.heap.size + 1 + 1, 0, none⟩).isSome = true := by (rw [hc _ _ (by first | omega | (simp; done) | (simp; omega))]; (try simp only [isSome_setCell]); first | assumption | go_simp)); (try have iso : (w1.cell? ⟨w.heap.size + 1 + 1, 1, none⟩).isSome = true := by (rw [hc _ _ (by first | omega | (simp; done) | (simp; omega))]; (try simp only [isSome_setCell]); first | assumption | go_simp))))
   exact bodyPost_ret (res3p Tryz.results26 _ _ _ _ _ _ rfl rfl (by go_simp) (by go_simp)) rfl ⟨rfl, by (repeat first | with_reducible assumption | (with_reducible refine Below.setCell ?_ ?_ _; rotate_left; exact (by (simp; done))) | (with_reducible refine Below.alloc ?_ ?_ _; rotate_left; exact (by (simp; omega))))⟩
  ·by_cases hv : vld (gLo (v, lo, hi)) (gHi (v, lo, hi)) = true
   ·rw [show gainL (v, lo, hi) = (gLo (v, lo, hi), gHi (v, lo, hi), 0) by unfold gainL; rw [if_pos hk, if_neg h8, if_pos hv]]
    generalize gHi (v, lo, hi) = b at *
    generalize gLo (v, lo, hi) = a at *
    clear hk
    go_enter Tryz.func26, Tryz.ntmps26
    go_wp2_with (first | (go_at_call 61; refine (HV.out _).mono ?_; rintro e w1 ⟨rfl, hb⟩; have hB : Below w.heap.size w w1 := Below.trans (by (repeat first | with_reducible exact Below.refl _ _ | (with_reducible refine Below.alloc ?_ ?_ _; rotate_left; exact (by first | omega | (simp; done))))) (hb.mono (by (simp; omega))); obtain ⟨hc, hf⟩ := bcell hb; have hs := hb.size; clear hb; (try simp only [World.size_alloc, World.size_setCell] at hc hf); (try simp only [World.size_alloc, World.size_setCell] at hs); (try have hs' := Nat.lt_of_succ_le hs); (try have hs0 : w.heap.size < w1.heap.size := by omega); (try have hs1 : w.heap.size + 1 < w1.heap.size := by omega); (try have hs2 : w.heap.size + 1 + 1 < w1.heap.size := by omega); (try have hs3 : w.heap.size + 1 + 1 + 1 < w1.heap.size := by omega); (try have iso : (w1.cell? ⟨w.heap.size, 0, none⟩).isSome = true := by (rw [hc _ _ (by omega)]; (try simp only [isSome_setCell]); first | assumption | go_simp)); (try have iso : (w1.cell? ⟨w.heap.size, 1, none⟩).isSome = true := by (rw [hc _ _ (by omega)]; (try simp only [isSome_setCell]); first | assumption | go_simp)); (try have iso : (w1.cell? ⟨w.heap.size + 1, 0, none⟩).isSome = true := by (rw [hc _ _ (by omega)]; (try simp only [isSome_setCell]); first | assumption | go_simp)); (try have iso : (w1.cell? ⟨w.heap.size + 1, 1, none⟩).isSome = true := by (rw [hc _ _ (by omega)]; (try simp only [isSome_setCell]); first | assumption | go_simp)); (try have iso : (w1.cell? ⟨w.heap.size + 1 + 1, 0, none⟩).isSome = true := by (rw [hc _ _ (by first | omega | (simp; done) | (simp; omega))]; (try simp only [isSome_setCell]); first | assumption | go_simp)); (try have iso : (w1.cell? ⟨w.heap.size + 1 + 1, 1, none⟩).isSome = true := by (rw [hc _ _ (by first | omega | (simp; done) | (simp; omega))]; (try simp only [isSome_setCell]); first | assumption | go_simp))) | (go_at_call 62; refine (HG.out _).mono ?_; rintro e w1 ⟨rfl, hb⟩; have hB : Below w.heap.size w w1 := Below.trans (by (repeat with_reducible assumption)) (hb.mono (by omega)); obtain ⟨hc, hf⟩ := bcell hb; have hs := hb.size; clear hb; (try simp only [World.size_alloc, World.size_setCell] at hc hf); (try simp only [World.size_alloc, World.size_setCell] at hs); (try have hs' := Nat.lt_of_succ_le hs); (try have hs0 : w.heap.size < w1.heap.size := by omega); (try have hs1 : w.heap.size + 1 < w1.heap.size := by omega); (try have hs2 : w.heap.size + 1 + 1 < w1.heap.size := by omega); (try have hs3 : w.heap.size + 1 + 1 + 1 < w1.heap.size := by omega); (try have iso : (w1.cell? ⟨w.heap.size, 0, none⟩).isSome = true := by (rw [hc _ _ (by omega)]; (try simp only [isSome_setCell]); first | assumption | go_simp)); (try have iso : (w1.cell? ⟨w.heap.size, 1, none⟩).isSome = true := by (rw [hc _ _ (by omega)]; (try simp only [isSome_setCell]); first | assumption | go_simp)); (try have iso : (w1.cell? ⟨w.heap.size + 1, 0, none⟩).isSome = true := by (rw [hc _ _ (by omega)]; (try simp only [isSome_setCell]); first | assumption | go_simp)); (try have iso : (w1.cell? ⟨w.heap.size + 1, 1, none⟩).isSome = true := by (rw [hc _ _ (by omega)]; (try simp only [isSome_setCell]); first | assumption | go_simp)); (try have iso : (w1.cell? ⟨w.heap.size + 1 + 1, 0, none⟩).isSome = true := by (rw [hc _ _ (by first | omega | (simp; done) | (simp; omega))]; (try simp only [isSome_setCell]); first | assumption | go_simp)); (try have iso : (w1.cell? ⟨w.heap.size + 1 + 1, 1, none⟩).isSome = true := by (rw [hc _ _ (by first | omega | (simp; done) | (simp; omega))]; (try simp only [isSome_setCell]); first | assumption | go_simp))) | (go_at_call 31; refine (valid_any _ _ _).mono ?_; rintro e w1 ⟨rfl, hb⟩; have hB : Below w.heap.size w w1 := Below.trans (by (repeat first | with_reducible assumption | (with_reducible refine Below.alloc ?_ ?_ _; rotate_left; exact (by omega)))) (hb.mono (by (simp; omega))); obtain ⟨hc, hf⟩ := bcell hb; have hs := hb.size; clear hb; (try simp only [World.size_alloc, World.size_setCell] at hc hf); (try simp only [World.size_alloc, World.size_setCell] at hs); (try have hs' := Nat.lt_of_succ_le hs); (try have hs0 : w.heap.size < w1.heap.size := by omega); (try have hs1 : w.heap.size + 1 < w1.heap.size := by omega); (try have hs2 : w.heap.size + 1 + 1 < w1.heap.size := by omega); (try have hs3 : w.heap.size + 1 + 1 + 1 < w1.heap.size := by omega); (try have iso : (w1.cell? ⟨w.heap.size, 0, none⟩).isSome = true := by (rw [hc _ _ (by omega)]; (try simp only [isSome_setCell]); first | assumption | go_simp)); (try have iso : (w1.cell? ⟨w.heap.size, 1, none⟩).isSome = true := by (rw [hc _ _ (by omega)]; (try simp only [isSome_setCell]); first | assumption | go_simp)); (try have iso : (w1.cell? ⟨w.heap.size + 1, 0, none⟩).isSome = true := by (rw [hc _ _ (by omega)]; (try simp only [isSome_setCell]); first | assumption | go_simp)); (try have iso : (w1.cell? ⟨w.heap.size + 1, 1, none⟩).isSome = true := by (rw [hc _ _ (by omega)]; (try simp only [isSome_setCell]); first | assumption | go_simp)); (try have iso : (w1.cell? ⟨w.heap.size + 1 + 1, 0, none⟩).isSome = true := by (rw [hc _ _ (by omega)]; (try simp only [isSome_setCell]); first | assumption | go_simp)); (try have iso : (w1.cell? ⟨w.heap.size + 1 + 1, 1, none⟩).isSome = true := by (rw [hc _ _ (by omega)]; (try simp only [isSome_setCell]); first | assumption | go_simp))))
    exact bodyPost_ret (res3p Tryz.results26 _ _ _ _ _ _ rfl rfl (by go_simp) (by go_simp)) rfl ⟨rfl, by (repeat first | with_reducible assumption | (with_reducible refine Below.setCell ?_ ?_ _; rotate_left; exact (by (simp; done))))⟩
   ·rw [show gainL (v, lo, hi) = (0, 0, 9) by unfold gainL; rw [if_pos hk, if_neg h8, if_neg hv]]
    have hv : vld (gLo (v, lo, hi)) (gHi (v, lo, hi)) = false := by simpa using hv
    generalize gHi (v, lo, hi) = b at *
    generalize gLo (v, lo, hi) = a at *
    clear hk
    go_enter Tryz.func26, Tryz.ntmps26
    go_wp2_with (first | (go_at_call 61; refine (HV.out _).mono ?_; rintro e w1 ⟨rfl, hb⟩; have hB : Below w.heap.size w w1 := Below.trans (by (repeat first | with_reducible exact Below.refl _ _ | (with_reducible refine Below.alloc ?_ ?_ _; rotate_left; exact (by first | omega | (simp; done))))) (hb.mono (by (simp; omega))); obtain ⟨hc, hf⟩ := bcell hb; have hs := hb.size; clear hb; (try simp only [World.size_alloc, World.size_setCell] at hc hf); (try simp only [World.size_alloc, World.size_setCell] at hs); (try have hs' := Nat.lt_of_succ_le hs); (try have hs0 : w.heap.size < w1.heap.size := by omega); (try have hs1 : w.heap.size + 1 < w1.heap.size := by omega); (try have hs2 : w.heap.size + 1 + 1 < w1.heap.size := by omega); (try have hs3 : w.heap.size + 1 + 1 + 1 < w1.heap.size := by omega); (try have iso : (w1.cell? ⟨w.heap.size, 0, none⟩).isSome = true := by (rw [hc _ _ (by omega)]; (try simp only [isSome_setCell]); first | assumption | go_simp)); (try have iso : (w1.cell? ⟨w.heap.size, 1, none⟩).isSome = true := by (rw [hc _ _ (by omega)]; (try simp only [isSome_setCell]); first | assumption | go_simp)); (try have iso : (w1.cell? ⟨w.heap.size + 1, 0, none⟩).isSome = true := by (rw [hc _ _ (by omega)]; (try simp only [isSome_setCell]); first | assumption | go_simp)); (try have iso : (w1.cell? ⟨w.heap.size + 1, 1, none⟩).isSome = true := by (rw [hc _ _ (by omega)]; (try simp only [isSome_setCell]); first | assumption | go_simp)); (try have iso : (w1.cell? ⟨w.heap.size + 1 + 1, 0, none⟩).isSome = true := by (rw [hc _ _ (by first | omega | (simp; done) | (simp; omega))]; (try simp only [isSome_setCell]); first | assumption | go_simp)); (try have iso : (w1.cell? ⟨w.heap.size + 1 + 1, 1, none⟩).isSome = true := by (rw [hc _ _ (by first | omega | (simp; done) | (simp; omega))]; (try simp only [isSome_setCell]); first | assumption | go_simp))) | (go_at_call 62; refine (HG.out _).mono ?_; rintro e w1 ⟨rfl, hb⟩; have hB : Below w.heap.size w w1 := Below.trans (by (repeat with_reducible assumption)) (hb.mono (by omega)); obtain ⟨hc, hf⟩ := bcell hb; have hs := hb.size; clear hb; (try simp only [World.size_alloc, World.size_setCell] at hc hf); (try simp only [World.size_alloc, World.size_setCell] at hs); (try have hs' := Nat.lt_of_succ_le hs); (try have hs0 : w.heap.size < w1.heap.size := by omega); (try have hs1 : w.heap.size + 1 < w1.heap.size := by omega); (try have hs2 : w.heap.size + 1 + 1 < w1.heap.size := by omega); (try have hs3 : w.heap.size + 1 + 1 + 1 < w1.heap.size := by omega); (try have iso : (w1.cell? ⟨w.heap.size, 0, none⟩).isSome = true := by (rw [hc _ _ (by omega)]; (try simp only [isSome_setCell]); first | assumption | go_simp)); (try have iso : (w1.cell? ⟨w.heap.size, 1, none⟩).isSome = true := by (rw [hc _ _ (by omega)]; (try simp only [isSome_setCell]); first | assumption | go_simp)); (try have iso : (w1.cell? ⟨w.heap.size + 1, 0, none⟩).isSome = true := by (rw [hc _ _ (by omega)]; (try simp only [isSome_setCell]); first | assumption | go_simp)); (try have iso : (w1.cell? ⟨w.heap.size + 1, 1, none⟩).isSome = true := by (rw [hc _ _ (by omega)]; (try simp only [isSome_setCell]); first | assumption | go_simp)); (try have iso : (w1.cell? ⟨w.heap.size + 1 + 1, 0, none⟩).isSome = true := by (rw [hc _ _ (by first | omega | (simp; done) | (simp; omega))]; (try simp only [isSome_setCell]); first | assumption | go_simp)); (try have iso : (w1.cell? ⟨w.heap.size + 1 + 1, 1, none⟩).isSome = true := by (rw [hc _ _ (by first | omega | (simp; done) | (simp; omega))]; (try simp only [isSome_setCell]); first | assumption | go_simp))) | (go_at_call 31; refine (valid_any _ _ _).mono ?_; rintro e w1 ⟨rfl, hb⟩; have hB : Below w.heap.size w w1 := Below.trans (by (repeat first | with_reducible assumption | (with_reducible refine Below.alloc ?_ ?_ _; rotate_left; exact (by omega)))) (hb.mono (by (simp; omega))); obtain ⟨hc, hf⟩ := bcell hb; have hs := hb.size; clear hb; (try simp only [World.size_alloc, World.size_setCell] at hc hf); (try simp only [World.size_alloc, World.size_setCell] at hs); (try have hs' := Nat.lt_of_succ_le hs); (try have hs0 : w.heap.size < w1.heap.size := by omega); (try have hs1 : w.heap.size + 1 < w1.heap.size := by omega); (try have hs2 : w.heap.size + 1 + 1 < w1.heap.size := by omega); (try have hs3 : w.heap.size + 1 + 1 + 1 < w1.heap.size := by omega); (try have iso : (w1.cell? ⟨w.heap.size, 0, none⟩).isSome = true := by (rw [hc _ _ (by omega)]; (try simp only [isSome_setCell]); first | assumption | go_simp)); (try have iso : (w1.cell? ⟨w.heap.size, 1, none⟩).isSome = true := by (rw [hc _ _ (by omega)]; (try simp only [isSome_setCell]); first | assumption | go_simp)); (try have iso : (w1.cell? ⟨w.heap.size + 1, 0, none⟩).isSome = true := by (rw [hc _ _ (by omega)]; (try simp only [isSome_setCell]); first | assumption | go_simp)); (try have iso : (w1.cell? ⟨w.heap.size + 1, 1, none⟩).isSome = true := by (rw [hc _ _ (by omega)]; (try simp only [isSome_setCell]); first | assumption | go_simp)); (try have iso : (w1.cell? ⟨w.heap.size + 1 + 1, 0, none⟩).isSome = true := by (rw [hc _ _ (by omega)]; (try simp only [isSome_setCell]); first | assumption | go_simp)); (try have iso : (w1.cell? ⟨w.heap.size + 1 + 1, 1, none⟩).isSome = true := by (rw [hc _ _ (by omega)]; (try simp only [isSome_setCell]); first | assumption | go_simp))))
    exact bodyPost_ret (res3p Tryz.results26 _ _ _ _ _ _ rfl rfl (by go_simp) (by go_simp)) rfl ⟨rfl, by (repeat first | with_reducible assumption | (with_reducible refine Below.setCell ?_ ?_ _; rotate_left; exact (by (simp; done))))⟩
 ·rw [show gainL (v, lo, hi) = (0, 0, 1) by unfold gainL; rw [if_neg hk]]
  have hk : okP (v, lo, hi) = false := by simpa using hk
  rw [hk] at HV
  clear hk
  go_enter Tryz.func26, Tryz.ntmps26
  go_wp2_with (go_at_call 61; refine (HV.out _).mono ?_; rintro e w1 ⟨rfl, hb⟩; have hB : Below w.heap.size w w1 := Below.trans (by (repeat first | with_reducible exact Below.refl _ _ | (with_reducible refine Below.alloc ?_ ?_ _; rotate_left; exact (by first | omega | (simp; done))))) (hb.mono (by (simp; omega))); obtain ⟨hc, hf⟩ := bcell hb; have hs := hb.size; clear hb; (try simp only [World.size_alloc, World.size_setCell] at hc hf); (try simp only [World.size_alloc, World.size_setCell] at hs); (try have hs' := Nat.lt_of_succ_le hs); (try have hs0 : w.heap.size < w1.heap.size := by omega); (try have hs1 : w.heap.size + 1 < w1.heap.size := by omega); (try have hs2 : w.heap.size + 1 + 1 < w1.heap.size := by omega); (try have hs3 : w.heap.size + 1 + 1 + 1 < w1.heap.size := by omega); (try have iso : (w1.cell? ⟨w.heap.size, 0, none⟩).isSome = true := by (rw [hc _ _ (by omega)]; (try simp only [isSome_setCell]); first | assumption | go_simp)); (try have iso : (w1.cell? ⟨w.heap.size, 1, none⟩).isSome = true := by (rw [hc _ _ (by omega)]; (try simp only [isSome_setCell]); first | assumption | go_simp)); (try have iso : (w1.cell? ⟨w.heap.size + 1, 0, none⟩).isSome = true := by (rw [hc _ _ (by omega)]; (try simp only [isSome_setCell]); first | assumption | go_simp)); (try have iso : (w1.cell? ⟨w.heap.size + 1, 1, none⟩).isSome = true := by (rw [hc _ _ (by omega)]; (try simp only [isSome_setCell]); first | assumption | go_simp)); (try have iso : (w1.cell? ⟨w.heap.size + 1 + 1, 0, none⟩).isSome = true := by (rw [hc _ _ (by first | omega | (simp; done) | (simp; omega))]; (try simp only [isSome_setCell]); first | assumption | go_simp)); (try have iso : (w1.cell? ⟨w.heap.size + 1 + 1, 1, none⟩).isSome = true := by (rw [hc _ _ (by first | omega | (simp; done) | (simp; omega))]; (try simp only [isSome_setCell]); first | assumption | go_simp)))
  exact bodyPost_ret (res3 Tryz.results26 _ _ _ _ _ _ rfl rfl (by (try simp only [isSome_setCell]); first | assumption | go_simp) (by (try simp only [isSome_setCell]); first | assumption | go_simp)) rfl ⟨rfl, by (repeat first | with_reducible assumption | (with_reducible refine Below.setCell ?_ ?_ _; rotate_left; exact (by (simp; done))))⟩
theorem isT_one {α : Type} {n : Nat} {enc : α → List Value} {W : World} {b : Nat} {x : α} (hb : b < W.heap.size) (h : ∀ (i : Nat) (v : Value), (enc x)[i]? = some v → W.cell? ⟨b, i, none⟩ = some v) : IsT n enc W (some ⟨b, 0, none⟩) 1 [x] :=
 ⟨rfl, fun _ => ⟨b, 0, rfl, hb, fun j y hy i v hv => by
  rcases j with _ | j
  ·obtain rfl : x = y := by simpa using hy
   have := h i v hv
   simpa using this
  ·simp at hy⟩⟩
theorem isM_ex {W : World} {x y : Nat} (hx : x < W.heap.size) (hy : y < W.heap.size) (x0 : W.cell? ⟨x, 0, none⟩ = some (.int .i64 9)) (x1 : W.cell? ⟨x, 1, none⟩ = some (.int .i64 0))
  (y0 : W.cell? ⟨y, 0, none⟩ = some (.string ⟨#[115]⟩)) (y1 : W.cell? ⟨y, 1, none⟩ = some (.int .i64 1)) (y2 : W.cell? ⟨y, 2, none⟩ = some (.int .i64 0)) (y3 : W.cell? ⟨y, 3, none⟩ = some (.int .i64 0)) (y4 : W.cell? ⟨y, 4, none⟩ = some (.int .i64 0)) :
  IsM W ⟨none, none, some ⟨x, 0, none⟩, some ⟨y, 0, none⟩, 0, 0, 0, 0, 1, 1, 1, 1⟩ exM := by
 refine ⟨IsT.nil _ _ _ _, IsT.nil _ _ _ _, isT_one hx fun i v hv => ?_, isT_one hy fun i v hv => ?_, Nat.le_refl _, Nat.le_refl _, Nat.le_refl _, Nat.le_refl _, by dsimp only; omega, by dsimp only; omega, by dsimp only; omega, by dsimp only; omega, by dsimp only; omega, by dsimp only; omega, by dsimp only; omega, by dsimp only; omega⟩
 ·rcases i with _ | _ | i
  ·injection hv with hv; rw [← hv]; exact x0
  ·injection hv with hv; rw [← hv]; exact x1
  ·cases hv
 ·rcases i with _ | _ | _ | _ | _ | i
  ·injection hv with hv; rw [← hv]; exact y0
  ·injection hv with hv; rw [← hv]; exact y1
  ·injection hv with hv; rw [← hv]; exact y2
  ·injection hv with hv; rw [← hv]; exact y3
  ·injection hv with hv; rw [← hv]; exact y4
  ·cases hv
theorem isC_ex {W : World} {z : Nat} (hz : z < W.heap.size) (z0 : W.cell? ⟨z, 0, none⟩ = some (.int .i64 2)) : IsC W ⟨none, none, some ⟨z, 0, none⟩, 0, 0, 0, 0, 1, 1⟩ exC := by
 refine ⟨IsT.nil _ _ _ _, IsT.nil _ _ _ _, isT_one hz fun i v hv => ?_, Nat.le_refl _, Nat.le_refl _, Nat.le_refl _, by dsimp only; omega, by dsimp only; omega, by dsimp only; omega, by dsimp only; omega, by dsimp only; omega, by dsimp only; omega⟩
 rcases i with _ | i
 ·injection hv with hv; rw [← hv]; exact z0
 ·cases hv
theorem gain_ex (w : World) : Calls Tryz.prog 26 #[.agg #[.int .i64 500, .int .i64 490, .int .i64 520]] w (Ret (.tuple #[.agg #[.int .i64 980, .int .i64 1040], .int .i64 0]) w) := by
 have h := gain_any 500 490 520 w
 rwa [show gainL (500, 490, 520) = (980, 1040, 0) by decide +kernel] at h
set_option maxRecDepth 100000 in
set_option maxHeartbeats 4000000 in
theorem awake_any (w : World) : Calls Tryz.prog 9 #[] w (Ret (.bool true) w) := by
 go_enter Tryz.func9, Tryz.ntmps9
 go_wp2_with (first | (go_at_call 26; refine (gain_ex _).mono ?_; rintro e w1 ⟨rfl, hb1⟩) | (go_at_call 25; refine (read_ex (w1.heap.size + 1) (w1.heap.size + 1 + 1) (w1.heap.size + 1 + 1 + 1 + 1) _ (isM_ex (by simp) (by simp) (by go_simp) (by go_simp) (by go_simp) (by go_simp) (by go_simp) (by go_simp) (by go_simp)) (isC_ex (by simp) (by go_simp))).mono ?_; rintro e w2 ⟨b, rfl, hb0, hb2, v0, v1, hb⟩; have d0 : w2.cell? ⟨w1.heap.size, 0, none⟩ = some (.int .i64 980) := (by rw [hb.cell (by simp only [World.size_alloc]; omega)]; go_simp); have d1 : w2.cell? ⟨w1.heap.size, 1, none⟩ = some (.int .i64 1040) := (by rw [hb.cell (by simp only [World.size_alloc]; omega)]; go_simp)))
 have hs1 := hb1.size
 go_ret
 exact ⟨rfl, Below.trans (by (repeat first | with_reducible assumption | (with_reducible refine Below.alloc ?_ ?_ _; rotate_left; exact (by first | omega | (simp; omega))))) (hb.mono (by simp only [World.size_alloc]; omega))⟩
end
end Go.Proofs.YtapldonpflgnfaaGreatDoor
