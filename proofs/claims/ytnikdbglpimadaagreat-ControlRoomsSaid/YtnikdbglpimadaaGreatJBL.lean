import Derived.Test.YtnikdbglpimadaaGreatJBK
section
/- Package control: proved, over this seat's translation (written by mk_cte.py). -/
namespace Go.Proofs.YtnikdbglpimadaaGreat
set_option linter.unusedVariables false
set_option linter.unusedSimpArgs false
open Go.RowKit Go.Shelf

set_option maxRecDepth 100000 in
set_option maxHeartbeats 8000000 in
theorem cproved_any (gr gz : Int) (s : ShapeD) (w : World) :
    Calls Tryz.prog 58 #[.agg #[.int .i64 gr, .int .i64 gz], s.v] w (Ret (.tuple #[.int .i64 (provedL (errL gr gz s).1 (errL gr gz s).2.1), .int .i64 (provedL (errL gr gz s).2.2.1 (errL gr gz s).2.2.2.1), .int .i64 (errL gr gz s).2.2.2.2]) w) := by
  have HE0 := Lib.hid (fun W => errors_any gr gz s W)
  generalize errL gr gz s = U at *
  obtain ⟨p0, q0, p1, q1, E⟩ := U
  dsimp only at *
  obtain ⟨a0, b0, a1, b1, a2, b2, a3, b3, a4, b4, a5, b5, a6, b6, a7, b7⟩ := s
  (try dsimp only at *)
  have HE := Lib.hid (show ∀ W, Calls Tryz.prog 27 #[.agg #[.int .i64 gr, .int .i64 gz], .agg #[.int .i64 a0, .int .i64 b0, .int .i64 a1, .int .i64 b1, .int .i64 a2, .int .i64 b2, .int .i64 a3, .int .i64 b3, .int .i64 a4, .int .i64 b4, .int .i64 a5, .int .i64 b5, .int .i64 a6, .int .i64 b6, .int .i64 a7, .int .i64 b7]] W (Ret (.tuple #[.agg #[.int .i64 p0, .int .i64 q0], .agg #[.int .i64 p1, .int .i64 q1], .int .i64 E]) W) from HE0.out)
  have HP : Hid (∀ (a b : Int) W, Calls Tryz.prog 107 #[Sp a b] W (Ret (.int .i64 (provedL a b)) W)) := Lib.hid (fun a b W => proved_any a b W)
  clear HE0
  show Calls Tryz.prog 58 #[.agg #[.int .i64 gr, .int .i64 gz], .agg #[.int .i64 a0, .int .i64 b0, .int .i64 a1, .int .i64 b1, .int .i64 a2, .int .i64 b2, .int .i64 a3, .int .i64 b3, .int .i64 a4, .int .i64 b4, .int .i64 a5, .int .i64 b5, .int .i64 a6, .int .i64 b6, .int .i64 a7, .int .i64 b7]] w _
  go_enter Tryz.func58, Tryz.ntmps58
  go_upto_region 1 with (fail)
  have Fg : Hid (RowL (w.heap.size) [.int .i64 gr, .int .i64 gz] ((w.alloc (.cells #[.int .i64 gr, .int .i64 gz] 78)).alloc (.cells #[.int .i64 a0, .int .i64 b0, .int .i64 a1, .int .i64 b1, .int .i64 a2, .int .i64 b2, .int .i64 a3, .int .i64 b3, .int .i64 a4, .int .i64 b4, .int .i64 a5, .int .i64 b5, .int .i64 a6, .int .i64 b6, .int .i64 a7, .int .i64 b7] 70))) := Lib.hid (by have h := RowL.new w #[.int .i64 gr, .int .i64 gz] 78; (try simp only [World.size_alloc] at h); exact (h.alloc _))
  have Fs : Hid (RowL (w.heap.size + 1) [.int .i64 a0, .int .i64 b0, .int .i64 a1, .int .i64 b1, .int .i64 a2, .int .i64 b2, .int .i64 a3, .int .i64 b3, .int .i64 a4, .int .i64 b4, .int .i64 a5, .int .i64 b5, .int .i64 a6, .int .i64 b6, .int .i64 a7, .int .i64 b7] ((w.alloc (.cells #[.int .i64 gr, .int .i64 gz] 78)).alloc (.cells #[.int .i64 a0, .int .i64 b0, .int .i64 a1, .int .i64 b1, .int .i64 a2, .int .i64 b2, .int .i64 a3, .int .i64 b3, .int .i64 a4, .int .i64 b4, .int .i64 a5, .int .i64 b5, .int .i64 a6, .int .i64 b6, .int .i64 a7, .int .i64 b7] 70))) := Lib.hid (by have h := RowL.new (w.alloc (.cells #[.int .i64 gr, .int .i64 gz] 78)) #[.int .i64 a0, .int .i64 b0, .int .i64 a1, .int .i64 b1, .int .i64 a2, .int .i64 b2, .int .i64 a3, .int .i64 b3, .int .i64 a4, .int .i64 b4, .int .i64 a5, .int .i64 b5, .int .i64 a6, .int .i64 b6, .int .i64 a7, .int .i64 b7] 70; (try simp only [World.size_alloc] at h); exact h)
  have hB0 : Below w.heap.size w ((w.alloc (.cells #[.int .i64 gr, .int .i64 gz] 78)).alloc (.cells #[.int .i64 a0, .int .i64 b0, .int .i64 a1, .int .i64 b1, .int .i64 a2, .int .i64 b2, .int .i64 a3, .int .i64 b3, .int .i64 a4, .int .i64 b4, .int .i64 a5, .int .i64 b5, .int .i64 a6, .int .i64 b6, .int .i64 a7, .int .i64 b7] 70)) := by (with_reducible repeat first | exact Below.refl _ _ | assumption | ((first | refine Below.setCell ?_ ?_ _ | refine Below.alloc ?_ ?_ _); rotate_left; exact (by first | omega | (simp; done) | (simp; omega))) | refine Below.drew ?_ | refine Below_drewN ?_ _)
  have sW0 : w.heap.size + 1 < ((w.alloc (.cells #[.int .i64 gr, .int .i64 gz] 78)).alloc (.cells #[.int .i64 a0, .int .i64 b0, .int .i64 a1, .int .i64 b1, .int .i64 a2, .int .i64 b2, .int .i64 a3, .int .i64 b3, .int .i64 a4, .int .i64 b4, .int .i64 a5, .int .i64 b5, .int .i64 a6, .int .i64 b6, .int .i64 a7, .int .i64 b7] 70)).heap.size := by simp only [World.size_alloc]; omega
  obtain ⟨W0, hW0⟩ : ∃ W, ((w.alloc (.cells #[.int .i64 gr, .int .i64 gz] 78)).alloc (.cells #[.int .i64 a0, .int .i64 b0, .int .i64 a1, .int .i64 b1, .int .i64 a2, .int .i64 b2, .int .i64 a3, .int .i64 b3, .int .i64 a4, .int .i64 b4, .int .i64 a5, .int .i64 b5, .int .i64 a6, .int .i64 b6, .int .i64 a7, .int .i64 b7] 70)) = W := ⟨_, rfl⟩
  rw [hW0] at Fg Fs hB0 sW0 ⊢
  clear hW0
  have g0 := Fg.out.cell 0 (.int .i64 gr) rfl
  have g1 := Fg.out.cell 1 (.int .i64 gz) rfl
  have s0 := Fs.out.cell 0 (.int .i64 a0) rfl
  have s1 := Fs.out.cell 1 (.int .i64 b0) rfl
  have s2 := Fs.out.cell 2 (.int .i64 a1) rfl
  have s3 := Fs.out.cell 3 (.int .i64 b1) rfl
  have s4 := Fs.out.cell 4 (.int .i64 a2) rfl
  have s5 := Fs.out.cell 5 (.int .i64 b2) rfl
  have s6 := Fs.out.cell 6 (.int .i64 a3) rfl
  have s7 := Fs.out.cell 7 (.int .i64 b3) rfl
  have s8 := Fs.out.cell 8 (.int .i64 a4) rfl
  have s9 := Fs.out.cell 9 (.int .i64 b4) rfl
  have s10 := Fs.out.cell 10 (.int .i64 a5) rfl
  have s11 := Fs.out.cell 11 (.int .i64 b5) rfl
  have s12 := Fs.out.cell 12 (.int .i64 a6) rfl
  have s13 := Fs.out.cell 13 (.int .i64 b6) rfl
  have s14 := Fs.out.cell 14 (.int .i64 a7) rfl
  have s15 := Fs.out.cell 15 (.int .i64 b7) rfl
  go_wp2_with fail
  refine (HE.out _).mono ?_
  rintro e w1 ⟨rfl, hb⟩
  have hBw1 := hB0.trans (hb.mono hB0.size)
  clear hb HE g0 g1 s0 s1 s2 s3 s4 s5 s6 s7 s8 s9 s10 s11 s12 s13 s14 s15 Fg Fs
  go_upto_region 2 with (fail)
  have Fx : Hid (RowL (w1.heap.size) [.int .i64 p0, .int .i64 q0] ((w1.alloc (.cells #[.int .i64 p0, .int .i64 q0] 44)).alloc (.cells #[.int .i64 p1, .int .i64 q1] 44))) := Lib.hid (by have h := RowL.new w1 #[.int .i64 p0, .int .i64 q0] 44; (try simp only [World.size_alloc] at h); exact (h.alloc _))
  have Fy : Hid (RowL (w1.heap.size + 1) [.int .i64 p1, .int .i64 q1] ((w1.alloc (.cells #[.int .i64 p0, .int .i64 q0] 44)).alloc (.cells #[.int .i64 p1, .int .i64 q1] 44))) := Lib.hid (by have h := RowL.new (w1.alloc (.cells #[.int .i64 p0, .int .i64 q0] 44)) #[.int .i64 p1, .int .i64 q1] 44; (try simp only [World.size_alloc] at h); exact h)
  have hb2 : Below w1.heap.size w1 ((w1.alloc (.cells #[.int .i64 p0, .int .i64 q0] 44)).alloc (.cells #[.int .i64 p1, .int .i64 q1] 44)) := by (with_reducible repeat first | exact Below.refl _ _ | assumption | ((first | refine Below.setCell ?_ ?_ _ | refine Below.alloc ?_ ?_ _); rotate_left; exact (by first | omega | (simp; done) | (simp; omega))) | refine Below.drew ?_ | refine Below_drewN ?_ _)
  have sW2 : w1.heap.size + 1 < ((w1.alloc (.cells #[.int .i64 p0, .int .i64 q0] 44)).alloc (.cells #[.int .i64 p1, .int .i64 q1] 44)).heap.size := by simp only [World.size_alloc]; omega
  obtain ⟨W2, hW2⟩ : ∃ W, ((w1.alloc (.cells #[.int .i64 p0, .int .i64 q0] 44)).alloc (.cells #[.int .i64 p1, .int .i64 q1] 44)) = W := ⟨_, rfl⟩
  rw [hW2] at Fx Fy hb2 sW2 ⊢
  clear hW2
  have hB2 := hBw1.trans (hb2.mono hBw1.size)
  have x0 := Fx.out.cell 0 (.int .i64 p0) rfl
  have x1 := Fx.out.cell 1 (.int .i64 q0) rfl
  have y0 := Fy.out.cell 0 (.int .i64 p1) rfl
  have y1 := Fy.out.cell 1 (.int .i64 q1) rfl
  go_wp2_with fail
  have HS : Hid (∀ w' : World, Reg (W2.heap.size) (W2) w' → (Reg (W2.heap.size) (W2) w' ∧ w'.cell? ⟨w1.heap.size, 0, none⟩ = some (.int .i64 p0) ∧ w'.cell? ⟨w1.heap.size, 1, none⟩ = some (.int .i64 q0) ∧ w'.cell? ⟨w1.heap.size + 1, 0, none⟩ = some (.int .i64 p1) ∧ w'.cell? ⟨w1.heap.size + 1, 1, none⟩ = some (.int .i64 q1))) := (fun w' h => by (have hc := h.cells; have hs := h.some; have hf := h.frozen; refine ⟨h, ?_⟩; (try simp only [World.size_alloc, World.size_setCell, size_drew, size_drewN] at hc hs hf); first | (simp (disch := omega) only [hc, hs, hf, cur_iff]; (try go_simp); done) | (simp (disch := first | omega | (simp; done)) only [hc, hs, hf, cur_iff]; (try go_simp); done) | (simp (maxDischargeDepth := 4) [hc, hs, hf, cur_iff, go_sem]; done) | (go_simp; done) | (simp (maxDischargeDepth := 4) [hc, hs, hf, cur_iff, go_sem]; go_simp))); go_region_held3 (fun w' => Reg (W2.heap.size) (W2) w' ∧ w'.cell? ⟨w1.heap.size, 0, none⟩ = some (.int .i64 p0) ∧ w'.cell? ⟨w1.heap.size, 1, none⟩ = some (.int .i64 q0) ∧ w'.cell? ⟨w1.heap.size + 1, 0, none⟩ = some (.int .i64 p1) ∧ w'.cell? ⟨w1.heap.size + 1, 1, none⟩ = some (.int .i64 q1)) (exact HS.out _ (by (repeat first | with_reducible exact Reg.refl _ _ | with_reducible exact Reg.drewN2 _ _ _ _ | with_reducible exact (‹Reg _ _ _ ∧ _›).1 | (with_reducible refine Reg.setCell ?_ ?_ _; rotate_left; exact (by first | omega | ((try simp only [World.size_alloc, World.size_setCell, size_drew, size_drewN]); omega) | (simp; done) | (simp; omega))) | with_reducible refine Reg.alloc ?_ _ | with_reducible refine Reg.drew ?_ | with_reducible refine Reg.drewN ?_ _ | (with_reducible apply Reg.call; rotate_left; with_reducible assumption)))) (first | (go_at_call 107; refine (HP.out _ _ _).mono ?_; rintro e w9 ⟨rfl, hb⟩; (first | (with_reducible have hk := Nat.lt_of_lt_of_le (size_alloc_lt _ _) hb.size) | (with_reducible have hk := Nat.lt_of_lt_of_le (size_alloc_drew_lt _ _) hb.size) | (with_reducible have hk := Nat.lt_of_lt_of_le hk hb.size) | skip); (try simp only [World.size_alloc, World.size_setCell, size_drew, size_drewN] at hk); obtain ⟨hc, hf⟩ := bcell hb; have hs := hb.size; (try simp only [World.size_alloc, World.size_setCell, size_drew, size_drewN] at hs)))
  all_goals go_wp2_with fail
  all_goals go_ret3
  all_goals (have hs9 := hB2.size; exact ⟨rfl, (Reg.out (‹Reg _ _ _ ∧ _›).1 (by (with_reducible repeat first | exact Below.refl _ _ | assumption | ((first | refine Below.setCell ?_ ?_ _ | refine Below.alloc ?_ ?_ _); rotate_left; exact (by first | omega | (simp; done) | (simp; omega))) | refine Below.drew ?_ | refine Below_drewN ?_ _)) (by first | omega | (simp; done) | (simp; omega)))⟩)

end Go.Proofs.YtnikdbglpimadaaGreat
end
