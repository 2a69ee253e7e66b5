import Derived.Test.YtnikdbglpimadaaGreatJAS
import Derived.Test.YtnikdbglpimadaaGreatJBJ
section
/- Package control: Errors, proved, over this seat's translation (written by mk_cte.py). -/
namespace Go.Proofs.YtnikdbglpimadaaGreat
set_option linter.unusedVariables false
set_option linter.unusedSimpArgs false
open Go.RowKit Go.Shelf

/-- What Errors answers: both errors and the error number. -/
def errL (gr gz : Int) (s : ShapeD) : Int × Int × Int × Int × Int :=
  if goalB gr gz = true then if okS s = true then if (subL gr gr s.a0 s.b0).2.2 = 0 then if (subL gz gz s.a1 s.b1).2.2 = 0 then
    ((subL gr gr s.a0 s.b0).1, (subL gr gr s.a0 s.b0).2.1, (subL gz gz s.a1 s.b1).1, (subL gz gz s.a1 s.b1).2.1, 0)
  else (0, 0, 0, 0, 9) else (0, 0, 0, 0, 9) else (0, 0, 0, 0, 1) else (0, 0, 0, 0, 1)

/-- Two boxes that are stored onto themselves. -/
structure SelfS (r z : Nat) (p0 q0 p1 q1 : Value) (B : Nat) (W w' : World) : Prop where
  r : RowL r [p0, q0] w'
  z : RowL z [p1, q1] w'
  b : Below B W w'
theorem SelfS.drew {r z : Nat} {p0 q0 p1 q1 : Value} {B : Nat} {W w' : World} (h : SelfS r z p0 q0 p1 q1 B W w') : SelfS r z p0 q0 p1 q1 B W w'.drew := ⟨h.r.drew, h.z.drew, h.b.drew⟩
theorem SelfS.drewN {r z : Nat} {p0 q0 p1 q1 : Value} {B : Nat} {W w' : World} (h : SelfS r z p0 q0 p1 q1 B W w') (n : Nat) : SelfS r z p0 q0 p1 q1 B W (w'.drewN n) :=
  ⟨h.r.below (Below_drewN (Below.refl _ _) n), h.z.below (Below_drewN (Below.refl _ _) n), Below_drewN h.b n⟩

theorem resE {fn : Func} {p q u : Tmp} (h : fn.results = #[.cell p 44, .cell q 44, .tmp u]) (tmps : Array Value) (W : World) (a b : Nat) (x0 x1 y0 y1 z : Value)
    (hp : tmps.getD p undef = .pointer (some ⟨a, 0, none⟩)) (hq : tmps.getD q undef = .pointer (some ⟨b, 0, none⟩)) (hu : tmps.getD u undef = z)
    (h0 : W.cell? ⟨a, 0, none⟩ = some x0) (h1 : W.cell? ⟨a, 1, none⟩ = some x1) (h2 : W.cell? ⟨b, 0, none⟩ = some y0) (h3 : W.cell? ⟨b, 1, none⟩ = some y1) :
    (results fn tmps).run Tryz.prog W = .ok (.tuple #[.agg #[x0, x1], .agg #[y0, y1], z]) W := by
  have hp' : tmps[p]?.getD undef = .pointer (some ⟨a, 0, none⟩) := by simpa using hp
  have hq' : tmps[q]?.getD undef = .pointer (some ⟨b, 0, none⟩) := by simpa using hq
  have hu' : tmps[u]?.getD undef = z := by simpa using hu
  simp only [results, h]
  simp [Sem.run_bind, Result.andThen, go_sem, hp', hq', hu', h0, h1, h2, h3]

set_option maxRecDepth 100000 in
set_option maxHeartbeats 8000000 in
theorem errors_any (gr gz : Int) (s : ShapeD) (w : World) :
    Calls Tryz.prog 27 #[.agg #[.int .i64 gr, .int .i64 gz], s.v] w (Ret (.tuple #[.agg #[.int .i64 (errL gr gz s).1, .int .i64 (errL gr gz s).2.1], .agg #[.int .i64 (errL gr gz s).2.2.1, .int .i64 (errL gr gz s).2.2.2.1], .int .i64 (errL gr gz s).2.2.2.2]) w) := by
  have HG := Lib.hid (fun W => goal_any gr gz W)
  have HO0 := Lib.hid (fun W => validShape_any s W)
  unfold errL
  cases hg : goalB gr gz
  · rw [hg] at HG
    rw [if_neg (by decide)]
    clear HO0
    obtain ⟨a0, b0, a1, b1, a2, b2, a3, b3, a4, b4, a5, b5, a6, b6, a7, b7⟩ := s
    show Calls Tryz.prog 27 #[.agg #[.int .i64 gr, .int .i64 gz], .agg #[.int .i64 a0, .int .i64 b0, .int .i64 a1, .int .i64 b1, .int .i64 a2, .int .i64 b2, .int .i64 a3, .int .i64 b3, .int .i64 a4, .int .i64 b4, .int .i64 a5, .int .i64 b5, .int .i64 a6, .int .i64 b6, .int .i64 a7, .int .i64 b7]] w _
    go_enter Tryz.func27, Tryz.ntmps27
    go_upto_region 1 with (fail)
    have Fg : Hid (RowL (w.heap.size) [.int .i64 gr, .int .i64 gz] ((((w.alloc (.cells #[.int .i64 gr, .int .i64 gz] 78)).alloc (.cells #[.int .i64 a0, .int .i64 b0, .int .i64 a1, .int .i64 b1, .int .i64 a2, .int .i64 b2, .int .i64 a3, .int .i64 b3, .int .i64 a4, .int .i64 b4, .int .i64 a5, .int .i64 b5, .int .i64 a6, .int .i64 b6, .int .i64 a7, .int .i64 b7] 70)).alloc (.cells #[.int .i64 0, .int .i64 0] 44)).alloc (.cells #[.int .i64 0, .int .i64 0] 44))) := Lib.hid (by have h := RowL.new w #[.int .i64 gr, .int .i64 gz] 78; (try simp only [World.size_alloc] at h); exact (((h.alloc _).alloc _).alloc _))
    have Fs : Hid (RowL (w.heap.size + 1) [.int .i64 a0, .int .i64 b0, .int .i64 a1, .int .i64 b1, .int .i64 a2, .int .i64 b2, .int .i64 a3, .int .i64 b3, .int .i64 a4, .int .i64 b4, .int .i64 a5, .int .i64 b5, .int .i64 a6, .int .i64 b6, .int .i64 a7, .int .i64 b7] ((((w.alloc (.cells #[.int .i64 gr, .int .i64 gz] 78)).alloc (.cells #[.int .i64 a0, .int .i64 b0, .int .i64 a1, .int .i64 b1, .int .i64 a2, .int .i64 b2, .int .i64 a3, .int .i64 b3, .int .i64 a4, .int .i64 b4, .int .i64 a5, .int .i64 b5, .int .i64 a6, .int .i64 b6, .int .i64 a7, .int .i64 b7] 70)).alloc (.cells #[.int .i64 0, .int .i64 0] 44)).alloc (.cells #[.int .i64 0, .int .i64 0] 44))) := Lib.hid (by have h := RowL.new (w.alloc (.cells #[.int .i64 gr, .int .i64 gz] 78)) #[.int .i64 a0, .int .i64 b0, .int .i64 a1, .int .i64 b1, .int .i64 a2, .int .i64 b2, .int .i64 a3, .int .i64 b3, .int .i64 a4, .int .i64 b4, .int .i64 a5, .int .i64 b5, .int .i64 a6, .int .i64 b6, .int .i64 a7, .int .i64 b7] 70; (try simp only [World.size_alloc] at h); exact ((h.alloc _).alloc _))
    have Fr : Hid (RowL (w.heap.size + 1 + 1) [.int .i64 0, .int .i64 0] ((((w.alloc (.cells #[.int .i64 gr, .int .i64 gz] 78)).alloc (.cells #[.int .i64 a0, .int .i64 b0, .int .i64 a1, .int .i64 b1, .int .i64 a2, .int .i64 b2, .int .i64 a3, .int .i64 b3, .int .i64 a4, .int .i64 b4, .int .i64 a5, .int .i64 b5, .int .i64 a6, .int .i64 b6, .int .i64 a7, .int .i64 b7] 70)).alloc (.cells #[.int .i64 0, .int .i64 0] 44)).alloc (.cells #[.int .i64 0, .int .i64 0] 44))) := Lib.hid (by have h := RowL.new ((w.alloc (.cells #[.int .i64 gr, .int .i64 gz] 78)).alloc (.cells #[.int .i64 a0, .int .i64 b0, .int .i64 a1, .int .i64 b1, .int .i64 a2, .int .i64 b2, .int .i64 a3, .int .i64 b3, .int .i64 a4, .int .i64 b4, .int .i64 a5, .int .i64 b5, .int .i64 a6, .int .i64 b6, .int .i64 a7, .int .i64 b7] 70)) #[.int .i64 0, .int .i64 0] 44; (try simp only [World.size_alloc] at h); exact (h.alloc _))
    have Fz : Hid (RowL (w.heap.size + 1 + 1 + 1) [.int .i64 0, .int .i64 0] ((((w.alloc (.cells #[.int .i64 gr, .int .i64 gz] 78)).alloc (.cells #[.int .i64 a0, .int .i64 b0, .int .i64 a1, .int .i64 b1, .int .i64 a2, .int .i64 b2, .int .i64 a3, .int .i64 b3, .int .i64 a4, .int .i64 b4, .int .i64 a5, .int .i64 b5, .int .i64 a6, .int .i64 b6, .int .i64 a7, .int .i64 b7] 70)).alloc (.cells #[.int .i64 0, .int .i64 0] 44)).alloc (.cells #[.int .i64 0, .int .i64 0] 44))) := Lib.hid (by have h := RowL.new (((w.alloc (.cells #[.int .i64 gr, .int .i64 gz] 78)).alloc (.cells #[.int .i64 a0, .int .i64 b0, .int .i64 a1, .int .i64 b1, .int .i64 a2, .int .i64 b2, .int .i64 a3, .int .i64 b3, .int .i64 a4, .int .i64 b4, .int .i64 a5, .int .i64 b5, .int .i64 a6, .int .i64 b6, .int .i64 a7, .int .i64 b7] 70)).alloc (.cells #[.int .i64 0, .int .i64 0] 44)) #[.int .i64 0, .int .i64 0] 44; (try simp only [World.size_alloc] at h); exact h)
    have hB0 : Below w.heap.size w ((((w.alloc (.cells #[.int .i64 gr, .int .i64 gz] 78)).alloc (.cells #[.int .i64 a0, .int .i64 b0, .int .i64 a1, .int .i64 b1, .int .i64 a2, .int .i64 b2, .int .i64 a3, .int .i64 b3, .int .i64 a4, .int .i64 b4, .int .i64 a5, .int .i64 b5, .int .i64 a6, .int .i64 b6, .int .i64 a7, .int .i64 b7] 70)).alloc (.cells #[.int .i64 0, .int .i64 0] 44)).alloc (.cells #[.int .i64 0, .int .i64 0] 44)) := by (with_reducible repeat first | exact Below.refl _ _ | assumption | ((first | refine Below.setCell ?_ ?_ _ | refine Below.alloc ?_ ?_ _); rotate_left; exact (by first | omega | (simp; done) | (simp; omega))) | refine Below.drew ?_ | refine Below_drewN ?_ _)
    have sW0 : w.heap.size + 1 + 1 + 1 < ((((w.alloc (.cells #[.int .i64 gr, .int .i64 gz] 78)).alloc (.cells #[.int .i64 a0, .int .i64 b0, .int .i64 a1, .int .i64 b1, .int .i64 a2, .int .i64 b2, .int .i64 a3, .int .i64 b3, .int .i64 a4, .int .i64 b4, .int .i64 a5, .int .i64 b5, .int .i64 a6, .int .i64 b6, .int .i64 a7, .int .i64 b7] 70)).alloc (.cells #[.int .i64 0, .int .i64 0] 44)).alloc (.cells #[.int .i64 0, .int .i64 0] 44)).heap.size := by simp only [World.size_alloc]; omega
    obtain ⟨W0, hW0⟩ : ∃ W, ((((w.alloc (.cells #[.int .i64 gr, .int .i64 gz] 78)).alloc (.cells #[.int .i64 a0, .int .i64 b0, .int .i64 a1, .int .i64 b1, .int .i64 a2, .int .i64 b2, .int .i64 a3, .int .i64 b3, .int .i64 a4, .int .i64 b4, .int .i64 a5, .int .i64 b5, .int .i64 a6, .int .i64 b6, .int .i64 a7, .int .i64 b7] 70)).alloc (.cells #[.int .i64 0, .int .i64 0] 44)).alloc (.cells #[.int .i64 0, .int .i64 0] 44)) = W := ⟨_, rfl⟩
    rw [hW0] at Fg Fs Fr Fz hB0 sW0 ⊢
    clear hW0
    have g0 := Fg.out.cell 0 (.int .i64 gr) rfl
    have g1 := Fg.out.cell 1 (.int .i64 gz) rfl
    have s0 := Fs.out.cell 0 (.int .i64 a0) rfl
    have s1 := Fs.out.cell 1 (.int .i64 b0) rfl
    have s2 := Fs.out.cell 2 (.int .i64 a1) rfl
    have s3 := Fs.out.cell 3 (.int .i64 b1) rfl
    have s4 := Fs.out.cell 4 (.int .i64 a2) rfl
    have s5 := Fs.out.cell 5 (.int .i64 b2) rfl
    have s6 := Fs.out.cell 6 (.int .i64 a3) rfl
    have s7 := Fs.out.cell 7 (.int .i64 b3) rfl
    have s8 := Fs.out.cell 8 (.int .i64 a4) rfl
    have s9 := Fs.out.cell 9 (.int .i64 b4) rfl
    have s10 := Fs.out.cell 10 (.int .i64 a5) rfl
    have s11 := Fs.out.cell 11 (.int .i64 b5) rfl
    have s12 := Fs.out.cell 12 (.int .i64 a6) rfl
    have s13 := Fs.out.cell 13 (.int .i64 b6) rfl
    have s14 := Fs.out.cell 14 (.int .i64 a7) rfl
    have s15 := Fs.out.cell 15 (.int .i64 b7) rfl
    have r0 := Fr.out.cell 0 (.int .i64 0) rfl
    have rf0 := Fr.out.mark 0 (by simp)
    have r1 := Fr.out.cell 1 (.int .i64 0) rfl
    have rf1 := Fr.out.mark 1 (by simp)
    have z0 := Fz.out.cell 0 (.int .i64 0) rfl
    have zf0 := Fz.out.mark 0 (by simp)
    have z1 := Fz.out.cell 1 (.int .i64 0) rfl
    have zf1 := Fz.out.mark 1 (by simp)
    go_wp2_with fail
    refine (HG.out _).mono ?_
    rintro e w1 ⟨rfl, hb⟩
    clear g0 g1 s0 s1 s2 s3 s4 s5 s6 s7 s8 s9 s10 s11 s12 s13 s14 s15 r0 rf0 r1 rf1 z0 zf0 z1 zf1
    have Gg := Lib.hid (Fg.out.below hb)
    clear Fg
    have Fg := Lib.hid Gg.out
    clear Gg
    have Gs := Lib.hid (Fs.out.below hb)
    clear Fs
    have Fs := Lib.hid Gs.out
    clear Gs
    have Gr := Lib.hid (Fr.out.below hb)
    clear Fr
    have Fr := Lib.hid Gr.out
    clear Gr
    have Gz := Lib.hid (Fz.out.below hb)
    clear Fz
    have Fz := Lib.hid Gz.out
    clear Gz
    have g0 := Fg.out.cell 0 (.int .i64 gr) rfl
    have g1 := Fg.out.cell 1 (.int .i64 gz) rfl
    have s0 := Fs.out.cell 0 (.int .i64 a0) rfl
    have s1 := Fs.out.cell 1 (.int .i64 b0) rfl
    have s2 := Fs.out.cell 2 (.int .i64 a1) rfl
    have s3 := Fs.out.cell 3 (.int .i64 b1) rfl
    have s4 := Fs.out.cell 4 (.int .i64 a2) rfl
    have s5 := Fs.out.cell 5 (.int .i64 b2) rfl
    have s6 := Fs.out.cell 6 (.int .i64 a3) rfl
    have s7 := Fs.out.cell 7 (.int .i64 b3) rfl
    have s8 := Fs.out.cell 8 (.int .i64 a4) rfl
    have s9 := Fs.out.cell 9 (.int .i64 b4) rfl
    have s10 := Fs.out.cell 10 (.int .i64 a5) rfl
    have s11 := Fs.out.cell 11 (.int .i64 b5) rfl
    have s12 := Fs.out.cell 12 (.int .i64 a6) rfl
    have s13 := Fs.out.cell 13 (.int .i64 b6) rfl
    have s14 := Fs.out.cell 14 (.int .i64 a7) rfl
    have s15 := Fs.out.cell 15 (.int .i64 b7) rfl
    have r0 := Fr.out.cell 0 (.int .i64 0) rfl
    have rf0 := Fr.out.mark 0 (by simp)
    have r1 := Fr.out.cell 1 (.int .i64 0) rfl
    have rf1 := Fr.out.mark 1 (by simp)
    have z0 := Fz.out.cell 0 (.int .i64 0) rfl
    have zf0 := Fz.out.mark 0 (by simp)
    have z1 := Fz.out.cell 1 (.int .i64 0) rfl
    have zf1 := Fz.out.mark 1 (by simp)
    have hBw1 := hB0.trans (hb.mono hB0.size)
    have hzw1 : w.heap.size + 1 + 1 + 1 < w1.heap.size := Nat.lt_of_lt_of_le (by assumption) hb.size
    have hyw1 : w.heap.size + 1 + 1 < w1.heap.size := by omega
    clear hb
    go_wp2_with fail
    have HRz := (((Fr.out.put 0 (.int .i64 0) (by simp)).put 1 (.int .i64 0) (by simp)).far (p := ⟨w.heap.size + 1 + 1 + 1, 0, none⟩) (by dsimp only; omega) (.int .i64 0)).far (p := ⟨w.heap.size + 1 + 1 + 1, 1, none⟩) (by dsimp only; omega) (.int .i64 0)
    have HZz := (((Fz.out.far (p := ⟨w.heap.size + 1 + 1, 0, none⟩) (by dsimp only; omega) (.int .i64 0)).far (p := ⟨w.heap.size + 1 + 1, 1, none⟩) (by dsimp only; omega) (.int .i64 0)).put 0 (.int .i64 0) (by simp)).put 1 (.int .i64 0) (by simp)
    exact bodyPost_ret (resE Tryz.results27 _ _ _ _ _ _ _ _ _ rfl rfl rfl (HRz.cell 0 _ rfl) (HRz.cell 1 _ rfl) (HZz.cell 0 _ rfl) (HZz.cell 1 _ rfl)) rfl ⟨rfl, by (with_reducible repeat first | exact Below.refl _ _ | assumption | ((first | refine Below.setCell ?_ ?_ _ | refine Below.alloc ?_ ?_ _); rotate_left; exact (by first | omega | (simp; done) | (simp; omega))) | refine Below.drew ?_ | refine Below_drewN ?_ _)⟩
  rw [hg] at HG
  rw [if_pos rfl]
  clear hg
  cases ho : okS s
  · rw [ho] at HO0
    rw [if_neg (by decide)]
    obtain ⟨a0, b0, a1, b1, a2, b2, a3, b3, a4, b4, a5, b5, a6, b6, a7, b7⟩ := s
    dsimp only at *
    have HO := Lib.hid (show ∀ W, Calls Tryz.prog 55 #[.agg #[.int .i64 a0, .int .i64 b0, .int .i64 a1, .int .i64 b1, .int .i64 a2, .int .i64 b2, .int .i64 a3, .int .i64 b3, .int .i64 a4, .int .i64 b4, .int .i64 a5, .int .i64 b5, .int .i64 a6, .int .i64 b6, .int .i64 a7, .int .i64 b7]] W (Ret (.bool false) W) from HO0.out)
    clear HO0 ho
    show Calls Tryz.prog 27 #[.agg #[.int .i64 gr, .int .i64 gz], .agg #[.int .i64 a0, .int .i64 b0, .int .i64 a1, .int .i64 b1, .int .i64 a2, .int .i64 b2, .int .i64 a3, .int .i64 b3, .int .i64 a4, .int .i64 b4, .int .i64 a5, .int .i64 b5, .int .i64 a6, .int .i64 b6, .int .i64 a7, .int .i64 b7]] w _
    go_enter Tryz.func27, Tryz.ntmps27
    go_upto_region 1 with (fail)
    have Fg : Hid (RowL (w.heap.size) [.int .i64 gr, .int .i64 gz] ((((w.alloc (.cells #[.int .i64 gr, .int .i64 gz] 78)).alloc (.cells #[.int .i64 a0, .int .i64 b0, .int .i64 a1, .int .i64 b1, .int .i64 a2, .int .i64 b2, .int .i64 a3, .int .i64 b3, .int .i64 a4, .int .i64 b4, .int .i64 a5, .int .i64 b5, .int .i64 a6, .int .i64 b6, .int .i64 a7, .int .i64 b7] 70)).alloc (.cells #[.int .i64 0, .int .i64 0] 44)).alloc (.cells #[.int .i64 0, .int .i64 0] 44))) := Lib.hid (by have h := RowL.new w #[.int .i64 gr, .int .i64 gz] 78; (try simp only [World.size_alloc] at h); exact (((h.alloc _).alloc _).alloc _))
    have Fs : Hid (RowL (w.heap.size + 1) [.int .i64 a0, .int .i64 b0, .int .i64 a1, .int .i64 b1, .int .i64 a2, .int .i64 b2, .int .i64 a3, .int .i64 b3, .int .i64 a4, .int .i64 b4, .int .i64 a5, .int .i64 b5, .int .i64 a6, .int .i64 b6, .int .i64 a7, .int .i64 b7] ((((w.alloc (.cells #[.int .i64 gr, .int .i64 gz] 78)).alloc (.cells #[.int .i64 a0, .int .i64 b0, .int .i64 a1, .int .i64 b1, .int .i64 a2, .int .i64 b2, .int .i64 a3, .int .i64 b3, .int .i64 a4, .int .i64 b4, .int .i64 a5, .int .i64 b5, .int .i64 a6, .int .i64 b6, .int .i64 a7, .int .i64 b7] 70)).alloc (.cells #[.int .i64 0, .int .i64 0] 44)).alloc (.cells #[.int .i64 0, .int .i64 0] 44))) := Lib.hid (by have h := RowL.new (w.alloc (.cells #[.int .i64 gr, .int .i64 gz] 78)) #[.int .i64 a0, .int .i64 b0, .int .i64 a1, .int .i64 b1, .int .i64 a2, .int .i64 b2, .int .i64 a3, .int .i64 b3, .int .i64 a4, .int .i64 b4, .int .i64 a5, .int .i64 b5, .int .i64 a6, .int .i64 b6, .int .i64 a7, .int .i64 b7] 70; (try simp only [World.size_alloc] at h); exact ((h.alloc _).alloc _))
    have Fr : Hid (RowL (w.heap.size + 1 + 1) [.int .i64 0, .int .i64 0] ((((w.alloc (.cells #[.int .i64 gr, .int .i64 gz] 78)).alloc (.cells #[.int .i64 a0, .int .i64 b0, .int .i64 a1, .int .i64 b1, .int .i64 a2, .int .i64 b2, .int .i64 a3, .int .i64 b3, .int .i64 a4, .int .i64 b4, .int .i64 a5, .int .i64 b5, .int .i64 a6, .int .i64 b6, .int .i64 a7, .int .i64 b7] 70)).alloc (.cells #[.int .i64 0, .int .i64 0] 44)).alloc (.cells #[.int .i64 0, .int .i64 0] 44))) := Lib.hid (by have h := RowL.new ((w.alloc (.cells #[.int .i64 gr, .int .i64 gz] 78)).alloc (.cells #[.int .i64 a0, .int .i64 b0, .int .i64 a1, .int .i64 b1, .int .i64 a2, .int .i64 b2, .int .i64 a3, .int .i64 b3, .int .i64 a4, .int .i64 b4, .int .i64 a5, .int .i64 b5, .int .i64 a6, .int .i64 b6, .int .i64 a7, .int .i64 b7] 70)) #[.int .i64 0, .int .i64 0] 44; (try simp only [World.size_alloc] at h); exact (h.alloc _))
    have Fz : Hid (RowL (w.heap.size + 1 + 1 + 1) [.int .i64 0, .int .i64 0] ((((w.alloc (.cells #[.int .i64 gr, .int .i64 gz] 78)).alloc (.cells #[.int .i64 a0, .int .i64 b0, .int .i64 a1, .int .i64 b1, .int .i64 a2, .int .i64 b2, .int .i64 a3, .int .i64 b3, .int .i64 a4, .int .i64 b4, .int .i64 a5, .int .i64 b5, .int .i64 a6, .int .i64 b6, .int .i64 a7, .int .i64 b7] 70)).alloc (.cells #[.int .i64 0, .int .i64 0] 44)).alloc (.cells #[.int .i64 0, .int .i64 0] 44))) := Lib.hid (by have h := RowL.new (((w.alloc (.cells #[.int .i64 gr, .int .i64 gz] 78)).alloc (.cells #[.int .i64 a0, .int .i64 b0, .int .i64 a1, .int .i64 b1, .int .i64 a2, .int .i64 b2, .int .i64 a3, .int .i64 b3, .int .i64 a4, .int .i64 b4, .int .i64 a5, .int .i64 b5, .int .i64 a6, .int .i64 b6, .int .i64 a7, .int .i64 b7] 70)).alloc (.cells #[.int .i64 0, .int .i64 0] 44)) #[.int .i64 0, .int .i64 0] 44; (try simp only [World.size_alloc] at h); exact h)
    have hB0 : Below w.heap.size w ((((w.alloc (.cells #[.int .i64 gr, .int .i64 gz] 78)).alloc (.cells #[.int .i64 a0, .int .i64 b0, .int .i64 a1, .int .i64 b1, .int .i64 a2, .int .i64 b2, .int .i64 a3, .int .i64 b3, .int .i64 a4, .int .i64 b4, .int .i64 a5, .int .i64 b5, .int .i64 a6, .int .i64 b6, .int .i64 a7, .int .i64 b7] 70)).alloc (.cells #[.int .i64 0, .int .i64 0] 44)).alloc (.cells #[.int .i64 0, .int .i64 0] 44)) := by (with_reducible repeat first | exact Below.refl _ _ | assumption | ((first | refine Below.setCell ?_ ?_ _ | refine Below.alloc ?_ ?_ _); rotate_left; exact (by first | omega | (simp; done) | (simp; omega))) | refine Below.drew ?_ | refine Below_drewN ?_ _)
    have sW0 : w.heap.size + 1 + 1 + 1 < ((((w.alloc (.cells #[.int .i64 gr, .int .i64 gz] 78)).alloc (.cells #[.int .i64 a0, .int .i64 b0, .int .i64 a1, .int .i64 b1, .int .i64 a2, .int .i64 b2, .int .i64 a3, .int .i64 b3, .int .i64 a4, .int .i64 b4, .int .i64 a5, .int .i64 b5, .int .i64 a6, .int .i64 b6, .int .i64 a7, .int .i64 b7] 70)).alloc (.cells #[.int .i64 0, .int .i64 0] 44)).alloc (.cells #[.int .i64 0, .int .i64 0] 44)).heap.size := by simp only [World.size_alloc]; omega
    obtain ⟨W0, hW0⟩ : ∃ W, ((((w.alloc (.cells #[.int .i64 gr, .int .i64 gz] 78)).alloc (.cells #[.int .i64 a0, .int .i64 b0, .int .i64 a1, .int .i64 b1, .int .i64 a2, .int .i64 b2, .int .i64 a3, .int .i64 b3, .int .i64 a4, .int .i64 b4, .int .i64 a5, .int .i64 b5, .int .i64 a6, .int .i64 b6, .int .i64 a7, .int .i64 b7] 70)).alloc (.cells #[.int .i64 0, .int .i64 0] 44)).alloc (.cells #[.int .i64 0, .int .i64 0] 44)) = W := ⟨_, rfl⟩
    rw [hW0] at Fg Fs Fr Fz hB0 sW0 ⊢
    clear hW0
    have g0 := Fg.out.cell 0 (.int .i64 gr) rfl
    have g1 := Fg.out.cell 1 (.int .i64 gz) rfl
    have s0 := Fs.out.cell 0 (.int .i64 a0) rfl
    have s1 := Fs.out.cell 1 (.int .i64 b0) rfl
    have s2 := Fs.out.cell 2 (.int .i64 a1) rfl
    have s3 := Fs.out.cell 3 (.int .i64 b1) rfl
    have s4 := Fs.out.cell 4 (.int .i64 a2) rfl
    have s5 := Fs.out.cell 5 (.int .i64 b2) rfl
    have s6 := Fs.out.cell 6 (.int .i64 a3) rfl
    have s7 := Fs.out.cell 7 (.int .i64 b3) rfl
    have s8 := Fs.out.cell 8 (.int .i64 a4) rfl
    have s9 := Fs.out.cell 9 (.int .i64 b4) rfl
    have s10 := Fs.out.cell 10 (.int .i64 a5) rfl
    have s11 := Fs.out.cell 11 (.int .i64 b5) rfl
    have s12 := Fs.out.cell 12 (.int .i64 a6) rfl
    have s13 := Fs.out.cell 13 (.int .i64 b6) rfl
    have s14 := Fs.out.cell 14 (.int .i64 a7) rfl
    have s15 := Fs.out.cell 15 (.int .i64 b7) rfl
    have r0 := Fr.out.cell 0 (.int .i64 0) rfl
    have rf0 := Fr.out.mark 0 (by simp)
    have r1 := Fr.out.cell 1 (.int .i64 0) rfl
    have rf1 := Fr.out.mark 1 (by simp)
    have z0 := Fz.out.cell 0 (.int .i64 0) rfl
    have zf0 := Fz.out.mark 0 (by simp)
    have z1 := Fz.out.cell 1 (.int .i64 0) rfl
    have zf1 := Fz.out.mark 1 (by simp)
    go_wp2_with fail
    refine (HG.out _).mono ?_
    rintro e w1 ⟨rfl, hb⟩
    clear g0 g1 s0 s1 s2 s3 s4 s5 s6 s7 s8 s9 s10 s11 s12 s13 s14 s15 r0 rf0 r1 rf1 z0 zf0 z1 zf1
    have Gg := Lib.hid (Fg.out.below hb)
    clear Fg
    have Fg := Lib.hid Gg.out
    clear Gg
    have Gs := Lib.hid (Fs.out.below hb)
    clear Fs
    have Fs := Lib.hid Gs.out
    clear Gs
    have Gr := Lib.hid (Fr.out.below hb)
    clear Fr
    have Fr := Lib.hid Gr.out
    clear Gr
    have Gz := Lib.hid (Fz.out.below hb)
    clear Fz
    have Fz := Lib.hid Gz.out
    clear Gz
    have g0 := Fg.out.cell 0 (.int .i64 gr) rfl
    have g1 := Fg.out.cell 1 (.int .i64 gz) rfl
    have s0 := Fs.out.cell 0 (.int .i64 a0) rfl
    have s1 := Fs.out.cell 1 (.int .i64 b0) rfl
    have s2 := Fs.out.cell 2 (.int .i64 a1) rfl
    have s3 := Fs.out.cell 3 (.int .i64 b1) rfl
    have s4 := Fs.out.cell 4 (.int .i64 a2) rfl
    have s5 := Fs.out.cell 5 (.int .i64 b2) rfl
    have s6 := Fs.out.cell 6 (.int .i64 a3) rfl
    have s7 := Fs.out.cell 7 (.int .i64 b3) rfl
    have s8 := Fs.out.cell 8 (.int .i64 a4) rfl
    have s9 := Fs.out.cell 9 (.int .i64 b4) rfl
    have s10 := Fs.out.cell 10 (.int .i64 a5) rfl
    have s11 := Fs.out.cell 11 (.int .i64 b5) rfl
    have s12 := Fs.out.cell 12 (.int .i64 a6) rfl
    have s13 := Fs.out.cell 13 (.int .i64 b6) rfl
    have s14 := Fs.out.cell 14 (.int .i64 a7) rfl
    have s15 := Fs.out.cell 15 (.int .i64 b7) rfl
    have r0 := Fr.out.cell 0 (.int .i64 0) rfl
    have rf0 := Fr.out.mark 0 (by simp)
    have r1 := Fr.out.cell 1 (.int .i64 0) rfl
    have rf1 := Fr.out.mark 1 (by simp)
    have z0 := Fz.out.cell 0 (.int .i64 0) rfl
    have zf0 := Fz.out.mark 0 (by simp)
    have z1 := Fz.out.cell 1 (.int .i64 0) rfl
    have zf1 := Fz.out.mark 1 (by simp)
    have hBw1 := hB0.trans (hb.mono hB0.size)
    have hzw1 : w.heap.size + 1 + 1 + 1 < w1.heap.size := Nat.lt_of_lt_of_le (by assumption) hb.size
    have hyw1 : w.heap.size + 1 + 1 < w1.heap.size := by omega
    clear hb
    go_wp2_with fail
    refine (HO.out _).mono ?_
    rintro e w2 ⟨rfl, hb⟩
    clear g0 g1 s0 s1 s2 s3 s4 s5 s6 s7 s8 s9 s10 s11 s12 s13 s14 s15 r0 rf0 r1 rf1 z0 zf0 z1 zf1
    have Gg := Lib.hid (Fg.out.below hb)
    clear Fg
    have Fg := Lib.hid Gg.out
    clear Gg
    have Gs := Lib.hid (Fs.out.below hb)
    clear Fs
    have Fs := Lib.hid Gs.out
    clear Gs
    have Gr := Lib.hid (Fr.out.below hb)
    clear Fr
    have Fr := Lib.hid Gr.out
    clear Gr
    have Gz := Lib.hid (Fz.out.below hb)
    clear Fz
    have Fz := Lib.hid Gz.out
    clear Gz
    have g0 := Fg.out.cell 0 (.int .i64 gr) rfl
    have g1 := Fg.out.cell 1 (.int .i64 gz) rfl
    have s0 := Fs.out.cell 0 (.int .i64 a0) rfl
    have s1 := Fs.out.cell 1 (.int .i64 b0) rfl
    have s2 := Fs.out.cell 2 (.int .i64 a1) rfl
    have s3 := Fs.out.cell 3 (.int .i64 b1) rfl
    have s4 := Fs.out.cell 4 (.int .i64 a2) rfl
    have s5 := Fs.out.cell 5 (.int .i64 b2) rfl
    have s6 := Fs.out.cell 6 (.int .i64 a3) rfl
    have s7 := Fs.out.cell 7 (.int .i64 b3) rfl
    have s8 := Fs.out.cell 8 (.int .i64 a4) rfl
    have s9 := Fs.out.cell 9 (.int .i64 b4) rfl
    have s10 := Fs.out.cell 10 (.int .i64 a5) rfl
    have s11 := Fs.out.cell 11 (.int .i64 b5) rfl
    have s12 := Fs.out.cell 12 (.int .i64 a6) rfl
    have s13 := Fs.out.cell 13 (.int .i64 b6) rfl
    have s14 := Fs.out.cell 14 (.int .i64 a7) rfl
    have s15 := Fs.out.cell 15 (.int .i64 b7) rfl
    have r0 := Fr.out.cell 0 (.int .i64 0) rfl
    have rf0 := Fr.out.mark 0 (by simp)
    have r1 := Fr.out.cell 1 (.int .i64 0) rfl
    have rf1 := Fr.out.mark 1 (by simp)
    have z0 := Fz.out.cell 0 (.int .i64 0) rfl
    have zf0 := Fz.out.mark 0 (by simp)
    have z1 := Fz.out.cell 1 (.int .i64 0) rfl
    have zf1 := Fz.out.mark 1 (by simp)
    have hBw2 := hBw1.trans (hb.mono hBw1.size)
    have hzw2 : w.heap.size + 1 + 1 + 1 < w2.heap.size := Nat.lt_of_lt_of_le (by assumption) hb.size
    have hyw2 : w.heap.size + 1 + 1 < w2.heap.size := by omega
    clear hb
    go_wp2_with fail
    have HRz := (((Fr.out.put 0 (.int .i64 0) (by simp)).put 1 (.int .i64 0) (by simp)).far (p := ⟨w.heap.size + 1 + 1 + 1, 0, none⟩) (by dsimp only; omega) (.int .i64 0)).far (p := ⟨w.heap.size + 1 + 1 + 1, 1, none⟩) (by dsimp only; omega) (.int .i64 0)
    have HZz := (((Fz.out.far (p := ⟨w.heap.size + 1 + 1, 0, none⟩) (by dsimp only; omega) (.int .i64 0)).far (p := ⟨w.heap.size + 1 + 1, 1, none⟩) (by dsimp only; omega) (.int .i64 0)).put 0 (.int .i64 0) (by simp)).put 1 (.int .i64 0) (by simp)
    exact bodyPost_ret (resE Tryz.results27 _ _ _ _ _ _ _ _ _ rfl rfl rfl (HRz.cell 0 _ rfl) (HRz.cell 1 _ rfl) (HZz.cell 0 _ rfl) (HZz.cell 1 _ rfl)) rfl ⟨rfl, by (with_reducible repeat first | exact Below.refl _ _ | assumption | ((first | refine Below.setCell ?_ ?_ _ | refine Below.alloc ?_ ?_ _); rotate_left; exact (by first | omega | (simp; done) | (simp; omega))) | refine Below.drew ?_ | refine Below_drewN ?_ _)⟩
  rw [ho] at HO0
  rw [if_pos rfl]
  clear ho
  obtain ⟨a0, b0, a1, b1, a2, b2, a3, b3, a4, b4, a5, b5, a6, b6, a7, b7⟩ := s
  (try dsimp only at *)
  have HO := Lib.hid (show ∀ W, Calls Tryz.prog 55 #[.agg #[.int .i64 a0, .int .i64 b0, .int .i64 a1, .int .i64 b1, .int .i64 a2, .int .i64 b2, .int .i64 a3, .int .i64 b3, .int .i64 a4, .int .i64 b4, .int .i64 a5, .int .i64 b5, .int .i64 a6, .int .i64 b6, .int .i64 a7, .int .i64 b7]] W (Ret (.bool true) W) from HO0.out)
  have HA0 := Lib.hid (fun W => sub_any gr gr a0 b0 W)
  have HB0 := Lib.hid (fun W => sub_any gz gz a1 b1 W)
  generalize subL gr gr a0 b0 = U at *
  generalize subL gz gz a1 b1 = V at *
  obtain ⟨p0, q0, e0⟩ := U
  obtain ⟨p1, q1, e1⟩ := V
  dsimp only at *
  have HA := Lib.hid HA0.out
  have HB := Lib.hid HB0.out
  clear HO0 HA0 HB0
  show Calls Tryz.prog 27 #[.agg #[.int .i64 gr, .int .i64 gz], .agg #[.int .i64 a0, .int .i64 b0, .int .i64 a1, .int .i64 b1, .int .i64 a2, .int .i64 b2, .int .i64 a3, .int .i64 b3, .int .i64 a4, .int .i64 b4, .int .i64 a5, .int .i64 b5, .int .i64 a6, .int .i64 b6, .int .i64 a7, .int .i64 b7]] w _
  by_cases k0 : e0 = 0
  rotate_left
  · have d0 : (e0 != 0) = true := by rw [bne_iff_ne]; exact k0
    rw [if_neg k0]
    clear k0
    go_enter Tryz.func27, Tryz.ntmps27
    go_upto_region 1 with (fail)
    have Fg : Hid (RowL (w.heap.size) [.int .i64 gr, .int .i64 gz] ((((w.alloc (.cells #[.int .i64 gr, .int .i64 gz] 78)).alloc (.cells #[.int .i64 a0, .int .i64 b0, .int .i64 a1, .int .i64 b1, .int .i64 a2, .int .i64 b2, .int .i64 a3, .int .i64 b3, .int .i64 a4, .int .i64 b4, .int .i64 a5, .int .i64 b5, .int .i64 a6, .int .i64 b6, .int .i64 a7, .int .i64 b7] 70)).alloc (.cells #[.int .i64 0, .int .i64 0] 44)).alloc (.cells #[.int .i64 0, .int .i64 0] 44))) := Lib.hid (by have h := RowL.new w #[.int .i64 gr, .int .i64 gz] 78; (try simp only [World.size_alloc] at h); exact (((h.alloc _).alloc _).alloc _))
    have Fs : Hid (RowL (w.heap.size + 1) [.int .i64 a0, .int .i64 b0, .int .i64 a1, .int .i64 b1, .int .i64 a2, .int .i64 b2, .int .i64 a3, .int .i64 b3, .int .i64 a4, .int .i64 b4, .int .i64 a5, .int .i64 b5, .int .i64 a6, .int .i64 b6, .int .i64 a7, .int .i64 b7] ((((w.alloc (.cells #[.int .i64 gr, .int .i64 gz] 78)).alloc (.cells #[.int .i64 a0, .int .i64 b0, .int .i64 a1, .int .i64 b1, .int .i64 a2, .int .i64 b2, .int .i64 a3, .int .i64 b3, .int .i64 a4, .int .i64 b4, .int .i64 a5, .int .i64 b5, .int .i64 a6, .int .i64 b6, .int .i64 a7, .int .i64 b7] 70)).alloc (.cells #[.int .i64 0, .int .i64 0] 44)).alloc (.cells #[.int .i64 0, .int .i64 0] 44))) := Lib.hid (by have h := RowL.new (w.alloc (.cells #[.int .i64 gr, .int .i64 gz] 78)) #[.int .i64 a0, .int .i64 b0, .int .i64 a1, .int .i64 b1, .int .i64 a2, .int .i64 b2, .int .i64 a3, .int .i64 b3, .int .i64 a4, .int .i64 b4, .int .i64 a5, .int .i64 b5, .int .i64 a6, .int .i64 b6, .int .i64 a7, .int .i64 b7] 70; (try simp only [World.size_alloc] at h); exact ((h.alloc _).alloc _))
    have Fr : Hid (RowL (w.heap.size + 1 + 1) [.int .i64 0, .int .i64 0] ((((w.alloc (.cells #[.int .i64 gr, .int .i64 gz] 78)).alloc (.cells #[.int .i64 a0, .int .i64 b0, .int .i64 a1, .int .i64 b1, .int .i64 a2, .int .i64 b2, .int .i64 a3, .int .i64 b3, .int .i64 a4, .int .i64 b4, .int .i64 a5, .int .i64 b5, .int .i64 a6, .int .i64 b6, .int .i64 a7, .int .i64 b7] 70)).alloc (.cells #[.int .i64 0, .int .i64 0] 44)).alloc (.cells #[.int .i64 0, .int .i64 0] 44))) := Lib.hid (by have h := RowL.new ((w.alloc (.cells #[.int .i64 gr, .int .i64 gz] 78)).alloc (.cells #[.int .i64 a0, .int .i64 b0, .int .i64 a1, .int .i64 b1, .int .i64 a2, .int .i64 b2, .int .i64 a3, .int .i64 b3, .int .i64 a4, .int .i64 b4, .int .i64 a5, .int .i64 b5, .int .i64 a6, .int .i64 b6, .int .i64 a7, .int .i64 b7] 70)) #[.int .i64 0, .int .i64 0] 44; (try simp only [World.size_alloc] at h); exact (h.alloc _))
    have Fz : Hid (RowL (w.heap.size + 1 + 1 + 1) [.int .i64 0, .int .i64 0] ((((w.alloc (.cells #[.int .i64 gr, .int .i64 gz] 78)).alloc (.cells #[.int .i64 a0, .int .i64 b0, .int .i64 a1, .int .i64 b1, .int .i64 a2, .int .i64 b2, .int .i64 a3, .int .i64 b3, .int .i64 a4, .int .i64 b4, .int .i64 a5, .int .i64 b5, .int .i64 a6, .int .i64 b6, .int .i64 a7, .int .i64 b7] 70)).alloc (.cells #[.int .i64 0, .int .i64 0] 44)).alloc (.cells #[.int .i64 0, .int .i64 0] 44))) := Lib.hid (by have h := RowL.new (((w.alloc (.cells #[.int .i64 gr, .int .i64 gz] 78)).alloc (.cells #[.int .i64 a0, .int .i64 b0, .int .i64 a1, .int .i64 b1, .int .i64 a2, .int .i64 b2, .int .i64 a3, .int .i64 b3, .int .i64 a4, .int .i64 b4, .int .i64 a5, .int .i64 b5, .int .i64 a6, .int .i64 b6, .int .i64 a7, .int .i64 b7] 70)).alloc (.cells #[.int .i64 0, .int .i64 0] 44)) #[.int .i64 0, .int .i64 0] 44; (try simp only [World.size_alloc] at h); exact h)
    have hB0 : Below w.heap.size w ((((w.alloc (.cells #[.int .i64 gr, .int .i64 gz] 78)).alloc (.cells #[.int .i64 a0, .int .i64 b0, .int .i64 a1, .int .i64 b1, .int .i64 a2, .int .i64 b2, .int .i64 a3, .int .i64 b3, .int .i64 a4, .int .i64 b4, .int .i64 a5, .int .i64 b5, .int .i64 a6, .int .i64 b6, .int .i64 a7, .int .i64 b7] 70)).alloc (.cells #[.int .i64 0, .int .i64 0] 44)).alloc (.cells #[.int .i64 0, .int .i64 0] 44)) := by (with_reducible repeat first | exact Below.refl _ _ | assumption | ((first | refine Below.setCell ?_ ?_ _ | refine Below.alloc ?_ ?_ _); rotate_left; exact (by first | omega | (simp; done) | (simp; omega))) | refine Below.drew ?_ | refine Below_drewN ?_ _)
    have sW0 : w.heap.size + 1 + 1 + 1 < ((((w.alloc (.cells #[.int .i64 gr, .int .i64 gz] 78)).alloc (.cells #[.int .i64 a0, .int .i64 b0, .int .i64 a1, .int .i64 b1, .int .i64 a2, .int .i64 b2, .int .i64 a3, .int .i64 b3, .int .i64 a4, .int .i64 b4, .int .i64 a5, .int .i64 b5, .int .i64 a6, .int .i64 b6, .int .i64 a7, .int .i64 b7] 70)).alloc (.cells #[.int .i64 0, .int .i64 0] 44)).alloc (.cells #[.int .i64 0, .int .i64 0] 44)).heap.size := by simp only [World.size_alloc]; omega
    obtain ⟨W0, hW0⟩ : ∃ W, ((((w.alloc (.cells #[.int .i64 gr, .int .i64 gz] 78)).alloc (.cells #[.int .i64 a0, .int .i64 b0, .int .i64 a1, .int .i64 b1, .int .i64 a2, .int .i64 b2, .int .i64 a3, .int .i64 b3, .int .i64 a4, .int .i64 b4, .int .i64 a5, .int .i64 b5, .int .i64 a6, .int .i64 b6, .int .i64 a7, .int .i64 b7] 70)).alloc (.cells #[.int .i64 0, .int .i64 0] 44)).alloc (.cells #[.int .i64 0, .int .i64 0] 44)) = W := ⟨_, rfl⟩
    rw [hW0] at Fg Fs Fr Fz hB0 sW0 ⊢
    clear hW0
    have g0 := Fg.out.cell 0 (.int .i64 gr) rfl
    have g1 := Fg.out.cell 1 (.int .i64 gz) rfl
    have s0 := Fs.out.cell 0 (.int .i64 a0) rfl
    have s1 := Fs.out.cell 1 (.int .i64 b0) rfl
    have s2 := Fs.out.cell 2 (.int .i64 a1) rfl
    have s3 := Fs.out.cell 3 (.int .i64 b1) rfl
    have s4 := Fs.out.cell 4 (.int .i64 a2) rfl
    have s5 := Fs.out.cell 5 (.int .i64 b2) rfl
    have s6 := Fs.out.cell 6 (.int .i64 a3) rfl
    have s7 := Fs.out.cell 7 (.int .i64 b3) rfl
    have s8 := Fs.out.cell 8 (.int .i64 a4) rfl
    have s9 := Fs.out.cell 9 (.int .i64 b4) rfl
    have s10 := Fs.out.cell 10 (.int .i64 a5) rfl
    have s11 := Fs.out.cell 11 (.int .i64 b5) rfl
    have s12 := Fs.out.cell 12 (.int .i64 a6) rfl
    have s13 := Fs.out.cell 13 (.int .i64 b6) rfl
    have s14 := Fs.out.cell 14 (.int .i64 a7) rfl
    have s15 := Fs.out.cell 15 (.int .i64 b7) rfl
    have r0 := Fr.out.cell 0 (.int .i64 0) rfl
    have rf0 := Fr.out.mark 0 (by simp)
    have r1 := Fr.out.cell 1 (.int .i64 0) rfl
    have rf1 := Fr.out.mark 1 (by simp)
    have z0 := Fz.out.cell 0 (.int .i64 0) rfl
    have zf0 := Fz.out.mark 0 (by simp)
    have z1 := Fz.out.cell 1 (.int .i64 0) rfl
    have zf1 := Fz.out.mark 1 (by simp)
    go_wp2_with fail
    refine (HG.out _).mono ?_
    rintro e w1 ⟨rfl, hb⟩
    clear g0 g1 s0 s1 s2 s3 s4 s5 s6 s7 s8 s9 s10 s11 s12 s13 s14 s15 r0 rf0 r1 rf1 z0 zf0 z1 zf1
    have Gg := Lib.hid (Fg.out.below hb)
    clear Fg
    have Fg := Lib.hid Gg.out
    clear Gg
    have Gs := Lib.hid (Fs.out.below hb)
    clear Fs
    have Fs := Lib.hid Gs.out
    clear Gs
    have Gr := Lib.hid (Fr.out.below hb)
    clear Fr
    have Fr := Lib.hid Gr.out
    clear Gr
    have Gz := Lib.hid (Fz.out.below hb)
    clear Fz
    have Fz := Lib.hid Gz.out
    clear Gz
    have g0 := Fg.out.cell 0 (.int .i64 gr) rfl
    have g1 := Fg.out.cell 1 (.int .i64 gz) rfl
    have s0 := Fs.out.cell 0 (.int .i64 a0) rfl
    have s1 := Fs.out.cell 1 (.int .i64 b0) rfl
    have s2 := Fs.out.cell 2 (.int .i64 a1) rfl
    have s3 := Fs.out.cell 3 (.int .i64 b1) rfl
    have s4 := Fs.out.cell 4 (.int .i64 a2) rfl
    have s5 := Fs.out.cell 5 (.int .i64 b2) rfl
    have s6 := Fs.out.cell 6 (.int .i64 a3) rfl
    have s7 := Fs.out.cell 7 (.int .i64 b3) rfl
    have s8 := Fs.out.cell 8 (.int .i64 a4) rfl
    have s9 := Fs.out.cell 9 (.int .i64 b4) rfl
    have s10 := Fs.out.cell 10 (.int .i64 a5) rfl
    have s11 := Fs.out.cell 11 (.int .i64 b5) rfl
    have s12 := Fs.out.cell 12 (.int .i64 a6) rfl
    have s13 := Fs.out.cell 13 (.int .i64 b6) rfl
    have s14 := Fs.out.cell 14 (.int .i64 a7) rfl
    have s15 := Fs.out.cell 15 (.int .i64 b7) rfl
    have r0 := Fr.out.cell 0 (.int .i64 0) rfl
    have rf0 := Fr.out.mark 0 (by simp)
    have r1 := Fr.out.cell 1 (.int .i64 0) rfl
    have rf1 := Fr.out.mark 1 (by simp)
    have z0 := Fz.out.cell 0 (.int .i64 0) rfl
    have zf0 := Fz.out.mark 0 (by simp)
    have z1 := Fz.out.cell 1 (.int .i64 0) rfl
    have zf1 := Fz.out.mark 1 (by simp)
    have hBw1 := hB0.trans (hb.mono hB0.size)
    have hzw1 : w.heap.size + 1 + 1 + 1 < w1.heap.size := Nat.lt_of_lt_of_le (by assumption) hb.size
    have hyw1 : w.heap.size + 1 + 1 < w1.heap.size := by omega
    clear hb
    go_wp2_with fail
    refine (HO.out _).mono ?_
    rintro e w2 ⟨rfl, hb⟩
    clear g0 g1 s0 s1 s2 s3 s4 s5 s6 s7 s8 s9 s10 s11 s12 s13 s14 s15 r0 rf0 r1 rf1 z0 zf0 z1 zf1
    have Gg := Lib.hid (Fg.out.below hb)
    clear Fg
    have Fg := Lib.hid Gg.out
    clear Gg
    have Gs := Lib.hid (Fs.out.below hb)
    clear Fs
    have Fs := Lib.hid Gs.out
    clear Gs
    have Gr := Lib.hid (Fr.out.below hb)
    clear Fr
    have Fr := Lib.hid Gr.out
    clear Gr
    have Gz := Lib.hid (Fz.out.below hb)
    clear Fz
    have Fz := Lib.hid Gz.out
    clear Gz
    have g0 := Fg.out.cell 0 (.int .i64 gr) rfl
    have g1 := Fg.out.cell 1 (.int .i64 gz) rfl
    have s0 := Fs.out.cell 0 (.int .i64 a0) rfl
    have s1 := Fs.out.cell 1 (.int .i64 b0) rfl
    have s2 := Fs.out.cell 2 (.int .i64 a1) rfl
    have s3 := Fs.out.cell 3 (.int .i64 b1) rfl
    have s4 := Fs.out.cell 4 (.int .i64 a2) rfl
    have s5 := Fs.out.cell 5 (.int .i64 b2) rfl
    have s6 := Fs.out.cell 6 (.int .i64 a3) rfl
    have s7 := Fs.out.cell 7 (.int .i64 b3) rfl
    have s8 := Fs.out.cell 8 (.int .i64 a4) rfl
    have s9 := Fs.out.cell 9 (.int .i64 b4) rfl
    have s10 := Fs.out.cell 10 (.int .i64 a5) rfl
    have s11 := Fs.out.cell 11 (.int .i64 b5) rfl
    have s12 := Fs.out.cell 12 (.int .i64 a6) rfl
    have s13 := Fs.out.cell 13 (.int .i64 b6) rfl
    have s14 := Fs.out.cell 14 (.int .i64 a7) rfl
    have s15 := Fs.out.cell 15 (.int .i64 b7) rfl
    have r0 := Fr.out.cell 0 (.int .i64 0) rfl
    have rf0 := Fr.out.mark 0 (by simp)
    have r1 := Fr.out.cell 1 (.int .i64 0) rfl
    have rf1 := Fr.out.mark 1 (by simp)
    have z0 := Fz.out.cell 0 (.int .i64 0) rfl
    have zf0 := Fz.out.mark 0 (by simp)
    have z1 := Fz.out.cell 1 (.int .i64 0) rfl
    have zf1 := Fz.out.mark 1 (by simp)
    have hBw2 := hBw1.trans (hb.mono hBw1.size)
    have hzw2 : w.heap.size + 1 + 1 + 1 < w2.heap.size := Nat.lt_of_lt_of_le (by assumption) hb.size
    have hyw2 : w.heap.size + 1 + 1 < w2.heap.size := by omega
    clear hb
    go_wp2_with fail
    refine (HA.out _).mono ?_
    rintro e w3 ⟨rfl, hb⟩
    clear g0 g1 s0 s1 s2 s3 s4 s5 s6 s7 s8 s9 s10 s11 s12 s13 s14 s15 r0 rf0 r1 rf1 z0 zf0 z1 zf1
    have Gg := Lib.hid (Fg.out.below hb)
    clear Fg
    have Fg := Lib.hid Gg.out
    clear Gg
    have Gs := Lib.hid (Fs.out.below hb)
    clear Fs
    have Fs := Lib.hid Gs.out
    clear Gs
    have Gr := Lib.hid (Fr.out.below hb)
    clear Fr
    have Fr := Lib.hid Gr.out
    clear Gr
    have Gz := Lib.hid (Fz.out.below hb)
    clear Fz
    have Fz := Lib.hid Gz.out
    clear Gz
    have g0 := Fg.out.cell 0 (.int .i64 gr) rfl
    have g1 := Fg.out.cell 1 (.int .i64 gz) rfl
    have s0 := Fs.out.cell 0 (.int .i64 a0) rfl
    have s1 := Fs.out.cell 1 (.int .i64 b0) rfl
    have s2 := Fs.out.cell 2 (.int .i64 a1) rfl
    have s3 := Fs.out.cell 3 (.int .i64 b1) rfl
    have s4 := Fs.out.cell 4 (.int .i64 a2) rfl
    have s5 := Fs.out.cell 5 (.int .i64 b2) rfl
    have s6 := Fs.out.cell 6 (.int .i64 a3) rfl
    have s7 := Fs.out.cell 7 (.int .i64 b3) rfl
    have s8 := Fs.out.cell 8 (.int .i64 a4) rfl
    have s9 := Fs.out.cell 9 (.int .i64 b4) rfl
    have s10 := Fs.out.cell 10 (.int .i64 a5) rfl
    have s11 := Fs.out.cell 11 (.int .i64 b5) rfl
    have s12 := Fs.out.cell 12 (.int .i64 a6) rfl
    have s13 := Fs.out.cell 13 (.int .i64 b6) rfl
    have s14 := Fs.out.cell 14 (.int .i64 a7) rfl
    have s15 := Fs.out.cell 15 (.int .i64 b7) rfl
    have r0 := Fr.out.cell 0 (.int .i64 0) rfl
    have rf0 := Fr.out.mark 0 (by simp)
    have r1 := Fr.out.cell 1 (.int .i64 0) rfl
    have rf1 := Fr.out.mark 1 (by simp)
    have z0 := Fz.out.cell 0 (.int .i64 0) rfl
    have zf0 := Fz.out.mark 0 (by simp)
    have z1 := Fz.out.cell 1 (.int .i64 0) rfl
    have zf1 := Fz.out.mark 1 (by simp)
    have hBw3 := hBw2.trans (hb.mono hBw2.size)
    have hzw3 : w.heap.size + 1 + 1 + 1 < w3.heap.size := Nat.lt_of_lt_of_le (by assumption) hb.size
    have hyw3 : w.heap.size + 1 + 1 < w3.heap.size := by omega
    clear hb
    go_upto_region 4 with (fail)
    have Gg : Hid (RowL (w.heap.size) [.int .i64 gr, .int .i64 gz] ((w3.setCell ⟨w.heap.size + 1 + 1, 0, none⟩ (.int .i64 p0)).setCell ⟨w.heap.size + 1 + 1, 1, none⟩ (.int .i64 q0))) := Lib.hid ((Fg.out.far (by dsimp only; omega) _).far (by dsimp only; omega) _)
    have Gs : Hid (RowL ((w.heap.size + 1)) [.int .i64 a0, .int .i64 b0, .int .i64 a1, .int .i64 b1, .int .i64 a2, .int .i64 b2, .int .i64 a3, .int .i64 b3, .int .i64 a4, .int .i64 b4, .int .i64 a5, .int .i64 b5, .int .i64 a6, .int .i64 b6, .int .i64 a7, .int .i64 b7] ((w3.setCell ⟨w.heap.size + 1 + 1, 0, none⟩ (.int .i64 p0)).setCell ⟨w.heap.size + 1 + 1, 1, none⟩ (.int .i64 q0))) := Lib.hid ((Fs.out.far (by dsimp only; omega) _).far (by dsimp only; omega) _)
    have Gr : Hid (RowL (w.heap.size + 1 + 1) [.int .i64 p0, .int .i64 q0] ((w3.setCell ⟨w.heap.size + 1 + 1, 0, none⟩ (.int .i64 p0)).setCell ⟨w.heap.size + 1 + 1, 1, none⟩ (.int .i64 q0))) := Lib.hid ((Fr.out.put 0 _ (by simp)).put 1 _ (by simp))
    have Gz : Hid (RowL ((w.heap.size + 1 + 1 + 1)) [.int .i64 0, .int .i64 0] ((w3.setCell ⟨w.heap.size + 1 + 1, 0, none⟩ (.int .i64 p0)).setCell ⟨w.heap.size + 1 + 1, 1, none⟩ (.int .i64 q0))) := Lib.hid ((Fz.out.far (by dsimp only; omega) _).far (by dsimp only; omega) _)
    have hBW4 : Below w.heap.size w ((w3.setCell ⟨w.heap.size + 1 + 1, 0, none⟩ (.int .i64 p0)).setCell ⟨w.heap.size + 1 + 1, 1, none⟩ (.int .i64 q0)) := by (with_reducible repeat first | exact Below.refl _ _ | assumption | ((first | refine Below.setCell ?_ ?_ _ | refine Below.alloc ?_ ?_ _); rotate_left; exact (by first | omega | (simp; done) | (simp; omega))) | refine Below.drew ?_ | refine Below_drewN ?_ _)
    have hzW4 : w.heap.size + 1 + 1 + 1 < ((w3.setCell ⟨w.heap.size + 1 + 1, 0, none⟩ (.int .i64 p0)).setCell ⟨w.heap.size + 1 + 1, 1, none⟩ (.int .i64 q0)).heap.size := by (try simp only [World.size_setCell]); omega
    have hyW4 : w.heap.size + 1 + 1 < ((w3.setCell ⟨w.heap.size + 1 + 1, 0, none⟩ (.int .i64 p0)).setCell ⟨w.heap.size + 1 + 1, 1, none⟩ (.int .i64 q0)).heap.size := by (try simp only [World.size_setCell]); omega
    obtain ⟨W4, hW4⟩ : ∃ W, ((w3.setCell ⟨w.heap.size + 1 + 1, 0, none⟩ (.int .i64 p0)).setCell ⟨w.heap.size + 1 + 1, 1, none⟩ (.int .i64 q0)) = W := ⟨_, rfl⟩
    rw [hW4] at Gg Gs Gr Gz hBW4 hzW4 hyW4 ⊢
    clear hW4 g0 g1 s0 s1 s2 s3 s4 s5 s6 s7 s8 s9 s10 s11 s12 s13 s14 s15 r0 rf0 r1 rf1 z0 zf0 z1 zf1
    clear Fg
    have Fg := Lib.hid Gg.out
    clear Gg
    clear Fs
    have Fs := Lib.hid Gs.out
    clear Gs
    clear Fr
    have Fr := Lib.hid Gr.out
    clear Gr
    clear Fz
    have Fz := Lib.hid Gz.out
    clear Gz
    have g0 := Fg.out.cell 0 (.int .i64 gr) rfl
    have g1 := Fg.out.cell 1 (.int .i64 gz) rfl
    have s0 := Fs.out.cell 0 (.int .i64 a0) rfl
    have s1 := Fs.out.cell 1 (.int .i64 b0) rfl
    have s2 := Fs.out.cell 2 (.int .i64 a1) rfl
    have s3 := Fs.out.cell 3 (.int .i64 b1) rfl
    have s4 := Fs.out.cell 4 (.int .i64 a2) rfl
    have s5 := Fs.out.cell 5 (.int .i64 b2) rfl
    have s6 := Fs.out.cell 6 (.int .i64 a3) rfl
    have s7 := Fs.out.cell 7 (.int .i64 b3) rfl
    have s8 := Fs.out.cell 8 (.int .i64 a4) rfl
    have s9 := Fs.out.cell 9 (.int .i64 b4) rfl
    have s10 := Fs.out.cell 10 (.int .i64 a5) rfl
    have s11 := Fs.out.cell 11 (.int .i64 b5) rfl
    have s12 := Fs.out.cell 12 (.int .i64 a6) rfl
    have s13 := Fs.out.cell 13 (.int .i64 b6) rfl
    have s14 := Fs.out.cell 14 (.int .i64 a7) rfl
    have s15 := Fs.out.cell 15 (.int .i64 b7) rfl
    have r0 := Fr.out.cell 0 (.int .i64 p0) rfl
    have rf0 := Fr.out.mark 0 (by simp)
    have r1 := Fr.out.cell 1 (.int .i64 q0) rfl
    have rf1 := Fr.out.mark 1 (by simp)
    have z0 := Fz.out.cell 0 (.int .i64 0) rfl
    have zf0 := Fz.out.mark 0 (by simp)
    have z1 := Fz.out.cell 1 (.int .i64 0) rfl
    have zf1 := Fz.out.mark 1 (by simp)
    go_wp2_with fail
    refine (HB.out _).mono ?_
    rintro e w5 ⟨rfl, hb⟩
    clear g0 g1 s0 s1 s2 s3 s4 s5 s6 s7 s8 s9 s10 s11 s12 s13 s14 s15 r0 rf0 r1 rf1 z0 zf0 z1 zf1
    have Gg := Lib.hid (Fg.out.below hb)
    clear Fg
    have Fg := Lib.hid Gg.out
    clear Gg
    have Gs := Lib.hid (Fs.out.below hb)
    clear Fs
    have Fs := Lib.hid Gs.out
    clear Gs
    have Gr := Lib.hid (Fr.out.below hb)
    clear Fr
    have Fr := Lib.hid Gr.out
    clear Gr
    have Gz := Lib.hid (Fz.out.below hb)
    clear Fz
    have Fz := Lib.hid Gz.out
    clear Gz
    have g0 := Fg.out.cell 0 (.int .i64 gr) rfl
    have g1 := Fg.out.cell 1 (.int .i64 gz) rfl
    have s0 := Fs.out.cell 0 (.int .i64 a0) rfl
    have s1 := Fs.out.cell 1 (.int .i64 b0) rfl
    have s2 := Fs.out.cell 2 (.int .i64 a1) rfl
    have s3 := Fs.out.cell 3 (.int .i64 b1) rfl
    have s4 := Fs.out.cell 4 (.int .i64 a2) rfl
    have s5 := Fs.out.cell 5 (.int .i64 b2) rfl
    have s6 := Fs.out.cell 6 (.int .i64 a3) rfl
    have s7 := Fs.out.cell 7 (.int .i64 b3) rfl
    have s8 := Fs.out.cell 8 (.int .i64 a4) rfl
    have s9 := Fs.out.cell 9 (.int .i64 b4) rfl
    have s10 := Fs.out.cell 10 (.int .i64 a5) rfl
    have s11 := Fs.out.cell 11 (.int .i64 b5) rfl
    have s12 := Fs.out.cell 12 (.int .i64 a6) rfl
    have s13 := Fs.out.cell 13 (.int .i64 b6) rfl
    have s14 := Fs.out.cell 14 (.int .i64 a7) rfl
    have s15 := Fs.out.cell 15 (.int .i64 b7) rfl
    have r0 := Fr.out.cell 0 (.int .i64 p0) rfl
    have rf0 := Fr.out.mark 0 (by simp)
    have r1 := Fr.out.cell 1 (.int .i64 q0) rfl
    have rf1 := Fr.out.mark 1 (by simp)
    have z0 := Fz.out.cell 0 (.int .i64 0) rfl
    have zf0 := Fz.out.mark 0 (by simp)
    have z1 := Fz.out.cell 1 (.int .i64 0) rfl
    have zf1 := Fz.out.mark 1 (by simp)
    have hBw5 := hBW4.trans (hb.mono hBW4.size)
    have hzw5 : w.heap.size + 1 + 1 + 1 < w5.heap.size := Nat.lt_of_lt_of_le (by assumption) hb.size
    have hyw5 : w.heap.size + 1 + 1 < w5.heap.size := by omega
    clear hb
    go_upto_region 5 with (fail)
    have Gg : Hid (RowL (w.heap.size) [.int .i64 gr, .int .i64 gz] ((w5.setCell ⟨w.heap.size + 1 + 1 + 1, 0, none⟩ (.int .i64 p1)).setCell ⟨w.heap.size + 1 + 1 + 1, 1, none⟩ (.int .i64 q1))) := Lib.hid ((Fg.out.far (by dsimp only; omega) _).far (by dsimp only; omega) _)
    have Gs : Hid (RowL ((w.heap.size + 1)) [.int .i64 a0, .int .i64 b0, .int .i64 a1, .int .i64 b1, .int .i64 a2, .int .i64 b2, .int .i64 a3, .int .i64 b3, .int .i64 a4, .int .i64 b4, .int .i64 a5, .int .i64 b5, .int .i64 a6, .int .i64 b6, .int .i64 a7, .int .i64 b7] ((w5.setCell ⟨w.heap.size + 1 + 1 + 1, 0, none⟩ (.int .i64 p1)).setCell ⟨w.heap.size + 1 + 1 + 1, 1, none⟩ (.int .i64 q1))) := Lib.hid ((Fs.out.far (by dsimp only; omega) _).far (by dsimp only; omega) _)
    have Gr : Hid (RowL ((w.heap.size + 1 + 1)) [.int .i64 p0, .int .i64 q0] ((w5.setCell ⟨w.heap.size + 1 + 1 + 1, 0, none⟩ (.int .i64 p1)).setCell ⟨w.heap.size + 1 + 1 + 1, 1, none⟩ (.int .i64 q1))) := Lib.hid ((Fr.out.far (by dsimp only; omega) _).far (by dsimp only; omega) _)
    have Gz : Hid (RowL (w.heap.size + 1 + 1 + 1) [.int .i64 p1, .int .i64 q1] ((w5.setCell ⟨w.heap.size + 1 + 1 + 1, 0, none⟩ (.int .i64 p1)).setCell ⟨w.heap.size + 1 + 1 + 1, 1, none⟩ (.int .i64 q1))) := Lib.hid ((Fz.out.put 0 _ (by simp)).put 1 _ (by simp))
    have hBW6 : Below w.heap.size w ((w5.setCell ⟨w.heap.size + 1 + 1 + 1, 0, none⟩ (.int .i64 p1)).setCell ⟨w.heap.size + 1 + 1 + 1, 1, none⟩ (.int .i64 q1)) := by (with_reducible repeat first | exact Below.refl _ _ | assumption | ((first | refine Below.setCell ?_ ?_ _ | refine Below.alloc ?_ ?_ _); rotate_left; exact (by first | omega | (simp; done) | (simp; omega))) | refine Below.drew ?_ | refine Below_drewN ?_ _)
    have hzW6 : w.heap.size + 1 + 1 + 1 < ((w5.setCell ⟨w.heap.size + 1 + 1 + 1, 0, none⟩ (.int .i64 p1)).setCell ⟨w.heap.size + 1 + 1 + 1, 1, none⟩ (.int .i64 q1)).heap.size := by (try simp only [World.size_setCell]); omega
    have hyW6 : w.heap.size + 1 + 1 < ((w5.setCell ⟨w.heap.size + 1 + 1 + 1, 0, none⟩ (.int .i64 p1)).setCell ⟨w.heap.size + 1 + 1 + 1, 1, none⟩ (.int .i64 q1)).heap.size := by (try simp only [World.size_setCell]); omega
    obtain ⟨W6, hW6⟩ : ∃ W, ((w5.setCell ⟨w.heap.size + 1 + 1 + 1, 0, none⟩ (.int .i64 p1)).setCell ⟨w.heap.size + 1 + 1 + 1, 1, none⟩ (.int .i64 q1)) = W := ⟨_, rfl⟩
    rw [hW6] at Gg Gs Gr Gz hBW6 hzW6 hyW6 ⊢
    clear hW6 g0 g1 s0 s1 s2 s3 s4 s5 s6 s7 s8 s9 s10 s11 s12 s13 s14 s15 r0 rf0 r1 rf1 z0 zf0 z1 zf1
    clear Fg
    have Fg := Lib.hid Gg.out
    clear Gg
    clear Fs
    have Fs := Lib.hid Gs.out
    clear Gs
    clear Fr
    have Fr := Lib.hid Gr.out
    clear Gr
    clear Fz
    have Fz := Lib.hid Gz.out
    clear Gz
    have g0 := Fg.out.cell 0 (.int .i64 gr) rfl
    have g1 := Fg.out.cell 1 (.int .i64 gz) rfl
    have s0 := Fs.out.cell 0 (.int .i64 a0) rfl
    have s1 := Fs.out.cell 1 (.int .i64 b0) rfl
    have s2 := Fs.out.cell 2 (.int .i64 a1) rfl
    have s3 := Fs.out.cell 3 (.int .i64 b1) rfl
    have s4 := Fs.out.cell 4 (.int .i64 a2) rfl
    have s5 := Fs.out.cell 5 (.int .i64 b2) rfl
    have s6 := Fs.out.cell 6 (.int .i64 a3) rfl
    have s7 := Fs.out.cell 7 (.int .i64 b3) rfl
    have s8 := Fs.out.cell 8 (.int .i64 a4) rfl
    have s9 := Fs.out.cell 9 (.int .i64 b4) rfl
    have s10 := Fs.out.cell 10 (.int .i64 a5) rfl
    have s11 := Fs.out.cell 11 (.int .i64 b5) rfl
    have s12 := Fs.out.cell 12 (.int .i64 a6) rfl
    have s13 := Fs.out.cell 13 (.int .i64 b6) rfl
    have s14 := Fs.out.cell 14 (.int .i64 a7) rfl
    have s15 := Fs.out.cell 15 (.int .i64 b7) rfl
    have r0 := Fr.out.cell 0 (.int .i64 p0) rfl
    have rf0 := Fr.out.mark 0 (by simp)
    have r1 := Fr.out.cell 1 (.int .i64 q0) rfl
    have rf1 := Fr.out.mark 1 (by simp)
    have z0 := Fz.out.cell 0 (.int .i64 p1) rfl
    have zf0 := Fz.out.mark 0 (by simp)
    have z1 := Fz.out.cell 1 (.int .i64 q1) rfl
    have zf1 := Fz.out.mark 1 (by simp)
    clear g0 g1 s0 s1 s2 s3 s4 s5 s6 s7 s8 s9 s10 s11 s12 s13 s14 s15 Fg Fs HG HO HA HB
    go_wp2_with fail
    have HRz := (((Fr.out.put 0 (.int .i64 0) (by simp)).put 1 (.int .i64 0) (by simp)).far (p := ⟨w.heap.size + 1 + 1 + 1, 0, none⟩) (by dsimp only; omega) (.int .i64 0)).far (p := ⟨w.heap.size + 1 + 1 + 1, 1, none⟩) (by dsimp only; omega) (.int .i64 0)
    have HZz := (((Fz.out.far (p := ⟨w.heap.size + 1 + 1, 0, none⟩) (by dsimp only; omega) (.int .i64 0)).far (p := ⟨w.heap.size + 1 + 1, 1, none⟩) (by dsimp only; omega) (.int .i64 0)).put 0 (.int .i64 0) (by simp)).put 1 (.int .i64 0) (by simp)
    exact bodyPost_ret (resE Tryz.results27 _ _ _ _ _ _ _ _ _ rfl rfl rfl (HRz.cell 0 _ rfl) (HRz.cell 1 _ rfl) (HZz.cell 0 _ rfl) (HZz.cell 1 _ rfl)) rfl ⟨rfl, by (with_reducible repeat first | exact Below.refl _ _ | assumption | ((first | refine Below.setCell ?_ ?_ _ | refine Below.alloc ?_ ?_ _); rotate_left; exact (by first | omega | (simp; done) | (simp; omega))) | refine Below.drew ?_ | refine Below_drewN ?_ _)⟩
  · subst k0
    rw [if_pos rfl]
    by_cases k1 : e1 = 0
    rotate_left
    · have d1 : (e1 != 0) = true := by rw [bne_iff_ne]; exact k1
      rw [if_neg k1]
      clear k1
      go_enter Tryz.func27, Tryz.ntmps27
      go_upto_region 1 with (fail)
      have Fg : Hid (RowL (w.heap.size) [.int .i64 gr, .int .i64 gz] ((((w.alloc (.cells #[.int .i64 gr, .int .i64 gz] 78)).alloc (.cells #[.int .i64 a0, .int .i64 b0, .int .i64 a1, .int .i64 b1, .int .i64 a2, .int .i64 b2, .int .i64 a3, .int .i64 b3, .int .i64 a4, .int .i64 b4, .int .i64 a5, .int .i64 b5, .int .i64 a6, .int .i64 b6, .int .i64 a7, .int .i64 b7] 70)).alloc (.cells #[.int .i64 0, .int .i64 0] 44)).alloc (.cells #[.int .i64 0, .int .i64 0] 44))) := Lib.hid (by have h := RowL.new w #[.int .i64 gr, .int .i64 gz] 78; (try simp only [World.size_alloc] at h); exact (((h.alloc _).alloc _).alloc _))
      have Fs : Hid (RowL (w.heap.size + 1) [.int .i64 a0, .int .i64 b0, .int .i64 a1, .int .i64 b1, .int .i64 a2, .int .i64 b2, .int .i64 a3, .int .i64 b3, .int .i64 a4, .int .i64 b4, .int .i64 a5, .int .i64 b5, .int .i64 a6, .int .i64 b6, .int .i64 a7, .int .i64 b7] ((((w.alloc (.cells #[.int .i64 gr, .int .i64 gz] 78)).alloc (.cells #[.int .i64 a0, .int .i64 b0, .int .i64 a1, .int .i64 b1, .int .i64 a2, .int .i64 b2, .int .i64 a3, .int .i64 b3, .int .i64 a4, .int .i64 b4, .int .i64 a5, .int .i64 b5, .int .i64 a6, .int .i64 b6, .int .i64 a7, .int .i64 b7] 70)).alloc (.cells #[.int .i64 0, .int .i64 0] 44)).alloc (.cells #[.int .i64 0, .int .i64 0] 44))) := Lib.hid (by have h := RowL.new (w.alloc (.cells #[.int .i64 gr, .int .i64 gz] 78)) #[.int .i64 a0, .int .i64 b0, .int .i64 a1, .int .i64 b1, .int .i64 a2, .int .i64 b2, .int .i64 a3, .int .i64 b3, .int .i64 a4, .int .i64 b4, .int .i64 a5, .int .i64 b5, .int .i64 a6, .int .i64 b6, .int .i64 a7, .int .i64 b7] 70; (try simp only [World.size_alloc] at h); exact ((h.alloc _).alloc _))
      have Fr : Hid (RowL (w.heap.size + 1 + 1) [.int .i64 0, .int .i64 0] ((((w.alloc (.cells #[.int .i64 gr, .int .i64 gz] 78)).alloc (.cells #[.int .i64 a0, .int .i64 b0, .int .i64 a1, .int .i64 b1, .int .i64 a2, .int .i64 b2, .int .i64 a3, .int .i64 b3, .int .i64 a4, .int .i64 b4, .int .i64 a5, .int .i64 b5, .int .i64 a6, .int .i64 b6, .int .i64 a7, .int .i64 b7] 70)).alloc (.cells #[.int .i64 0, .int .i64 0] 44)).alloc (.cells #[.int .i64 0, .int .i64 0] 44))) := Lib.hid (by have h := RowL.new ((w.alloc (.cells #[.int .i64 gr, .int .i64 gz] 78)).alloc (.cells #[.int .i64 a0, .int .i64 b0, .int .i64 a1, .int .i64 b1, .int .i64 a2, .int .i64 b2, .int .i64 a3, .int .i64 b3, .int .i64 a4, .int .i64 b4, .int .i64 a5, .int .i64 b5, .int .i64 a6, .int .i64 b6, .int .i64 a7, .int .i64 b7] 70)) #[.int .i64 0, .int .i64 0] 44; (try simp only [World.size_alloc] at h); exact (h.alloc _))
      have Fz : Hid (RowL (w.heap.size + 1 + 1 + 1) [.int .i64 0, .int .i64 0] ((((w.alloc (.cells #[.int .i64 gr, .int .i64 gz] 78)).alloc (.cells #[.int .i64 a0, .int .i64 b0, .int .i64 a1, .int .i64 b1, .int .i64 a2, .int .i64 b2, .int .i64 a3, .int .i64 b3, .int .i64 a4, .int .i64 b4, .int .i64 a5, .int .i64 b5, .int .i64 a6, .int .i64 b6, .int .i64 a7, .int .i64 b7] 70)).alloc (.cells #[.int .i64 0, .int .i64 0] 44)).alloc (.cells #[.int .i64 0, .int .i64 0] 44))) := Lib.hid (by have h := RowL.new (((w.alloc (.cells #[.int .i64 gr, .int .i64 gz] 78)).alloc (.cells #[.int .i64 a0, .int .i64 b0, .int .i64 a1, .int .i64 b1, .int .i64 a2, .int .i64 b2, .int .i64 a3, .int .i64 b3, .int .i64 a4, .int .i64 b4, .int .i64 a5, .int .i64 b5, .int .i64 a6, .int .i64 b6, .int .i64 a7, .int .i64 b7] 70)).alloc (.cells #[.int .i64 0, .int .i64 0] 44)) #[.int .i64 0, .int .i64 0] 44; (try simp only [World.size_alloc] at h); exact h)
      have hB0 : Below w.heap.size w ((((w.alloc (.cells #[.int .i64 gr, .int .i64 gz] 78)).alloc (.cells #[.int .i64 a0, .int .i64 b0, .int .i64 a1, .int .i64 b1, .int .i64 a2, .int .i64 b2, .int .i64 a3, .int .i64 b3, .int .i64 a4, .int .i64 b4, .int .i64 a5, .int .i64 b5, .int .i64 a6, .int .i64 b6, .int .i64 a7, .int .i64 b7] 70)).alloc (.cells #[.int .i64 0, .int .i64 0] 44)).alloc (.cells #[.int .i64 0, .int .i64 0] 44)) := by (with_reducible repeat first | exact Below.refl _ _ | assumption | ((first | refine Below.setCell ?_ ?_ _ | refine Below.alloc ?_ ?_ _); rotate_left; exact (by first | omega | (simp; done) | (simp; omega))) | refine Below.drew ?_ | refine Below_drewN ?_ _)
      have sW0 : w.heap.size + 1 + 1 + 1 < ((((w.alloc (.cells #[.int .i64 gr, .int .i64 gz] 78)).alloc (.cells #[.int .i64 a0, .int .i64 b0, .int .i64 a1, .int .i64 b1, .int .i64 a2, .int .i64 b2, .int .i64 a3, .int .i64 b3, .int .i64 a4, .int .i64 b4, .int .i64 a5, .int .i64 b5, .int .i64 a6, .int .i64 b6, .int .i64 a7, .int .i64 b7] 70)).alloc (.cells #[.int .i64 0, .int .i64 0] 44)).alloc (.cells #[.int .i64 0, .int .i64 0] 44)).heap.size := by simp only [World.size_alloc]; omega
      obtain ⟨W0, hW0⟩ : ∃ W, ((((w.alloc (.cells #[.int .i64 gr, .int .i64 gz] 78)).alloc (.cells #[.int .i64 a0, .int .i64 b0, .int .i64 a1, .int .i64 b1, .int .i64 a2, .int .i64 b2, .int .i64 a3, .int .i64 b3, .int .i64 a4, .int .i64 b4, .int .i64 a5, .int .i64 b5, .int .i64 a6, .int .i64 b6, .int .i64 a7, .int .i64 b7] 70)).alloc (.cells #[.int .i64 0, .int .i64 0] 44)).alloc (.cells #[.int .i64 0, .int .i64 0] 44)) = W := ⟨_, rfl⟩
      rw [hW0] at Fg Fs Fr Fz hB0 sW0 ⊢
      clear hW0
      have g0 := Fg.out.cell 0 (.int .i64 gr) rfl
      have g1 := Fg.out.cell 1 (.int .i64 gz) rfl
      have s0 := Fs.out.cell 0 (.int .i64 a0) rfl
      have s1 := Fs.out.cell 1 (.int .i64 b0) rfl
      have s2 := Fs.out.cell 2 (.int .i64 a1) rfl
      have s3 := Fs.out.cell 3 (.int .i64 b1) rfl
      have s4 := Fs.out.cell 4 (.int .i64 a2) rfl
      have s5 := Fs.out.cell 5 (.int .i64 b2) rfl
      have s6 := Fs.out.cell 6 (.int .i64 a3) rfl
      have s7 := Fs.out.cell 7 (.int .i64 b3) rfl
      have s8 := Fs.out.cell 8 (.int .i64 a4) rfl
      have s9 := Fs.out.cell 9 (.int .i64 b4) rfl
      have s10 := Fs.out.cell 10 (.int .i64 a5) rfl
      have s11 := Fs.out.cell 11 (.int .i64 b5) rfl
      have s12 := Fs.out.cell 12 (.int .i64 a6) rfl
      have s13 := Fs.out.cell 13 (.int .i64 b6) rfl
      have s14 := Fs.out.cell 14 (.int .i64 a7) rfl
      have s15 := Fs.out.cell 15 (.int .i64 b7) rfl
      have r0 := Fr.out.cell 0 (.int .i64 0) rfl
      have rf0 := Fr.out.mark 0 (by simp)
      have r1 := Fr.out.cell 1 (.int .i64 0) rfl
      have rf1 := Fr.out.mark 1 (by simp)
      have z0 := Fz.out.cell 0 (.int .i64 0) rfl
      have zf0 := Fz.out.mark 0 (by simp)
      have z1 := Fz.out.cell 1 (.int .i64 0) rfl
      have zf1 := Fz.out.mark 1 (by simp)
      go_wp2_with fail
      refine (HG.out _).mono ?_
      rintro e w1 ⟨rfl, hb⟩
      clear g0 g1 s0 s1 s2 s3 s4 s5 s6 s7 s8 s9 s10 s11 s12 s13 s14 s15 r0 rf0 r1 rf1 z0 zf0 z1 zf1
      have Gg := Lib.hid (Fg.out.below hb)
      clear Fg
      have Fg := Lib.hid Gg.out
      clear Gg
      have Gs := Lib.hid (Fs.out.below hb)
      clear Fs
      have Fs := Lib.hid Gs.out
      clear Gs
      have Gr := Lib.hid (Fr.out.below hb)
      clear Fr
      have Fr := Lib.hid Gr.out
      clear Gr
      have Gz := Lib.hid (Fz.out.below hb)
      clear Fz
      have Fz := Lib.hid Gz.out
      clear Gz
      have g0 := Fg.out.cell 0 (.int .i64 gr) rfl
      have g1 := Fg.out.cell 1 (.int .i64 gz) rfl
      have s0 := Fs.out.cell 0 (.int .i64 a0) rfl
      have s1 := Fs.out.cell 1 (.int .i64 b0) rfl
      have s2 := Fs.out.cell 2 (.int .i64 a1) rfl
      have s3 := Fs.out.cell 3 (.int .i64 b1) rfl
      have s4 := Fs.out.cell 4 (.int .i64 a2) rfl
      have s5 := Fs.out.cell 5 (.int .i64 b2) rfl
      have s6 := Fs.out.cell 6 (.int .i64 a3) rfl
      have s7 := Fs.out.cell 7 (.int .i64 b3) rfl
      have s8 := Fs.out.cell 8 (.int .i64 a4) rfl
      have s9 := Fs.out.cell 9 (.int .i64 b4) rfl
      have s10 := Fs.out.cell 10 (.int .i64 a5) rfl
      have s11 := Fs.out.cell 11 (.int .i64 b5) rfl
      have s12 := Fs.out.cell 12 (.int .i64 a6) rfl
      have s13 := Fs.out.cell 13 (.int .i64 b6) rfl
      have s14 := Fs.out.cell 14 (.int .i64 a7) rfl
      have s15 := Fs.out.cell 15 (.int .i64 b7) rfl
      have r0 := Fr.out.cell 0 (.int .i64 0) rfl
      have rf0 := Fr.out.mark 0 (by simp)
      have r1 := Fr.out.cell 1 (.int .i64 0) rfl
      have rf1 := Fr.out.mark 1 (by simp)
      have z0 := Fz.out.cell 0 (.int .i64 0) rfl
      have zf0 := Fz.out.mark 0 (by simp)
      have z1 := Fz.out.cell 1 (.int .i64 0) rfl
      have zf1 := Fz.out.mark 1 (by simp)
      have hBw1 := hB0.trans (hb.mono hB0.size)
      have hzw1 : w.heap.size + 1 + 1 + 1 < w1.heap.size := Nat.lt_of_lt_of_le (by assumption) hb.size
      have hyw1 : w.heap.size + 1 + 1 < w1.heap.size := by omega
      clear hb
      go_wp2_with fail
      refine (HO.out _).mono ?_
      rintro e w2 ⟨rfl, hb⟩
      clear g0 g1 s0 s1 s2 s3 s4 s5 s6 s7 s8 s9 s10 s11 s12 s13 s14 s15 r0 rf0 r1 rf1 z0 zf0 z1 zf1
      have Gg := Lib.hid (Fg.out.below hb)
      clear Fg
      have Fg := Lib.hid Gg.out
      clear Gg
      have Gs := Lib.hid (Fs.out.below hb)
      clear Fs
      have Fs := Lib.hid Gs.out
      clear Gs
      have Gr := Lib.hid (Fr.out.below hb)
      clear Fr
      have Fr := Lib.hid Gr.out
      clear Gr
      have Gz := Lib.hid (Fz.out.below hb)
      clear Fz
      have Fz := Lib.hid Gz.out
      clear Gz
      have g0 := Fg.out.cell 0 (.int .i64 gr) rfl
      have g1 := Fg.out.cell 1 (.int .i64 gz) rfl
      have s0 := Fs.out.cell 0 (.int .i64 a0) rfl
      have s1 := Fs.out.cell 1 (.int .i64 b0) rfl
      have s2 := Fs.out.cell 2 (.int .i64 a1) rfl
      have s3 := Fs.out.cell 3 (.int .i64 b1) rfl
      have s4 := Fs.out.cell 4 (.int .i64 a2) rfl
      have s5 := Fs.out.cell 5 (.int .i64 b2) rfl
      have s6 := Fs.out.cell 6 (.int .i64 a3) rfl
      have s7 := Fs.out.cell 7 (.int .i64 b3) rfl
      have s8 := Fs.out.cell 8 (.int .i64 a4) rfl
      have s9 := Fs.out.cell 9 (.int .i64 b4) rfl
      have s10 := Fs.out.cell 10 (.int .i64 a5) rfl
      have s11 := Fs.out.cell 11 (.int .i64 b5) rfl
      have s12 := Fs.out.cell 12 (.int .i64 a6) rfl
      have s13 := Fs.out.cell 13 (.int .i64 b6) rfl
      have s14 := Fs.out.cell 14 (.int .i64 a7) rfl
      have s15 := Fs.out.cell 15 (.int .i64 b7) rfl
      have r0 := Fr.out.cell 0 (.int .i64 0) rfl
      have rf0 := Fr.out.mark 0 (by simp)
      have r1 := Fr.out.cell 1 (.int .i64 0) rfl
      have rf1 := Fr.out.mark 1 (by simp)
      have z0 := Fz.out.cell 0 (.int .i64 0) rfl
      have zf0 := Fz.out.mark 0 (by simp)
      have z1 := Fz.out.cell 1 (.int .i64 0) rfl
      have zf1 := Fz.out.mark 1 (by simp)
      have hBw2 := hBw1.trans (hb.mono hBw1.size)
      have hzw2 : w.heap.size + 1 + 1 + 1 < w2.heap.size := Nat.lt_of_lt_of_le (by assumption) hb.size
      have hyw2 : w.heap.size + 1 + 1 < w2.heap.size := by omega
      clear hb
      go_wp2_with fail
      refine (HA.out _).mono ?_
      rintro e w3 ⟨rfl, hb⟩
      clear g0 g1 s0 s1 s2 s3 s4 s5 s6 s7 s8 s9 s10 s11 s12 s13 s14 s15 r0 rf0 r1 rf1 z0 zf0 z1 zf1
      have Gg := Lib.hid (Fg.out.below hb)
      clear Fg
      have Fg := Lib.hid Gg.out
      clear Gg
      have Gs := Lib.hid (Fs.out.below hb)
      clear Fs
      have Fs := Lib.hid Gs.out
      clear Gs
      have Gr := Lib.hid (Fr.out.below hb)
      clear Fr
      have Fr := Lib.hid Gr.out
      clear Gr
      have Gz := Lib.hid (Fz.out.below hb)
      clear Fz
      have Fz := Lib.hid Gz.out
      clear Gz
      have g0 := Fg.out.cell 0 (.int .i64 gr) rfl
      have g1 := Fg.out.cell 1 (.int .i64 gz) rfl
      have s0 := Fs.out.cell 0 (.int .i64 a0) rfl
      have s1 := Fs.out.cell 1 (.int .i64 b0) rfl
      have s2 := Fs.out.cell 2 (.int .i64 a1) rfl
      have s3 := Fs.out.cell 3 (.int .i64 b1) rfl
      have s4 := Fs.out.cell 4 (.int .i64 a2) rfl
      have s5 := Fs.out.cell 5 (.int .i64 b2) rfl
      have s6 := Fs.out.cell 6 (.int .i64 a3) rfl
      have s7 := Fs.out.cell 7 (.int .i64 b3) rfl
      have s8 := Fs.out.cell 8 (.int .i64 a4) rfl
      have s9 := Fs.out.cell 9 (.int .i64 b4) rfl
      have s10 := Fs.out.cell 10 (.int .i64 a5) rfl
      have s11 := Fs.out.cell 11 (.int .i64 b5) rfl
      have s12 := Fs.out.cell 12 (.int .i64 a6) rfl
      have s13 := Fs.out.cell 13 (.int .i64 b6) rfl
      have s14 := Fs.out.cell 14 (.int .i64 a7) rfl
      have s15 := Fs.out.cell 15 (.int .i64 b7) rfl
      have r0 := Fr.out.cell 0 (.int .i64 0) rfl
      have rf0 := Fr.out.mark 0 (by simp)
      have r1 := Fr.out.cell 1 (.int .i64 0) rfl
      have rf1 := Fr.out.mark 1 (by simp)
      have z0 := Fz.out.cell 0 (.int .i64 0) rfl
      have zf0 := Fz.out.mark 0 (by simp)
      have z1 := Fz.out.cell 1 (.int .i64 0) rfl
      have zf1 := Fz.out.mark 1 (by simp)
      have hBw3 := hBw2.trans (hb.mono hBw2.size)
      have hzw3 : w.heap.size + 1 + 1 + 1 < w3.heap.size := Nat.lt_of_lt_of_le (by assumption) hb.size
      have hyw3 : w.heap.size + 1 + 1 < w3.heap.size := by omega
      clear hb
      go_upto_region 4 with (fail)
      have Gg : Hid (RowL (w.heap.size) [.int .i64 gr, .int .i64 gz] ((w3.setCell ⟨w.heap.size + 1 + 1, 0, none⟩ (.int .i64 p0)).setCell ⟨w.heap.size + 1 + 1, 1, none⟩ (.int .i64 q0))) := Lib.hid ((Fg.out.far (by dsimp only; omega) _).far (by dsimp only; omega) _)
      have Gs : Hid (RowL ((w.heap.size + 1)) [.int .i64 a0, .int .i64 b0, .int .i64 a1, .int .i64 b1, .int .i64 a2, .int .i64 b2, .int .i64 a3, .int .i64 b3, .int .i64 a4, .int .i64 b4, .int .i64 a5, .int .i64 b5, .int .i64 a6, .int .i64 b6, .int .i64 a7, .int .i64 b7] ((w3.setCell ⟨w.heap.size + 1 + 1, 0, none⟩ (.int .i64 p0)).setCell ⟨w.heap.size + 1 + 1, 1, none⟩ (.int .i64 q0))) := Lib.hid ((Fs.out.far (by dsimp only; omega) _).far (by dsimp only; omega) _)
      have Gr : Hid (RowL (w.heap.size + 1 + 1) [.int .i64 p0, .int .i64 q0] ((w3.setCell ⟨w.heap.size + 1 + 1, 0, none⟩ (.int .i64 p0)).setCell ⟨w.heap.size + 1 + 1, 1, none⟩ (.int .i64 q0))) := Lib.hid ((Fr.out.put 0 _ (by simp)).put 1 _ (by simp))
      have Gz : Hid (RowL ((w.heap.size + 1 + 1 + 1)) [.int .i64 0, .int .i64 0] ((w3.setCell ⟨w.heap.size + 1 + 1, 0, none⟩ (.int .i64 p0)).setCell ⟨w.heap.size + 1 + 1, 1, none⟩ (.int .i64 q0))) := Lib.hid ((Fz.out.far (by dsimp only; omega) _).far (by dsimp only; omega) _)
      have hBW4 : Below w.heap.size w ((w3.setCell ⟨w.heap.size + 1 + 1, 0, none⟩ (.int .i64 p0)).setCell ⟨w.heap.size + 1 + 1, 1, none⟩ (.int .i64 q0)) := by (with_reducible repeat first | exact Below.refl _ _ | assumption | ((first | refine Below.setCell ?_ ?_ _ | refine Below.alloc ?_ ?_ _); rotate_left; exact (by first | omega | (simp; done) | (simp; omega))) | refine Below.drew ?_ | refine Below_drewN ?_ _)
      have hzW4 : w.heap.size + 1 + 1 + 1 < ((w3.setCell ⟨w.heap.size + 1 + 1, 0, none⟩ (.int .i64 p0)).setCell ⟨w.heap.size + 1 + 1, 1, none⟩ (.int .i64 q0)).heap.size := by (try simp only [World.size_setCell]); omega
      have hyW4 : w.heap.size + 1 + 1 < ((w3.setCell ⟨w.heap.size + 1 + 1, 0, none⟩ (.int .i64 p0)).setCell ⟨w.heap.size + 1 + 1, 1, none⟩ (.int .i64 q0)).heap.size := by (try simp only [World.size_setCell]); omega
      obtain ⟨W4, hW4⟩ : ∃ W, ((w3.setCell ⟨w.heap.size + 1 + 1, 0, none⟩ (.int .i64 p0)).setCell ⟨w.heap.size + 1 + 1, 1, none⟩ (.int .i64 q0)) = W := ⟨_, rfl⟩
      rw [hW4] at Gg Gs Gr Gz hBW4 hzW4 hyW4 ⊢
      clear hW4 g0 g1 s0 s1 s2 s3 s4 s5 s6 s7 s8 s9 s10 s11 s12 s13 s14 s15 r0 rf0 r1 rf1 z0 zf0 z1 zf1
      clear Fg
      have Fg := Lib.hid Gg.out
      clear Gg
      clear Fs
      have Fs := Lib.hid Gs.out
      clear Gs
      clear Fr
      have Fr := Lib.hid Gr.out
      clear Gr
      clear Fz
      have Fz := Lib.hid Gz.out
      clear Gz
      have g0 := Fg.out.cell 0 (.int .i64 gr) rfl
      have g1 := Fg.out.cell 1 (.int .i64 gz) rfl
      have s0 := Fs.out.cell 0 (.int .i64 a0) rfl
      have s1 := Fs.out.cell 1 (.int .i64 b0) rfl
      have s2 := Fs.out.cell 2 (.int .i64 a1) rfl
      have s3 := Fs.out.cell 3 (.int .i64 b1) rfl
      have s4 := Fs.out.cell 4 (.int .i64 a2) rfl
      have s5 := Fs.out.cell 5 (.int .i64 b2) rfl
      have s6 := Fs.out.cell 6 (.int .i64 a3) rfl
      have s7 := Fs.out.cell 7 (.int .i64 b3) rfl
      have s8 := Fs.out.cell 8 (.int .i64 a4) rfl
      have s9 := Fs.out.cell 9 (.int .i64 b4) rfl
      have s10 := Fs.out.cell 10 (.int .i64 a5) rfl
      have s11 := Fs.out.cell 11 (.int .i64 b5) rfl
      have s12 := Fs.out.cell 12 (.int .i64 a6) rfl
      have s13 := Fs.out.cell 13 (.int .i64 b6) rfl
      have s14 := Fs.out.cell 14 (.int .i64 a7) rfl
      have s15 := Fs.out.cell 15 (.int .i64 b7) rfl
      have r0 := Fr.out.cell 0 (.int .i64 p0) rfl
      have rf0 := Fr.out.mark 0 (by simp)
      have r1 := Fr.out.cell 1 (.int .i64 q0) rfl
      have rf1 := Fr.out.mark 1 (by simp)
      have z0 := Fz.out.cell 0 (.int .i64 0) rfl
      have zf0 := Fz.out.mark 0 (by simp)
      have z1 := Fz.out.cell 1 (.int .i64 0) rfl
      have zf1 := Fz.out.mark 1 (by simp)
      go_wp2_with fail
      refine (HB.out _).mono ?_
      rintro e w5 ⟨rfl, hb⟩
      clear g0 g1 s0 s1 s2 s3 s4 s5 s6 s7 s8 s9 s10 s11 s12 s13 s14 s15 r0 rf0 r1 rf1 z0 zf0 z1 zf1
      have Gg := Lib.hid (Fg.out.below hb)
      clear Fg
      have Fg := Lib.hid Gg.out
      clear Gg
      have Gs := Lib.hid (Fs.out.below hb)
      clear Fs
      have Fs := Lib.hid Gs.out
      clear Gs
      have Gr := Lib.hid (Fr.out.below hb)
      clear Fr
      have Fr := Lib.hid Gr.out
      clear Gr
      have Gz := Lib.hid (Fz.out.below hb)
      clear Fz
      have Fz := Lib.hid Gz.out
      clear Gz
      have g0 := Fg.out.cell 0 (.int .i64 gr) rfl
      have g1 := Fg.out.cell 1 (.int .i64 gz) rfl
      have s0 := Fs.out.cell 0 (.int .i64 a0) rfl
      have s1 := Fs.out.cell 1 (.int .i64 b0) rfl
      have s2 := Fs.out.cell 2 (.int .i64 a1) rfl
      have s3 := Fs.out.cell 3 (.int .i64 b1) rfl
      have s4 := Fs.out.cell 4 (.int .i64 a2) rfl
      have s5 := Fs.out.cell 5 (.int .i64 b2) rfl
      have s6 := Fs.out.cell 6 (.int .i64 a3) rfl
      have s7 := Fs.out.cell 7 (.int .i64 b3) rfl
      have s8 := Fs.out.cell 8 (.int .i64 a4) rfl
      have s9 := Fs.out.cell 9 (.int .i64 b4) rfl
      have s10 := Fs.out.cell 10 (.int .i64 a5) rfl
      have s11 := Fs.out.cell 11 (.int .i64 b5) rfl
      have s12 := Fs.out.cell 12 (.int .i64 a6) rfl
      have s13 := Fs.out.cell 13 (.int .i64 b6) rfl
      have s14 := Fs.out.cell 14 (.int .i64 a7) rfl
      have s15 := Fs.out.cell 15 (.int .i64 b7) rfl
      have r0 := Fr.out.cell 0 (.int .i64 p0) rfl
      have rf0 := Fr.out.mark 0 (by simp)
      have r1 := Fr.out.cell 1 (.int .i64 q0) rfl
      have rf1 := Fr.out.mark 1 (by simp)
      have z0 := Fz.out.cell 0 (.int .i64 0) rfl
      have zf0 := Fz.out.mark 0 (by simp)
      have z1 := Fz.out.cell 1 (.int .i64 0) rfl
      have zf1 := Fz.out.mark 1 (by simp)
      have hBw5 := hBW4.trans (hb.mono hBW4.size)
      have hzw5 : w.heap.size + 1 + 1 + 1 < w5.heap.size := Nat.lt_of_lt_of_le (by assumption) hb.size
      have hyw5 : w.heap.size + 1 + 1 < w5.heap.size := by omega
      clear hb
      go_upto_region 5 with (fail)
      have Gg : Hid (RowL (w.heap.size) [.int .i64 gr, .int .i64 gz] ((w5.setCell ⟨w.heap.size + 1 + 1 + 1, 0, none⟩ (.int .i64 p1)).setCell ⟨w.heap.size + 1 + 1 + 1, 1, none⟩ (.int .i64 q1))) := Lib.hid ((Fg.out.far (by dsimp only; omega) _).far (by dsimp only; omega) _)
      have Gs : Hid (RowL ((w.heap.size + 1)) [.int .i64 a0, .int .i64 b0, .int .i64 a1, .int .i64 b1, .int .i64 a2, .int .i64 b2, .int .i64 a3, .int .i64 b3, .int .i64 a4, .int .i64 b4, .int .i64 a5, .int .i64 b5, .int .i64 a6, .int .i64 b6, .int .i64 a7, .int .i64 b7] ((w5.setCell ⟨w.heap.size + 1 + 1 + 1, 0, none⟩ (.int .i64 p1)).setCell ⟨w.heap.size + 1 + 1 + 1, 1, none⟩ (.int .i64 q1))) := Lib.hid ((Fs.out.far (by dsimp only; omega) _).far (by dsimp only; omega) _)
      have Gr : Hid (RowL ((w.heap.size + 1 + 1)) [.int .i64 p0, .int .i64 q0] ((w5.setCell ⟨w.heap.size + 1 + 1 + 1, 0, none⟩ (.int .i64 p1)).setCell ⟨w.heap.size + 1 + 1 + 1, 1, none⟩ (.int .i64 q1))) := Lib.hid ((Fr.out.far (by dsimp only; omega) _).far (by dsimp only; omega) _)
      have Gz : Hid (RowL (w.heap.size + 1 + 1 + 1) [.int .i64 p1, .int .i64 q1] ((w5.setCell ⟨w.heap.size + 1 + 1 + 1, 0, none⟩ (.int .i64 p1)).setCell ⟨w.heap.size + 1 + 1 + 1, 1, none⟩ (.int .i64 q1))) := Lib.hid ((Fz.out.put 0 _ (by simp)).put 1 _ (by simp))
      have hBW6 : Below w.heap.size w ((w5.setCell ⟨w.heap.size + 1 + 1 + 1, 0, none⟩ (.int .i64 p1)).setCell ⟨w.heap.size + 1 + 1 + 1, 1, none⟩ (.int .i64 q1)) := by (with_reducible repeat first | exact Below.refl _ _ | assumption | ((first | refine Below.setCell ?_ ?_ _ | refine Below.alloc ?_ ?_ _); rotate_left; exact (by first | omega | (simp; done) | (simp; omega))) | refine Below.drew ?_ | refine Below_drewN ?_ _)
      have hzW6 : w.heap.size + 1 + 1 + 1 < ((w5.setCell ⟨w.heap.size + 1 + 1 + 1, 0, none⟩ (.int .i64 p1)).setCell ⟨w.heap.size + 1 + 1 + 1, 1, none⟩ (.int .i64 q1)).heap.size := by (try simp only [World.size_setCell]); omega
      have hyW6 : w.heap.size + 1 + 1 < ((w5.setCell ⟨w.heap.size + 1 + 1 + 1, 0, none⟩ (.int .i64 p1)).setCell ⟨w.heap.size + 1 + 1 + 1, 1, none⟩ (.int .i64 q1)).heap.size := by (try simp only [World.size_setCell]); omega
      obtain ⟨W6, hW6⟩ : ∃ W, ((w5.setCell ⟨w.heap.size + 1 + 1 + 1, 0, none⟩ (.int .i64 p1)).setCell ⟨w.heap.size + 1 + 1 + 1, 1, none⟩ (.int .i64 q1)) = W := ⟨_, rfl⟩
      rw [hW6] at Gg Gs Gr Gz hBW6 hzW6 hyW6 ⊢
      clear hW6 g0 g1 s0 s1 s2 s3 s4 s5 s6 s7 s8 s9 s10 s11 s12 s13 s14 s15 r0 rf0 r1 rf1 z0 zf0 z1 zf1
      clear Fg
      have Fg := Lib.hid Gg.out
      clear Gg
      clear Fs
      have Fs := Lib.hid Gs.out
      clear Gs
      clear Fr
      have Fr := Lib.hid Gr.out
      clear Gr
      clear Fz
      have Fz := Lib.hid Gz.out
      clear Gz
      have g0 := Fg.out.cell 0 (.int .i64 gr) rfl
      have g1 := Fg.out.cell 1 (.int .i64 gz) rfl
      have s0 := Fs.out.cell 0 (.int .i64 a0) rfl
      have s1 := Fs.out.cell 1 (.int .i64 b0) rfl
      have s2 := Fs.out.cell 2 (.int .i64 a1) rfl
      have s3 := Fs.out.cell 3 (.int .i64 b1) rfl
      have s4 := Fs.out.cell 4 (.int .i64 a2) rfl
      have s5 := Fs.out.cell 5 (.int .i64 b2) rfl
      have s6 := Fs.out.cell 6 (.int .i64 a3) rfl
      have s7 := Fs.out.cell 7 (.int .i64 b3) rfl
      have s8 := Fs.out.cell 8 (.int .i64 a4) rfl
      have s9 := Fs.out.cell 9 (.int .i64 b4) rfl
      have s10 := Fs.out.cell 10 (.int .i64 a5) rfl
      have s11 := Fs.out.cell 11 (.int .i64 b5) rfl
      have s12 := Fs.out.cell 12 (.int .i64 a6) rfl
      have s13 := Fs.out.cell 13 (.int .i64 b6) rfl
      have s14 := Fs.out.cell 14 (.int .i64 a7) rfl
      have s15 := Fs.out.cell 15 (.int .i64 b7) rfl
      have r0 := Fr.out.cell 0 (.int .i64 p0) rfl
      have rf0 := Fr.out.mark 0 (by simp)
      have r1 := Fr.out.cell 1 (.int .i64 q0) rfl
      have rf1 := Fr.out.mark 1 (by simp)
      have z0 := Fz.out.cell 0 (.int .i64 p1) rfl
      have zf0 := Fz.out.mark 0 (by simp)
      have z1 := Fz.out.cell 1 (.int .i64 q1) rfl
      have zf1 := Fz.out.mark 1 (by simp)
      clear g0 g1 s0 s1 s2 s3 s4 s5 s6 s7 s8 s9 s10 s11 s12 s13 s14 s15 Fg Fs HG HO HA HB
      go_wp2_with fail
      have HRz := (((Fr.out.put 0 (.int .i64 0) (by simp)).put 1 (.int .i64 0) (by simp)).far (p := ⟨w.heap.size + 1 + 1 + 1, 0, none⟩) (by dsimp only; omega) (.int .i64 0)).far (p := ⟨w.heap.size + 1 + 1 + 1, 1, none⟩) (by dsimp only; omega) (.int .i64 0)
      have HZz := (((Fz.out.far (p := ⟨w.heap.size + 1 + 1, 0, none⟩) (by dsimp only; omega) (.int .i64 0)).far (p := ⟨w.heap.size + 1 + 1, 1, none⟩) (by dsimp only; omega) (.int .i64 0)).put 0 (.int .i64 0) (by simp)).put 1 (.int .i64 0) (by simp)
      exact bodyPost_ret (resE Tryz.results27 _ _ _ _ _ _ _ _ _ rfl rfl rfl (HRz.cell 0 _ rfl) (HRz.cell 1 _ rfl) (HZz.cell 0 _ rfl) (HZz.cell 1 _ rfl)) rfl ⟨rfl, by (with_reducible repeat first | exact Below.refl _ _ | assumption | ((first | refine Below.setCell ?_ ?_ _ | refine Below.alloc ?_ ?_ _); rotate_left; exact (by first | omega | (simp; done) | (simp; omega))) | refine Below.drew ?_ | refine Below_drewN ?_ _)⟩
    · subst k1
      rw [if_pos rfl]
      go_enter Tryz.func27, Tryz.ntmps27
      go_upto_region 1 with (fail)
      have Fg : Hid (RowL (w.heap.size) [.int .i64 gr, .int .i64 gz] ((((w.alloc (.cells #[.int .i64 gr, .int .i64 gz] 78)).alloc (.cells #[.int .i64 a0, .int .i64 b0, .int .i64 a1, .int .i64 b1, .int .i64 a2, .int .i64 b2, .int .i64 a3, .int .i64 b3, .int .i64 a4, .int .i64 b4, .int .i64 a5, .int .i64 b5, .int .i64 a6, .int .i64 b6, .int .i64 a7, .int .i64 b7] 70)).alloc (.cells #[.int .i64 0, .int .i64 0] 44)).alloc (.cells #[.int .i64 0, .int .i64 0] 44))) := Lib.hid (by have h := RowL.new w #[.int .i64 gr, .int .i64 gz] 78; (try simp only [World.size_alloc] at h); exact (((h.alloc _).alloc _).alloc _))
      have Fs : Hid (RowL (w.heap.size + 1) [.int .i64 a0, .int .i64 b0, .int .i64 a1, .int .i64 b1, .int .i64 a2, .int .i64 b2, .int .i64 a3, .int .i64 b3, .int .i64 a4, .int .i64 b4, .int .i64 a5, .int .i64 b5, .int .i64 a6, .int .i64 b6, .int .i64 a7, .int .i64 b7] ((((w.alloc (.cells #[.int .i64 gr, .int .i64 gz] 78)).alloc (.cells #[.int .i64 a0, .int .i64 b0, .int .i64 a1, .int .i64 b1, .int .i64 a2, .int .i64 b2, .int .i64 a3, .int .i64 b3, .int .i64 a4, .int .i64 b4, .int .i64 a5, .int .i64 b5, .int .i64 a6, .int .i64 b6, .int .i64 a7, .int .i64 b7] 70)).alloc (.cells #[.int .i64 0, .int .i64 0] 44)).alloc (.cells #[.int .i64 0, .int .i64 0] 44))) := Lib.hid (by have h := RowL.new (w.alloc (.cells #[.int .i64 gr, .int .i64 gz] 78)) #[.int .i64 a0, .int .i64 b0, .int .i64 a1, .int .i64 b1, .int .i64 a2, .int .i64 b2, .int .i64 a3, .int .i64 b3, .int .i64 a4, .int .i64 b4, .int .i64 a5, .int .i64 b5, .int .i64 a6, .int .i64 b6, .int .i64 a7, .int .i64 b7] 70; (try simp only [World.size_alloc] at h); exact ((h.alloc _).alloc _))
      have Fr : Hid (RowL (w.heap.size + 1 + 1) [.int .i64 0, .int .i64 0] ((((w.alloc (.cells #[.int .i64 gr, .int .i64 gz] 78)).alloc (.cells #[.int .i64 a0, .int .i64 b0, .int .i64 a1, .int .i64 b1, .int .i64 a2, .int .i64 b2, .int .i64 a3, .int .i64 b3, .int .i64 a4, .int .i64 b4, .int .i64 a5, .int .i64 b5, .int .i64 a6, .int .i64 b6, .int .i64 a7, .int .i64 b7] 70)).alloc (.cells #[.int .i64 0, .int .i64 0] 44)).alloc (.cells #[.int .i64 0, .int .i64 0] 44))) := Lib.hid (by have h := RowL.new ((w.alloc (.cells #[.int .i64 gr, .int .i64 gz] 78)).alloc (.cells #[.int .i64 a0, .int .i64 b0, .int .i64 a1, .int .i64 b1, .int .i64 a2, .int .i64 b2, .int .i64 a3, .int .i64 b3, .int .i64 a4, .int .i64 b4, .int .i64 a5, .int .i64 b5, .int .i64 a6, .int .i64 b6, .int .i64 a7, .int .i64 b7] 70)) #[.int .i64 0, .int .i64 0] 44; (try simp only [World.size_alloc] at h); exact (h.alloc _))
      have Fz : Hid (RowL (w.heap.size + 1 + 1 + 1) [.int .i64 0, .int .i64 0] ((((w.alloc (.cells #[.int .i64 gr, .int .i64 gz] 78)).alloc (.cells #[.int .i64 a0, .int .i64 b0, .int .i64 a1, .int .i64 b1, .int .i64 a2, .int .i64 b2, .int .i64 a3, .int .i64 b3, .int .i64 a4, .int .i64 b4, .int .i64 a5, .int .i64 b5, .int .i64 a6, .int .i64 b6, .int .i64 a7, .int .i64 b7] 70)).alloc (.cells #[.int .i64 0, .int .i64 0] 44)).alloc (.cells #[.int .i64 0, .int .i64 0] 44))) := Lib.hid (by have h := RowL.new (((w.alloc (.cells #[.int .i64 gr, .int .i64 gz] 78)).alloc (.cells #[.int .i64 a0, .int .i64 b0, .int .i64 a1, .int .i64 b1, .int .i64 a2, .int .i64 b2, .int .i64 a3, .int .i64 b3, .int .i64 a4, .int .i64 b4, .int .i64 a5, .int .i64 b5, .int .i64 a6, .int .i64 b6, .int .i64 a7, .int .i64 b7] 70)).alloc (.cells #[.int .i64 0, .int .i64 0] 44)) #[.int .i64 0, .int .i64 0] 44; (try simp only [World.size_alloc] at h); exact h)
      have hB0 : Below w.heap.size w ((((w.alloc (.cells #[.int .i64 gr, .int .i64 gz] 78)).alloc (.cells #[.int .i64 a0, .int .i64 b0, .int .i64 a1, .int .i64 b1, .int .i64 a2, .int .i64 b2, .int .i64 a3, .int .i64 b3, .int .i64 a4, .int .i64 b4, .int .i64 a5, .int .i64 b5, .int .i64 a6, .int .i64 b6, .int .i64 a7, .int .i64 b7] 70)).alloc (.cells #[.int .i64 0, .int .i64 0] 44)).alloc (.cells #[.int .i64 0, .int .i64 0] 44)) := by (with_reducible repeat first | exact Below.refl _ _ | assumption | ((first | refine Below.setCell ?_ ?_ _ | refine Below.alloc ?_ ?_ _); rotate_left; exact (by first | omega | (simp; done) | (simp; omega))) | refine Below.drew ?_ | refine Below_drewN ?_ _)
      have sW0 : w.heap.size + 1 + 1 + 1 < ((((w.alloc (.cells #[.int .i64 gr, .int .i64 gz] 78)).alloc (.cells #[.int .i64 a0, .int .i64 b0, .int .i64 a1, .int .i64 b1, .int .i64 a2, .int .i64 b2, .int .i64 a3, .int .i64 b3, .int .i64 a4, .int .i64 b4, .int .i64 a5, .int .i64 b5, .int .i64 a6, .int .i64 b6, .int .i64 a7, .int .i64 b7] 70)).alloc (.cells #[.int .i64 0, .int .i64 0] 44)).alloc (.cells #[.int .i64 0, .int .i64 0] 44)).heap.size := by simp only [World.size_alloc]; omega
      obtain ⟨W0, hW0⟩ : ∃ W, ((((w.alloc (.cells #[.int .i64 gr, .int .i64 gz] 78)).alloc (.cells #[.int .i64 a0, .int .i64 b0, .int .i64 a1, .int .i64 b1, .int .i64 a2, .int .i64 b2, .int .i64 a3, .int .i64 b3, .int .i64 a4, .int .i64 b4, .int .i64 a5, .int .i64 b5, .int .i64 a6, .int .i64 b6, .int .i64 a7, .int .i64 b7] 70)).alloc (.cells #[.int .i64 0, .int .i64 0] 44)).alloc (.cells #[.int .i64 0, .int .i64 0] 44)) = W := ⟨_, rfl⟩
      rw [hW0] at Fg Fs Fr Fz hB0 sW0 ⊢
      clear hW0
      have g0 := Fg.out.cell 0 (.int .i64 gr) rfl
      have g1 := Fg.out.cell 1 (.int .i64 gz) rfl
      have s0 := Fs.out.cell 0 (.int .i64 a0) rfl
      have s1 := Fs.out.cell 1 (.int .i64 b0) rfl
      have s2 := Fs.out.cell 2 (.int .i64 a1) rfl
      have s3 := Fs.out.cell 3 (.int .i64 b1) rfl
      have s4 := Fs.out.cell 4 (.int .i64 a2) rfl
      have s5 := Fs.out.cell 5 (.int .i64 b2) rfl
      have s6 := Fs.out.cell 6 (.int .i64 a3) rfl
      have s7 := Fs.out.cell 7 (.int .i64 b3) rfl
      have s8 := Fs.out.cell 8 (.int .i64 a4) rfl
      have s9 := Fs.out.cell 9 (.int .i64 b4) rfl
      have s10 := Fs.out.cell 10 (.int .i64 a5) rfl
      have s11 := Fs.out.cell 11 (.int .i64 b5) rfl
      have s12 := Fs.out.cell 12 (.int .i64 a6) rfl
      have s13 := Fs.out.cell 13 (.int .i64 b6) rfl
      have s14 := Fs.out.cell 14 (.int .i64 a7) rfl
      have s15 := Fs.out.cell 15 (.int .i64 b7) rfl
      have r0 := Fr.out.cell 0 (.int .i64 0) rfl
      have rf0 := Fr.out.mark 0 (by simp)
      have r1 := Fr.out.cell 1 (.int .i64 0) rfl
      have rf1 := Fr.out.mark 1 (by simp)
      have z0 := Fz.out.cell 0 (.int .i64 0) rfl
      have zf0 := Fz.out.mark 0 (by simp)
      have z1 := Fz.out.cell 1 (.int .i64 0) rfl
      have zf1 := Fz.out.mark 1 (by simp)
      go_wp2_with fail
      refine (HG.out _).mono ?_
      rintro e w1 ⟨rfl, hb⟩
      clear g0 g1 s0 s1 s2 s3 s4 s5 s6 s7 s8 s9 s10 s11 s12 s13 s14 s15 r0 rf0 r1 rf1 z0 zf0 z1 zf1
      have Gg := Lib.hid (Fg.out.below hb)
      clear Fg
      have Fg := Lib.hid Gg.out
      clear Gg
      have Gs := Lib.hid (Fs.out.below hb)
      clear Fs
      have Fs := Lib.hid Gs.out
      clear Gs
      have Gr := Lib.hid (Fr.out.below hb)
      clear Fr
      have Fr := Lib.hid Gr.out
      clear Gr
      have Gz := Lib.hid (Fz.out.below hb)
      clear Fz
      have Fz := Lib.hid Gz.out
      clear Gz
      have g0 := Fg.out.cell 0 (.int .i64 gr) rfl
      have g1 := Fg.out.cell 1 (.int .i64 gz) rfl
      have s0 := Fs.out.cell 0 (.int .i64 a0) rfl
      have s1 := Fs.out.cell 1 (.int .i64 b0) rfl
      have s2 := Fs.out.cell 2 (.int .i64 a1) rfl
      have s3 := Fs.out.cell 3 (.int .i64 b1) rfl
      have s4 := Fs.out.cell 4 (.int .i64 a2) rfl
      have s5 := Fs.out.cell 5 (.int .i64 b2) rfl
      have s6 := Fs.out.cell 6 (.int .i64 a3) rfl
      have s7 := Fs.out.cell 7 (.int .i64 b3) rfl
      have s8 := Fs.out.cell 8 (.int .i64 a4) rfl
      have s9 := Fs.out.cell 9 (.int .i64 b4) rfl
      have s10 := Fs.out.cell 10 (.int .i64 a5) rfl
      have s11 := Fs.out.cell 11 (.int .i64 b5) rfl
      have s12 := Fs.out.cell 12 (.int .i64 a6) rfl
      have s13 := Fs.out.cell 13 (.int .i64 b6) rfl
      have s14 := Fs.out.cell 14 (.int .i64 a7) rfl
      have s15 := Fs.out.cell 15 (.int .i64 b7) rfl
      have r0 := Fr.out.cell 0 (.int .i64 0) rfl
      have rf0 := Fr.out.mark 0 (by simp)
      have r1 := Fr.out.cell 1 (.int .i64 0) rfl
      have rf1 := Fr.out.mark 1 (by simp)
      have z0 := Fz.out.cell 0 (.int .i64 0) rfl
      have zf0 := Fz.out.mark 0 (by simp)
      have z1 := Fz.out.cell 1 (.int .i64 0) rfl
      have zf1 := Fz.out.mark 1 (by simp)
      have hBw1 := hB0.trans (hb.mono hB0.size)
      have hzw1 : w.heap.size + 1 + 1 + 1 < w1.heap.size := Nat.lt_of_lt_of_le (by assumption) hb.size
      have hyw1 : w.heap.size + 1 + 1 < w1.heap.size := by omega
      clear hb
      go_wp2_with fail
      refine (HO.out _).mono ?_
      rintro e w2 ⟨rfl, hb⟩
      clear g0 g1 s0 s1 s2 s3 s4 s5 s6 s7 s8 s9 s10 s11 s12 s13 s14 s15 r0 rf0 r1 rf1 z0 zf0 z1 zf1
      have Gg := Lib.hid (Fg.out.below hb)
      clear Fg
      have Fg := Lib.hid Gg.out
      clear Gg
      have Gs := Lib.hid (Fs.out.below hb)
      clear Fs
      have Fs := Lib.hid Gs.out
      clear Gs
      have Gr := Lib.hid (Fr.out.below hb)
      clear Fr
      have Fr := Lib.hid Gr.out
      clear Gr
      have Gz := Lib.hid (Fz.out.below hb)
      clear Fz
      have Fz := Lib.hid Gz.out
      clear Gz
      have g0 := Fg.out.cell 0 (.int .i64 gr) rfl
      have g1 := Fg.out.cell 1 (.int .i64 gz) rfl
      have s0 := Fs.out.cell 0 (.int .i64 a0) rfl
      have s1 := Fs.out.cell 1 (.int .i64 b0) rfl
      have s2 := Fs.out.cell 2 (.int .i64 a1) rfl
      have s3 := Fs.out.cell 3 (.int .i64 b1) rfl
      have s4 := Fs.out.cell 4 (.int .i64 a2) rfl
      have s5 := Fs.out.cell 5 (.int .i64 b2) rfl
      have s6 := Fs.out.cell 6 (.int .i64 a3) rfl
      have s7 := Fs.out.cell 7 (.int .i64 b3) rfl
      have s8 := Fs.out.cell 8 (.int .i64 a4) rfl
      have s9 := Fs.out.cell 9 (.int .i64 b4) rfl
      have s10 := Fs.out.cell 10 (.int .i64 a5) rfl
      have s11 := Fs.out.cell 11 (.int .i64 b5) rfl
      have s12 := Fs.out.cell 12 (.int .i64 a6) rfl
      have s13 := Fs.out.cell 13 (.int .i64 b6) rfl
      have s14 := Fs.out.cell 14 (.int .i64 a7) rfl
      have s15 := Fs.out.cell 15 (.int .i64 b7) rfl
      have r0 := Fr.out.cell 0 (.int .i64 0) rfl
      have rf0 := Fr.out.mark 0 (by simp)
      have r1 := Fr.out.cell 1 (.int .i64 0) rfl
      have rf1 := Fr.out.mark 1 (by simp)
      have z0 := Fz.out.cell 0 (.int .i64 0) rfl
      have zf0 := Fz.out.mark 0 (by simp)
      have z1 := Fz.out.cell 1 (.int .i64 0) rfl
      have zf1 := Fz.out.mark 1 (by simp)
      have hBw2 := hBw1.trans (hb.mono hBw1.size)
      have hzw2 : w.heap.size + 1 + 1 + 1 < w2.heap.size := Nat.lt_of_lt_of_le (by assumption) hb.size
      have hyw2 : w.heap.size + 1 + 1 < w2.heap.size := by omega
      clear hb
      go_wp2_with fail
      refine (HA.out _).mono ?_
      rintro e w3 ⟨rfl, hb⟩
      clear g0 g1 s0 s1 s2 s3 s4 s5 s6 s7 s8 s9 s10 s11 s12 s13 s14 s15 r0 rf0 r1 rf1 z0 zf0 z1 zf1
      have Gg := Lib.hid (Fg.out.below hb)
      clear Fg
      have Fg := Lib.hid Gg.out
      clear Gg
      have Gs := Lib.hid (Fs.out.below hb)
      clear Fs
      have Fs := Lib.hid Gs.out
      clear Gs
      have Gr := Lib.hid (Fr.out.below hb)
      clear Fr
      have Fr := Lib.hid Gr.out
      clear Gr
      have Gz := Lib.hid (Fz.out.below hb)
      clear Fz
      have Fz := Lib.hid Gz.out
      clear Gz
      have g0 := Fg.out.cell 0 (.int .i64 gr) rfl
      have g1 := Fg.out.cell 1 (.int .i64 gz) rfl
      have s0 := Fs.out.cell 0 (.int .i64 a0) rfl
      have s1 := Fs.out.cell 1 (.int .i64 b0) rfl
      have s2 := Fs.out.cell 2 (.int .i64 a1) rfl
      have s3 := Fs.out.cell 3 (.int .i64 b1) rfl
      have s4 := Fs.out.cell 4 (.int .i64 a2) rfl
      have s5 := Fs.out.cell 5 (.int .i64 b2) rfl
      have s6 := Fs.out.cell 6 (.int .i64 a3) rfl
      have s7 := Fs.out.cell 7 (.int .i64 b3) rfl
      have s8 := Fs.out.cell 8 (.int .i64 a4) rfl
      have s9 := Fs.out.cell 9 (.int .i64 b4) rfl
      have s10 := Fs.out.cell 10 (.int .i64 a5) rfl
      have s11 := Fs.out.cell 11 (.int .i64 b5) rfl
      have s12 := Fs.out.cell 12 (.int .i64 a6) rfl
      have s13 := Fs.out.cell 13 (.int .i64 b6) rfl
      have s14 := Fs.out.cell 14 (.int .i64 a7) rfl
      have s15 := Fs.out.cell 15 (.int .i64 b7) rfl
      have r0 := Fr.out.cell 0 (.int .i64 0) rfl
      have rf0 := Fr.out.mark 0 (by simp)
      have r1 := Fr.out.cell 1 (.int .i64 0) rfl
      have rf1 := Fr.out.mark 1 (by simp)
      have z0 := Fz.out.cell 0 (.int .i64 0) rfl
      have zf0 := Fz.out.mark 0 (by simp)
      have z1 := Fz.out.cell 1 (.int .i64 0) rfl
      have zf1 := Fz.out.mark 1 (by simp)
      have hBw3 := hBw2.trans (hb.mono hBw2.size)
      have hzw3 : w.heap.size + 1 + 1 + 1 < w3.heap.size := Nat.lt_of_lt_of_le (by assumption) hb.size
      have hyw3 : w.heap.size + 1 + 1 < w3.heap.size := by omega
      clear hb
      go_upto_region 4 with (fail)
      have Gg : Hid (RowL (w.heap.size) [.int .i64 gr, .int .i64 gz] ((w3.setCell ⟨w.heap.size + 1 + 1, 0, none⟩ (.int .i64 p0)).setCell ⟨w.heap.size + 1 + 1, 1, none⟩ (.int .i64 q0))) := Lib.hid ((Fg.out.far (by dsimp only; omega) _).far (by dsimp only; omega) _)
      have Gs : Hid (RowL ((w.heap.size + 1)) [.int .i64 a0, .int .i64 b0, .int .i64 a1, .int .i64 b1, .int .i64 a2, .int .i64 b2, .int .i64 a3, .int .i64 b3, .int .i64 a4, .int .i64 b4, .int .i64 a5, .int .i64 b5, .int .i64 a6, .int .i64 b6, .int .i64 a7, .int .i64 b7] ((w3.setCell ⟨w.heap.size + 1 + 1, 0, none⟩ (.int .i64 p0)).setCell ⟨w.heap.size + 1 + 1, 1, none⟩ (.int .i64 q0))) := Lib.hid ((Fs.out.far (by dsimp only; omega) _).far (by dsimp only; omega) _)
      have Gr : Hid (RowL (w.heap.size + 1 + 1) [.int .i64 p0, .int .i64 q0] ((w3.setCell ⟨w.heap.size + 1 + 1, 0, none⟩ (.int .i64 p0)).setCell ⟨w.heap.size + 1 + 1, 1, none⟩ (.int .i64 q0))) := Lib.hid ((Fr.out.put 0 _ (by simp)).put 1 _ (by simp))
      have Gz : Hid (RowL ((w.heap.size + 1 + 1 + 1)) [.int .i64 0, .int .i64 0] ((w3.setCell ⟨w.heap.size + 1 + 1, 0, none⟩ (.int .i64 p0)).setCell ⟨w.heap.size + 1 + 1, 1, none⟩ (.int .i64 q0))) := Lib.hid ((Fz.out.far (by dsimp only; omega) _).far (by dsimp only; omega) _)
      have hBW4 : Below w.heap.size w ((w3.setCell ⟨w.heap.size + 1 + 1, 0, none⟩ (.int .i64 p0)).setCell ⟨w.heap.size + 1 + 1, 1, none⟩ (.int .i64 q0)) := by (with_reducible repeat first | exact Below.refl _ _ | assumption | ((first | refine Below.setCell ?_ ?_ _ | refine Below.alloc ?_ ?_ _); rotate_left; exact (by first | omega | (simp; done) | (simp; omega))) | refine Below.drew ?_ | refine Below_drewN ?_ _)
      have hzW4 : w.heap.size + 1 + 1 + 1 < ((w3.setCell ⟨w.heap.size + 1 + 1, 0, none⟩ (.int .i64 p0)).setCell ⟨w.heap.size + 1 + 1, 1, none⟩ (.int .i64 q0)).heap.size := by (try simp only [World.size_setCell]); omega
      have hyW4 : w.heap.size + 1 + 1 < ((w3.setCell ⟨w.heap.size + 1 + 1, 0, none⟩ (.int .i64 p0)).setCell ⟨w.heap.size + 1 + 1, 1, none⟩ (.int .i64 q0)).heap.size := by (try simp only [World.size_setCell]); omega
      obtain ⟨W4, hW4⟩ : ∃ W, ((w3.setCell ⟨w.heap.size + 1 + 1, 0, none⟩ (.int .i64 p0)).setCell ⟨w.heap.size + 1 + 1, 1, none⟩ (.int .i64 q0)) = W := ⟨_, rfl⟩
      rw [hW4] at Gg Gs Gr Gz hBW4 hzW4 hyW4 ⊢
      clear hW4 g0 g1 s0 s1 s2 s3 s4 s5 s6 s7 s8 s9 s10 s11 s12 s13 s14 s15 r0 rf0 r1 rf1 z0 zf0 z1 zf1
      clear Fg
      have Fg := Lib.hid Gg.out
      clear Gg
      clear Fs
      have Fs := Lib.hid Gs.out
      clear Gs
      clear Fr
      have Fr := Lib.hid Gr.out
      clear Gr
      clear Fz
      have Fz := Lib.hid Gz.out
      clear Gz
      have g0 := Fg.out.cell 0 (.int .i64 gr) rfl
      have g1 := Fg.out.cell 1 (.int .i64 gz) rfl
      have s0 := Fs.out.cell 0 (.int .i64 a0) rfl
      have s1 := Fs.out.cell 1 (.int .i64 b0) rfl
      have s2 := Fs.out.cell 2 (.int .i64 a1) rfl
      have s3 := Fs.out.cell 3 (.int .i64 b1) rfl
      have s4 := Fs.out.cell 4 (.int .i64 a2) rfl
      have s5 := Fs.out.cell 5 (.int .i64 b2) rfl
      have s6 := Fs.out.cell 6 (.int .i64 a3) rfl
      have s7 := Fs.out.cell 7 (.int .i64 b3) rfl
      have s8 := Fs.out.cell 8 (.int .i64 a4) rfl
      have s9 := Fs.out.cell 9 (.int .i64 b4) rfl
      have s10 := Fs.out.cell 10 (.int .i64 a5) rfl
      have s11 := Fs.out.cell 11 (.int .i64 b5) rfl
      have s12 := Fs.out.cell 12 (.int .i64 a6) rfl
      have s13 := Fs.out.cell 13 (.int .i64 b6) rfl
      have s14 := Fs.out.cell 14 (.int .i64 a7) rfl
      have s15 := Fs.out.cell 15 (.int .i64 b7) rfl
      have r0 := Fr.out.cell 0 (.int .i64 p0) rfl
      have rf0 := Fr.out.mark 0 (by simp)
      have r1 := Fr.out.cell 1 (.int .i64 q0) rfl
      have rf1 := Fr.out.mark 1 (by simp)
      have z0 := Fz.out.cell 0 (.int .i64 0) rfl
      have zf0 := Fz.out.mark 0 (by simp)
      have z1 := Fz.out.cell 1 (.int .i64 0) rfl
      have zf1 := Fz.out.mark 1 (by simp)
      go_wp2_with fail
      refine (HB.out _).mono ?_
      rintro e w5 ⟨rfl, hb⟩
      clear g0 g1 s0 s1 s2 s3 s4 s5 s6 s7 s8 s9 s10 s11 s12 s13 s14 s15 r0 rf0 r1 rf1 z0 zf0 z1 zf1
      have Gg := Lib.hid (Fg.out.below hb)
      clear Fg
      have Fg := Lib.hid Gg.out
      clear Gg
      have Gs := Lib.hid (Fs.out.below hb)
      clear Fs
      have Fs := Lib.hid Gs.out
      clear Gs
      have Gr := Lib.hid (Fr.out.below hb)
      clear Fr
      have Fr := Lib.hid Gr.out
      clear Gr
      have Gz := Lib.hid (Fz.out.below hb)
      clear Fz
      have Fz := Lib.hid Gz.out
      clear Gz
      have g0 := Fg.out.cell 0 (.int .i64 gr) rfl
      have g1 := Fg.out.cell 1 (.int .i64 gz) rfl
      have s0 := Fs.out.cell 0 (.int .i64 a0) rfl
      have s1 := Fs.out.cell 1 (.int .i64 b0) rfl
      have s2 := Fs.out.cell 2 (.int .i64 a1) rfl
      have s3 := Fs.out.cell 3 (.int .i64 b1) rfl
      have s4 := Fs.out.cell 4 (.int .i64 a2) rfl
      have s5 := Fs.out.cell 5 (.int .i64 b2) rfl
      have s6 := Fs.out.cell 6 (.int .i64 a3) rfl
      have s7 := Fs.out.cell 7 (.int .i64 b3) rfl
      have s8 := Fs.out.cell 8 (.int .i64 a4) rfl
      have s9 := Fs.out.cell 9 (.int .i64 b4) rfl
      have s10 := Fs.out.cell 10 (.int .i64 a5) rfl
      have s11 := Fs.out.cell 11 (.int .i64 b5) rfl
      have s12 := Fs.out.cell 12 (.int .i64 a6) rfl
      have s13 := Fs.out.cell 13 (.int .i64 b6) rfl
      have s14 := Fs.out.cell 14 (.int .i64 a7) rfl
      have s15 := Fs.out.cell 15 (.int .i64 b7) rfl
      have r0 := Fr.out.cell 0 (.int .i64 p0) rfl
      have rf0 := Fr.out.mark 0 (by simp)
      have r1 := Fr.out.cell 1 (.int .i64 q0) rfl
      have rf1 := Fr.out.mark 1 (by simp)
      have z0 := Fz.out.cell 0 (.int .i64 0) rfl
      have zf0 := Fz.out.mark 0 (by simp)
      have z1 := Fz.out.cell 1 (.int .i64 0) rfl
      have zf1 := Fz.out.mark 1 (by simp)
      have hBw5 := hBW4.trans (hb.mono hBW4.size)
      have hzw5 : w.heap.size + 1 + 1 + 1 < w5.heap.size := Nat.lt_of_lt_of_le (by assumption) hb.size
      have hyw5 : w.heap.size + 1 + 1 < w5.heap.size := by omega
      clear hb
      go_upto_region 5 with (fail)
      have Gg : Hid (RowL (w.heap.size) [.int .i64 gr, .int .i64 gz] ((w5.setCell ⟨w.heap.size + 1 + 1 + 1, 0, none⟩ (.int .i64 p1)).setCell ⟨w.heap.size + 1 + 1 + 1, 1, none⟩ (.int .i64 q1))) := Lib.hid ((Fg.out.far (by dsimp only; omega) _).far (by dsimp only; omega) _)
      have Gs : Hid (RowL ((w.heap.size + 1)) [.int .i64 a0, .int .i64 b0, .int .i64 a1, .int .i64 b1, .int .i64 a2, .int .i64 b2, .int .i64 a3, .int .i64 b3, .int .i64 a4, .int .i64 b4, .int .i64 a5, .int .i64 b5, .int .i64 a6, .int .i64 b6, .int .i64 a7, .int .i64 b7] ((w5.setCell ⟨w.heap.size + 1 + 1 + 1, 0, none⟩ (.int .i64 p1)).setCell ⟨w.heap.size + 1 + 1 + 1, 1, none⟩ (.int .i64 q1))) := Lib.hid ((Fs.out.far (by dsimp only; omega) _).far (by dsimp only; omega) _)
      have Gr : Hid (RowL ((w.heap.size + 1 + 1)) [.int .i64 p0, .int .i64 q0] ((w5.setCell ⟨w.heap.size + 1 + 1 + 1, 0, none⟩ (.int .i64 p1)).setCell ⟨w.heap.size + 1 + 1 + 1, 1, none⟩ (.int .i64 q1))) := Lib.hid ((Fr.out.far (by dsimp only; omega) _).far (by dsimp only; omega) _)
      have Gz : Hid (RowL (w.heap.size + 1 + 1 + 1) [.int .i64 p1, .int .i64 q1] ((w5.setCell ⟨w.heap.size + 1 + 1 + 1, 0, none⟩ (.int .i64 p1)).setCell ⟨w.heap.size + 1 + 1 + 1, 1, none⟩ (.int .i64 q1))) := Lib.hid ((Fz.out.put 0 _ (by simp)).put 1 _ (by simp))
      have hBW6 : Below w.heap.size w ((w5.setCell ⟨w.heap.size + 1 + 1 + 1, 0, none⟩ (.int .i64 p1)).setCell ⟨w.heap.size + 1 + 1 + 1, 1, none⟩ (.int .i64 q1)) := by (with_reducible repeat first | exact Below.refl _ _ | assumption | ((first | refine Below.setCell ?_ ?_ _ | refine Below.alloc ?_ ?_ _); rotate_left; exact (by first | omega | (simp; done) | (simp; omega))) | refine Below.drew ?_ | refine Below_drewN ?_ _)
      have hzW6 : w.heap.size + 1 + 1 + 1 < ((w5.setCell ⟨w.heap.size + 1 + 1 + 1, 0, none⟩ (.int .i64 p1)).setCell ⟨w.heap.size + 1 + 1 + 1, 1, none⟩ (.int .i64 q1)).heap.size := by (try simp only [World.size_setCell]); omega
      have hyW6 : w.heap.size + 1 + 1 < ((w5.setCell ⟨w.heap.size + 1 + 1 + 1, 0, none⟩ (.int .i64 p1)).setCell ⟨w.heap.size + 1 + 1 + 1, 1, none⟩ (.int .i64 q1)).heap.size := by (try simp only [World.size_setCell]); omega
      obtain ⟨W6, hW6⟩ : ∃ W, ((w5.setCell ⟨w.heap.size + 1 + 1 + 1, 0, none⟩ (.int .i64 p1)).setCell ⟨w.heap.size + 1 + 1 + 1, 1, none⟩ (.int .i64 q1)) = W := ⟨_, rfl⟩
      rw [hW6] at Gg Gs Gr Gz hBW6 hzW6 hyW6 ⊢
      clear hW6 g0 g1 s0 s1 s2 s3 s4 s5 s6 s7 s8 s9 s10 s11 s12 s13 s14 s15 r0 rf0 r1 rf1 z0 zf0 z1 zf1
      clear Fg
      have Fg := Lib.hid Gg.out
      clear Gg
      clear Fs
      have Fs := Lib.hid Gs.out
      clear Gs
      clear Fr
      have Fr := Lib.hid Gr.out
      clear Gr
      clear Fz
      have Fz := Lib.hid Gz.out
      clear Gz
      have g0 := Fg.out.cell 0 (.int .i64 gr) rfl
      have g1 := Fg.out.cell 1 (.int .i64 gz) rfl
      have s0 := Fs.out.cell 0 (.int .i64 a0) rfl
      have s1 := Fs.out.cell 1 (.int .i64 b0) rfl
      have s2 := Fs.out.cell 2 (.int .i64 a1) rfl
      have s3 := Fs.out.cell 3 (.int .i64 b1) rfl
      have s4 := Fs.out.cell 4 (.int .i64 a2) rfl
      have s5 := Fs.out.cell 5 (.int .i64 b2) rfl
      have s6 := Fs.out.cell 6 (.int .i64 a3) rfl
      have s7 := Fs.out.cell 7 (.int .i64 b3) rfl
      have s8 := Fs.out.cell 8 (.int .i64 a4) rfl
      have s9 := Fs.out.cell 9 (.int .i64 b4) rfl
      have s10 := Fs.out.cell 10 (.int .i64 a5) rfl
      have s11 := Fs.out.cell 11 (.int .i64 b5) rfl
      have s12 := Fs.out.cell 12 (.int .i64 a6) rfl
      have s13 := Fs.out.cell 13 (.int .i64 b6) rfl
      have s14 := Fs.out.cell 14 (.int .i64 a7) rfl
      have s15 := Fs.out.cell 15 (.int .i64 b7) rfl
      have r0 := Fr.out.cell 0 (.int .i64 p0) rfl
      have rf0 := Fr.out.mark 0 (by simp)
      have r1 := Fr.out.cell 1 (.int .i64 q0) rfl
      have rf1 := Fr.out.mark 1 (by simp)
      have z0 := Fz.out.cell 0 (.int .i64 p1) rfl
      have zf0 := Fz.out.mark 0 (by simp)
      have z1 := Fz.out.cell 1 (.int .i64 q1) rfl
      have zf1 := Fz.out.mark 1 (by simp)
      have HZ : Hid (∀ w' : World, SelfS (w.heap.size + 1 + 1) (w.heap.size + 1 + 1 + 1) (.int .i64 p0) (.int .i64 q0) (.int .i64 p1) (.int .i64 q1) w.heap.size w w' → (SelfS (w.heap.size + 1 + 1) (w.heap.size + 1 + 1 + 1) (.int .i64 p0) (.int .i64 q0) (.int .i64 p1) (.int .i64 q1) w.heap.size w w' ∧ w'.cell? ⟨w.heap.size + 1 + 1, 0, none⟩ = some (.int .i64 p0) ∧ w'.cell? ⟨w.heap.size + 1 + 1, 1, none⟩ = some (.int .i64 q0) ∧ w'.cell? ⟨w.heap.size + 1 + 1 + 1, 0, none⟩ = some (.int .i64 p1) ∧ w'.cell? ⟨w.heap.size + 1 + 1 + 1, 1, none⟩ = some (.int .i64 q1) ∧ w'.frozen? ⟨w.heap.size + 1 + 1, 0, none⟩ = false ∧ w'.frozen? ⟨w.heap.size + 1 + 1, 1, none⟩ = false ∧ w'.frozen? ⟨w.heap.size + 1 + 1 + 1, 0, none⟩ = false ∧ w'.frozen? ⟨w.heap.size + 1 + 1 + 1, 1, none⟩ = false)) := Lib.hid (fun w' h => ⟨h, h.r.cell 0 _ rfl, h.r.cell 1 _ rfl, h.z.cell 0 _ rfl, h.z.cell 1 _ rfl, h.r.mark 0 (by simp), h.r.mark 1 (by simp), h.z.mark 0 (by simp), h.z.mark 1 (by simp)⟩)
      have HZ0 : SelfS (w.heap.size + 1 + 1) (w.heap.size + 1 + 1 + 1) (.int .i64 p0) (.int .i64 q0) (.int .i64 p1) (.int .i64 q1) w.heap.size w W6 := ⟨Fr.out, Fz.out, hBW6⟩
      go_upto_region 7 with (fail)
      clear g0 g1 s0 s1 s2 s3 s4 s5 s6 s7 s8 s9 s10 s11 s12 s13 s14 s15 Fr Fz Fg Fs HG HO HA HB
      go_wp2_with fail
      go_region
      all_goals go_wp2_with fail
      all_goals exact bodyPost_ret (resE Tryz.results27 _ _ _ _ _ _ _ _ _ rfl rfl rfl (by go_simp) (by go_simp) (by go_simp) (by go_simp)) rfl ⟨rfl, by (with_reducible repeat first | exact Below.refl _ _ | assumption | ((first | refine Below.setCell ?_ ?_ _ | refine Below.alloc ?_ ?_ _); rotate_left; exact (by first | omega | (simp; done) | (simp; omega))) | refine Below.drew ?_ | refine Below_drewN ?_ _)⟩

end Go.Proofs.YtnikdbglpimadaaGreat
end
