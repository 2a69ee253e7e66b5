import Derived.Test.YtcdhanfjcnfjjaaKAQ
import Derived.Test.YtcdhanfjcnfjjaaKAS
section
/- Package control and its specification: Remember, over this seat's translation (written by mk_ctx.py). -/
namespace Go.Proofs.Ytcdhanfjcnfjjaa
set_option linter.unusedVariables false
set_option linter.unusedSimpArgs false
open Go.RowKit Go.Shelf

theorem provedL_in' (a b : Int) : -1000000000000000 ≤ provedL a b ∧ provedL a b ≤ 1000000000000000 := by
  unfold provedL
  split
  · rename_i h
    have := vld_iff.1 h
    omega
  · omega
/-- What Remember answers. -/
def remL (most y0 y1 gr gz : Int) (s : ShapeD) : Int × Int × Int :=
  if memB y0 y1 = true then if (errL gr gz s).2.2.2.2 = 1 then (0, 0, 1) else if wthn most 0 1000000000 = true then if (errL gr gz s).2.2.2.2 = 0 then
    (cutL (y0 + provedL (errL gr gz s).1 (errL gr gz s).2.1) most, cutL (y1 + provedL (errL gr gz s).2.2.1 (errL gr gz s).2.2.2.1) most, 0)
  else (0, 0, (errL gr gz s).2.2.2.2) else (0, 0, 7) else (0, 0, 1)
theorem resMe {fn : Func} {p u : Tmp} (h : fn.results = #[.cell p 34, .tmp u]) (tmps : Array Value) (W : World) (b : Nat) (x y z : Value)
    (hp : tmps.getD p undef = .pointer (some ⟨b, 0, none⟩)) (hu : tmps.getD u undef = z) (h0 : (W.cell? ⟨b, 0, none⟩).isSome = true) (h1 : (W.cell? ⟨b, 1, none⟩).isSome = true) :
    (results fn tmps).run Try.prog ((W.setCell ⟨b, 0, none⟩ x).setCell ⟨b, 1, none⟩ y) = .ok (.tuple #[.agg #[x, y], z]) ((W.setCell ⟨b, 0, none⟩ x).setCell ⟨b, 1, none⟩ y) := by
  have n1 : (⟨b, 1, none⟩ : Addr) ≠ ⟨b, 0, none⟩ := by simp
  have n0 : (⟨b, 0, none⟩ : Addr) ≠ ⟨b, 1, none⟩ := by simp
  have e1 : ((W.setCell ⟨b, 0, none⟩ x).setCell ⟨b, 1, none⟩ y).cell? ⟨b, 0, none⟩ = some x :=
    (World.cell?_setCell_other _ _ _ _ n1).trans (World.cell?_setCell_same' _ _ _ h0)
  have e2 : ((W.setCell ⟨b, 0, none⟩ x).setCell ⟨b, 1, none⟩ y).cell? ⟨b, 1, none⟩ = some y :=
    World.cell?_setCell_same' _ _ _ (by rw [World.cell?_setCell_other _ _ _ _ n0]; exact h1)
  rw [results_cell_tmp h, hp, hu]
  simp [go_sem, e1, e2]
theorem resMeD {fn : Func} {p u : Tmp} (h : fn.results = #[.cell p 34, .tmp u]) (tmps : Array Value) (W : World) (b : Nat) (x y z : Value)
    (hp : tmps.getD p undef = .pointer (some ⟨b, 0, none⟩)) (hu : tmps.getD u undef = z) (h0 : (W.cell? ⟨b, 0, none⟩).isSome = true) (h1 : (W.cell? ⟨b, 1, none⟩).isSome = true) :
    (results fn tmps).run Try.prog ((W.setCell ⟨b, 0, none⟩ x).setCell ⟨b, 1, none⟩ y).drew = .ok (.tuple #[.agg #[x, y], z]) ((W.setCell ⟨b, 0, none⟩ x).setCell ⟨b, 1, none⟩ y).drew := by
  have n1 : (⟨b, 1, none⟩ : Addr) ≠ ⟨b, 0, none⟩ := by simp
  have n0 : (⟨b, 0, none⟩ : Addr) ≠ ⟨b, 1, none⟩ := by simp
  have e1 : ((W.setCell ⟨b, 0, none⟩ x).setCell ⟨b, 1, none⟩ y).drew.cell? ⟨b, 0, none⟩ = some x := by
    rw [World.cell?_drew]; exact (World.cell?_setCell_other _ _ _ _ n1).trans (World.cell?_setCell_same' _ _ _ h0)
  have e2 : ((W.setCell ⟨b, 0, none⟩ x).setCell ⟨b, 1, none⟩ y).drew.cell? ⟨b, 1, none⟩ = some y := by
    rw [World.cell?_drew]; exact World.cell?_setCell_same' _ _ _ (by rw [World.cell?_setCell_other _ _ _ _ n0]; exact h1)
  rw [results_cell_tmp h, hp, hu]
  simp [go_sem, e1, e2]

set_option maxRecDepth 100000 in
set_option maxHeartbeats 8000000 in
theorem remember_last (most y0 y1 gr gz r1 z1 : Int) (a0 b0 a1 b1 a2 b2 a3 b3 a4 b4 a5 b5 a6 b6 a7 b7 : Int) (w : World) (HP : Hid (∀ W, Calls Try.prog 20 #[.agg #[.int .i64 gr, .int .i64 gz], .agg #[.int .i64 a0, .int .i64 b0, .int .i64 a1, .int .i64 b1, .int .i64 a2, .int .i64 b2, .int .i64 a3, .int .i64 b3, .int .i64 a4, .int .i64 b4, .int .i64 a5, .int .i64 b5, .int .i64 a6, .int .i64 b6, .int .i64 a7, .int .i64 b7]] W (Ret (.tuple #[.int .i64 r1, .int .i64 z1, .int .i64 0]) W)))
    (HM : Hid (∀ W, Calls Try.prog 21 #[.agg #[.int .i64 y0, .int .i64 y1]] W (Ret (.bool true) W))) (hw : wthn most 0 1000000000 = true) (hmo : 0 ≤ most ∧ most ≤ 1000000000) (pr : -1000000000000000 ≤ r1 ∧ r1 ≤ 1000000000000000) (pz : -1000000000000000 ≤ z1 ∧ z1 ≤ 1000000000000000)
    (hy0 : -1000000000 ≤ y0 ∧ y0 ≤ 1000000000) (hy1 : -1000000000 ≤ y1 ∧ y1 ≤ 1000000000) :
    Calls Try.prog 9 #[.int .i64 most, .agg #[.int .i64 y0, .int .i64 y1], .agg #[.int .i64 gr, .int .i64 gz], .agg #[.int .i64 a0, .int .i64 b0, .int .i64 a1, .int .i64 b1, .int .i64 a2, .int .i64 b2, .int .i64 a3, .int .i64 b3, .int .i64 a4, .int .i64 b4, .int .i64 a5, .int .i64 b5, .int .i64 a6, .int .i64 b6, .int .i64 a7, .int .i64 b7]] w (Ret (.tuple #[.agg #[.int .i64 (cutL (y0 + r1) most), .int .i64 (cutL (y1 + z1) most)], .int .i64 0]) w) := by
  have v1 : IntKind.i64.wrap (y0 + r1) = y0 + r1 := IntWalk.i64_in _ (by omega)
  have v2 : IntKind.i64.wrap (y1 + z1) = y1 + z1 := IntWalk.i64_in _ (by omega)
  have HU : Hid (∀ (n : Int) W, Calls Try.prog 23 #[.int .i64 n, .int .i64 most] W fun e w' => e = .returned (.int .i64 (cutL n most)) ∧ W = w') := Lib.hid (fun n W => cut_any n most W (by omega) (by omega))
  clear pr pz hy0 hy1
  go_enter Try.func9, Try.ntmps9
  go_upto_region 1 with (fail)
  have Fh : Hid (RowL (w.heap.size) [.int .i64 y0, .int .i64 y1] ((((w.alloc (.cells #[.int .i64 y0, .int .i64 y1] 34)).alloc (.cells #[.int .i64 gr, .int .i64 gz] 36)).alloc (.cells #[.int .i64 a0, .int .i64 b0, .int .i64 a1, .int .i64 b1, .int .i64 a2, .int .i64 b2, .int .i64 a3, .int .i64 b3, .int .i64 a4, .int .i64 b4, .int .i64 a5, .int .i64 b5, .int .i64 a6, .int .i64 b6, .int .i64 a7, .int .i64 b7] 40)).alloc (.cells #[.int .i64 0, .int .i64 0] 34))) := Lib.hid (by have h := RowL.new w #[.int .i64 y0, .int .i64 y1] 34; (try simp only [World.size_alloc] at h); exact (((h.alloc _).alloc _).alloc _))
  have Fg : Hid (RowL (w.heap.size + 1) [.int .i64 gr, .int .i64 gz] ((((w.alloc (.cells #[.int .i64 y0, .int .i64 y1] 34)).alloc (.cells #[.int .i64 gr, .int .i64 gz] 36)).alloc (.cells #[.int .i64 a0, .int .i64 b0, .int .i64 a1, .int .i64 b1, .int .i64 a2, .int .i64 b2, .int .i64 a3, .int .i64 b3, .int .i64 a4, .int .i64 b4, .int .i64 a5, .int .i64 b5, .int .i64 a6, .int .i64 b6, .int .i64 a7, .int .i64 b7] 40)).alloc (.cells #[.int .i64 0, .int .i64 0] 34))) := Lib.hid (by have h := RowL.new (w.alloc (.cells #[.int .i64 y0, .int .i64 y1] 34)) #[.int .i64 gr, .int .i64 gz] 36; (try simp only [World.size_alloc] at h); exact ((h.alloc _).alloc _))
  have Fs : Hid (RowL (w.heap.size + 1 + 1) [.int .i64 a0, .int .i64 b0, .int .i64 a1, .int .i64 b1, .int .i64 a2, .int .i64 b2, .int .i64 a3, .int .i64 b3, .int .i64 a4, .int .i64 b4, .int .i64 a5, .int .i64 b5, .int .i64 a6, .int .i64 b6, .int .i64 a7, .int .i64 b7] ((((w.alloc (.cells #[.int .i64 y0, .int .i64 y1] 34)).alloc (.cells #[.int .i64 gr, .int .i64 gz] 36)).alloc (.cells #[.int .i64 a0, .int .i64 b0, .int .i64 a1, .int .i64 b1, .int .i64 a2, .int .i64 b2, .int .i64 a3, .int .i64 b3, .int .i64 a4, .int .i64 b4, .int .i64 a5, .int .i64 b5, .int .i64 a6, .int .i64 b6, .int .i64 a7, .int .i64 b7] 40)).alloc (.cells #[.int .i64 0, .int .i64 0] 34))) := Lib.hid (by have h := RowL.new ((w.alloc (.cells #[.int .i64 y0, .int .i64 y1] 34)).alloc (.cells #[.int .i64 gr, .int .i64 gz] 36)) #[.int .i64 a0, .int .i64 b0, .int .i64 a1, .int .i64 b1, .int .i64 a2, .int .i64 b2, .int .i64 a3, .int .i64 b3, .int .i64 a4, .int .i64 b4, .int .i64 a5, .int .i64 b5, .int .i64 a6, .int .i64 b6, .int .i64 a7, .int .i64 b7] 40; (try simp only [World.size_alloc] at h); exact (h.alloc _))
  have Fo : Hid (RowL (w.heap.size + 1 + 1 + 1) [.int .i64 0, .int .i64 0] ((((w.alloc (.cells #[.int .i64 y0, .int .i64 y1] 34)).alloc (.cells #[.int .i64 gr, .int .i64 gz] 36)).alloc (.cells #[.int .i64 a0, .int .i64 b0, .int .i64 a1, .int .i64 b1, .int .i64 a2, .int .i64 b2, .int .i64 a3, .int .i64 b3, .int .i64 a4, .int .i64 b4, .int .i64 a5, .int .i64 b5, .int .i64 a6, .int .i64 b6, .int .i64 a7, .int .i64 b7] 40)).alloc (.cells #[.int .i64 0, .int .i64 0] 34))) := Lib.hid (by have h := RowL.new (((w.alloc (.cells #[.int .i64 y0, .int .i64 y1] 34)).alloc (.cells #[.int .i64 gr, .int .i64 gz] 36)).alloc (.cells #[.int .i64 a0, .int .i64 b0, .int .i64 a1, .int .i64 b1, .int .i64 a2, .int .i64 b2, .int .i64 a3, .int .i64 b3, .int .i64 a4, .int .i64 b4, .int .i64 a5, .int .i64 b5, .int .i64 a6, .int .i64 b6, .int .i64 a7, .int .i64 b7] 40)) #[.int .i64 0, .int .i64 0] 34; (try simp only [World.size_alloc] at h); exact h)
  have hB0 : Below w.heap.size w ((((w.alloc (.cells #[.int .i64 y0, .int .i64 y1] 34)).alloc (.cells #[.int .i64 gr, .int .i64 gz] 36)).alloc (.cells #[.int .i64 a0, .int .i64 b0, .int .i64 a1, .int .i64 b1, .int .i64 a2, .int .i64 b2, .int .i64 a3, .int .i64 b3, .int .i64 a4, .int .i64 b4, .int .i64 a5, .int .i64 b5, .int .i64 a6, .int .i64 b6, .int .i64 a7, .int .i64 b7] 40)).alloc (.cells #[.int .i64 0, .int .i64 0] 34)) := by (with_reducible repeat first | exact Below.refl _ _ | assumption | ((first | refine Below.setCell ?_ ?_ _ | refine Below.alloc ?_ ?_ _); rotate_left; exact (by first | omega | (simp; done) | (simp; omega))) | refine Below.drew ?_ | refine Below_drewN ?_ _)
  have sW0 : w.heap.size + 1 + 1 + 1 < ((((w.alloc (.cells #[.int .i64 y0, .int .i64 y1] 34)).alloc (.cells #[.int .i64 gr, .int .i64 gz] 36)).alloc (.cells #[.int .i64 a0, .int .i64 b0, .int .i64 a1, .int .i64 b1, .int .i64 a2, .int .i64 b2, .int .i64 a3, .int .i64 b3, .int .i64 a4, .int .i64 b4, .int .i64 a5, .int .i64 b5, .int .i64 a6, .int .i64 b6, .int .i64 a7, .int .i64 b7] 40)).alloc (.cells #[.int .i64 0, .int .i64 0] 34)).heap.size := by simp only [World.size_alloc]; omega
  obtain ⟨W0, hW0⟩ : ∃ W, ((((w.alloc (.cells #[.int .i64 y0, .int .i64 y1] 34)).alloc (.cells #[.int .i64 gr, .int .i64 gz] 36)).alloc (.cells #[.int .i64 a0, .int .i64 b0, .int .i64 a1, .int .i64 b1, .int .i64 a2, .int .i64 b2, .int .i64 a3, .int .i64 b3, .int .i64 a4, .int .i64 b4, .int .i64 a5, .int .i64 b5, .int .i64 a6, .int .i64 b6, .int .i64 a7, .int .i64 b7] 40)).alloc (.cells #[.int .i64 0, .int .i64 0] 34)) = W := ⟨_, rfl⟩
  rw [hW0] at Fh Fg Fs Fo hB0 sW0 ⊢
  clear hW0
  have h0 := Fh.out.cell 0 (.int .i64 y0) rfl
  have h1 := Fh.out.cell 1 (.int .i64 y1) rfl
  have g0 := Fg.out.cell 0 (.int .i64 gr) rfl
  have g1 := Fg.out.cell 1 (.int .i64 gz) rfl
  have s0 := Fs.out.cell 0 (.int .i64 a0) rfl
  have s1 := Fs.out.cell 1 (.int .i64 b0) rfl
  have s2 := Fs.out.cell 2 (.int .i64 a1) rfl
  have s3 := Fs.out.cell 3 (.int .i64 b1) rfl
  have s4 := Fs.out.cell 4 (.int .i64 a2) rfl
  have s5 := Fs.out.cell 5 (.int .i64 b2) rfl
  have s6 := Fs.out.cell 6 (.int .i64 a3) rfl
  have s7 := Fs.out.cell 7 (.int .i64 b3) rfl
  have s8 := Fs.out.cell 8 (.int .i64 a4) rfl
  have s9 := Fs.out.cell 9 (.int .i64 b4) rfl
  have s10 := Fs.out.cell 10 (.int .i64 a5) rfl
  have s11 := Fs.out.cell 11 (.int .i64 b5) rfl
  have s12 := Fs.out.cell 12 (.int .i64 a6) rfl
  have s13 := Fs.out.cell 13 (.int .i64 b6) rfl
  have s14 := Fs.out.cell 14 (.int .i64 a7) rfl
  have s15 := Fs.out.cell 15 (.int .i64 b7) rfl
  have o0 := Fo.out.cell 0 (.int .i64 0) rfl
  have of0 := Fo.out.mark 0 (by simp)
  have o1 := Fo.out.cell 1 (.int .i64 0) rfl
  have of1 := Fo.out.mark 1 (by simp)
  go_wp2_with fail
  refine (HP.out _).mono ?_
  rintro e w1 ⟨rfl, hb⟩
  clear h0 h1 g0 g1 s0 s1 s2 s3 s4 s5 s6 s7 s8 s9 s10 s11 s12 s13 s14 s15 o0 of0 o1 of1
  have Gh := Lib.hid (Fh.out.below hb)
  clear Fh
  have Fh := Lib.hid Gh.out
  clear Gh
  have Gg := Lib.hid (Fg.out.below hb)
  clear Fg
  have Fg := Lib.hid Gg.out
  clear Gg
  have Gs := Lib.hid (Fs.out.below hb)
  clear Fs
  have Fs := Lib.hid Gs.out
  clear Gs
  have Go := Lib.hid (Fo.out.below hb)
  clear Fo
  have Fo := Lib.hid Go.out
  clear Go
  have h0 := Fh.out.cell 0 (.int .i64 y0) rfl
  have h1 := Fh.out.cell 1 (.int .i64 y1) rfl
  have g0 := Fg.out.cell 0 (.int .i64 gr) rfl
  have g1 := Fg.out.cell 1 (.int .i64 gz) rfl
  have s0 := Fs.out.cell 0 (.int .i64 a0) rfl
  have s1 := Fs.out.cell 1 (.int .i64 b0) rfl
  have s2 := Fs.out.cell 2 (.int .i64 a1) rfl
  have s3 := Fs.out.cell 3 (.int .i64 b1) rfl
  have s4 := Fs.out.cell 4 (.int .i64 a2) rfl
  have s5 := Fs.out.cell 5 (.int .i64 b2) rfl
  have s6 := Fs.out.cell 6 (.int .i64 a3) rfl
  have s7 := Fs.out.cell 7 (.int .i64 b3) rfl
  have s8 := Fs.out.cell 8 (.int .i64 a4) rfl
  have s9 := Fs.out.cell 9 (.int .i64 b4) rfl
  have s10 := Fs.out.cell 10 (.int .i64 a5) rfl
  have s11 := Fs.out.cell 11 (.int .i64 b5) rfl
  have s12 := Fs.out.cell 12 (.int .i64 a6) rfl
  have s13 := Fs.out.cell 13 (.int .i64 b6) rfl
  have s14 := Fs.out.cell 14 (.int .i64 a7) rfl
  have s15 := Fs.out.cell 15 (.int .i64 b7) rfl
  have o0 := Fo.out.cell 0 (.int .i64 0) rfl
  have of0 := Fo.out.mark 0 (by simp)
  have o1 := Fo.out.cell 1 (.int .i64 0) rfl
  have of1 := Fo.out.mark 1 (by simp)
  have hBw1 := hB0.trans (hb.mono hB0.size)
  have how1 : w.heap.size + 1 + 1 + 1 < w1.heap.size := Fo.out.lt
  clear hb
  go_wp2_with fail
  refine (HM.out _).mono ?_
  rintro e w2 ⟨rfl, hb⟩
  clear h0 h1 g0 g1 s0 s1 s2 s3 s4 s5 s6 s7 s8 s9 s10 s11 s12 s13 s14 s15 o0 of0 o1 of1
  have Gh := Lib.hid (Fh.out.below hb)
  clear Fh
  have Fh := Lib.hid Gh.out
  clear Gh
  have Gg := Lib.hid (Fg.out.below hb)
  clear Fg
  have Fg := Lib.hid Gg.out
  clear Gg
  have Gs := Lib.hid (Fs.out.below hb)
  clear Fs
  have Fs := Lib.hid Gs.out
  clear Gs
  have Go := Lib.hid (Fo.out.below hb)
  clear Fo
  have Fo := Lib.hid Go.out
  clear Go
  have h0 := Fh.out.cell 0 (.int .i64 y0) rfl
  have h1 := Fh.out.cell 1 (.int .i64 y1) rfl
  have g0 := Fg.out.cell 0 (.int .i64 gr) rfl
  have g1 := Fg.out.cell 1 (.int .i64 gz) rfl
  have s0 := Fs.out.cell 0 (.int .i64 a0) rfl
  have s1 := Fs.out.cell 1 (.int .i64 b0) rfl
  have s2 := Fs.out.cell 2 (.int .i64 a1) rfl
  have s3 := Fs.out.cell 3 (.int .i64 b1) rfl
  have s4 := Fs.out.cell 4 (.int .i64 a2) rfl
  have s5 := Fs.out.cell 5 (.int .i64 b2) rfl
  have s6 := Fs.out.cell 6 (.int .i64 a3) rfl
  have s7 := Fs.out.cell 7 (.int .i64 b3) rfl
  have s8 := Fs.out.cell 8 (.int .i64 a4) rfl
  have s9 := Fs.out.cell 9 (.int .i64 b4) rfl
  have s10 := Fs.out.cell 10 (.int .i64 a5) rfl
  have s11 := Fs.out.cell 11 (.int .i64 b5) rfl
  have s12 := Fs.out.cell 12 (.int .i64 a6) rfl
  have s13 := Fs.out.cell 13 (.int .i64 b6) rfl
  have s14 := Fs.out.cell 14 (.int .i64 a7) rfl
  have s15 := Fs.out.cell 15 (.int .i64 b7) rfl
  have o0 := Fo.out.cell 0 (.int .i64 0) rfl
  have of0 := Fo.out.mark 0 (by simp)
  have o1 := Fo.out.cell 1 (.int .i64 0) rfl
  have of1 := Fo.out.mark 1 (by simp)
  have hBw2 := hBw1.trans (hb.mono hBw1.size)
  have how2 : w.heap.size + 1 + 1 + 1 < w2.heap.size := Fo.out.lt
  clear hb
  go_upto_region 8 with (go_at_call 22; refine (cwithin_any _ _ _ _).mono ?_; rintro e w9 ⟨rfl, rfl⟩; rw [hw])
  clear g0 g1 s0 s1 s2 s3 s4 s5 s6 s7 s8 s9 s10 s11 s12 s13 s14 s15 Fg Fs
  have s2 := hBw2.size
  have HS : Hid (∀ w' : World, Reg (w.heap.size + 1 + 1 + 1) (w2) w' → (Reg (w.heap.size + 1 + 1 + 1) (w2) w' ∧ w'.cell? ⟨w.heap.size, 0, none⟩ = some (.int .i64 y0) ∧ w'.cell? ⟨w.heap.size, 1, none⟩ = some (.int .i64 y1) ∧ w'.cell? ⟨w.heap.size + 1 + 1 + 1, 0, none⟩ = some (cur w' ⟨w.heap.size + 1 + 1 + 1, 0, none⟩) ∧ w'.frozen? ⟨w.heap.size + 1 + 1 + 1, 0, none⟩ = false ∧ w'.cell? ⟨w.heap.size + 1 + 1 + 1, 1, none⟩ = some (cur w' ⟨w.heap.size + 1 + 1 + 1, 1, none⟩) ∧ w'.frozen? ⟨w.heap.size + 1 + 1 + 1, 1, none⟩ = false)) := (fun w' h => by (have hc := h.cells; have hs := h.some; have hf := h.frozen; refine ⟨h, ?_⟩; (try simp only [World.size_alloc, World.size_setCell, size_drew, size_drewN] at hc hs hf); first | (simp (disch := omega) only [hc, hs, hf, cur_iff]; (try go_simp); done) | (simp (disch := first | omega | (simp; done)) only [hc, hs, hf, cur_iff]; (try go_simp); done) | (simp (maxDischargeDepth := 4) [hc, hs, hf, cur_iff, go_sem]; done) | (go_simp; done) | (simp (maxDischargeDepth := 4) [hc, hs, hf, cur_iff, go_sem]; go_simp)))
  refine wp_region_held_drew (S := fun w' => Reg (w.heap.size + 1 + 1 + 1) (w2) w' ∧ w'.cell? ⟨w.heap.size, 0, none⟩ = some (.int .i64 y0) ∧ w'.cell? ⟨w.heap.size, 1, none⟩ = some (.int .i64 y1) ∧ w'.cell? ⟨w.heap.size + 1 + 1 + 1, 0, none⟩ = some (cur w' ⟨w.heap.size + 1 + 1 + 1, 0, none⟩) ∧ w'.frozen? ⟨w.heap.size + 1 + 1 + 1, 0, none⟩ = false ∧ w'.cell? ⟨w.heap.size + 1 + 1 + 1, 1, none⟩ = some (cur w' ⟨w.heap.size + 1 + 1 + 1, 1, none⟩) ∧ w'.frozen? ⟨w.heap.size + 1 + 1 + 1, 1, none⟩ = false) (by kernel_rfl) (HS.out _ (by (repeat first | with_reducible exact Reg.refl _ _ | with_reducible exact Reg.drewN2 _ _ _ _ | with_reducible exact (‹Reg _ _ _ ∧ _›).1 | (with_reducible refine Reg.setCell ?_ ?_ _; rotate_left; exact (by first | omega | ((try simp only [World.size_alloc, World.size_setCell, size_drew, size_drewN]); omega) | (simp; done) | (simp; omega))) | with_reducible refine Reg.alloc ?_ _ | with_reducible refine Reg.drew ?_ | with_reducible refine Reg.drewN ?_ _ | (with_reducible apply Reg.call; rotate_left; with_reducible assumption)))) (fun hHeld => ?_)
  refine wpAnyH_takeD (i := 0) (v := (.pointer (some ⟨w.heap.size, 0, none⟩))) (some 39) rfl rfl (by kernel_rfl) (by kernel_rfl) (by kernel_rfl) (fun _ _ _ h => h) (Or.inl ⟨by rfl, fun w' hSw => (by (try dsimp only at hSw); go_simp)⟩) (by assumption) ?_; (try simp only [Act.put, List.setIfInBounds_toArray, List.set_cons_zero, List.set_cons_succ])
  refine wpAnyH_takeD (i := 1) (v := (.int .i64 y0)) (some 40) rfl rfl (by kernel_rfl) (by kernel_rfl) (by kernel_rfl) (fun _ _ _ h => h) (Or.inl ⟨by rfl, fun w' hSw => (by (try dsimp only at hSw); go_simp)⟩) (by assumption) ?_; (try simp only [Act.put, List.setIfInBounds_toArray, List.set_cons_zero, List.set_cons_succ])
  refine wpAnyH_takeD (i := 2) (v := (.int .i64 r1)) (some 41) rfl rfl (by kernel_rfl) (by kernel_rfl) (by kernel_rfl) (fun _ _ _ h => h) (Or.inl ⟨by rfl, fun w' hSw => (by (try dsimp only at hSw); go_simp)⟩) (by assumption) ?_; (try simp only [Act.put, List.setIfInBounds_toArray, List.set_cons_zero, List.set_cons_succ])
  refine wpAnyH_takeD (i := 3) (v := (.int .i64 (y0 + r1))) (some 42) rfl rfl (by kernel_rfl) (by kernel_rfl) (by kernel_rfl) (fun _ _ _ h => h) (Or.inl ⟨by rfl, fun w' hSw => (by (try dsimp only at hSw); go_simp)⟩) (by assumption) ?_; (try simp only [Act.put, List.setIfInBounds_toArray, List.set_cons_zero, List.set_cons_succ])
  refine wpAnyH_takeD (i := 4) (v := (.int .i64 most)) (some 43) rfl rfl (by kernel_rfl) (by kernel_rfl) (by kernel_rfl) (fun _ _ _ h => h) (Or.inl ⟨by rfl, fun w' hSw => (by (try dsimp only at hSw); go_simp)⟩) (by assumption) ?_; (try simp only [Act.put, List.setIfInBounds_toArray, List.set_cons_zero, List.set_cons_succ])
  refine wpAnyH_takeD (i := 6) (v := (.pointer (some ⟨w.heap.size, 1, none⟩))) (some 45) rfl rfl (by kernel_rfl) (by kernel_rfl) (by kernel_rfl) (fun _ _ _ h => h) (Or.inl ⟨by rfl, fun w' hSw => (by (try dsimp only at hSw); go_simp)⟩) (by assumption) ?_; (try simp only [Act.put, List.setIfInBounds_toArray, List.set_cons_zero, List.set_cons_succ])
  refine wpAnyH_takeD (i := 7) (v := (.int .i64 y1)) (some 46) rfl rfl (by kernel_rfl) (by kernel_rfl) (by kernel_rfl) (fun _ _ _ h => h) (Or.inl ⟨by rfl, fun w' hSw => (by (try dsimp only at hSw); go_simp)⟩) (by assumption) ?_; (try simp only [Act.put, List.setIfInBounds_toArray, List.set_cons_zero, List.set_cons_succ])
  refine wpAnyH_takeD (i := 8) (v := (.int .i64 z1)) (some 47) rfl rfl (by kernel_rfl) (by kernel_rfl) (by kernel_rfl) (fun _ _ _ h => h) (Or.inl ⟨by rfl, fun w' hSw => (by (try dsimp only at hSw); go_simp)⟩) (by assumption) ?_; (try simp only [Act.put, List.setIfInBounds_toArray, List.set_cons_zero, List.set_cons_succ])
  refine wpAnyH_takeD (i := 9) (v := (.int .i64 (y1 + z1))) (some 48) rfl rfl (by kernel_rfl) (by kernel_rfl) (by kernel_rfl) (fun _ _ _ h => h) (Or.inl ⟨by rfl, fun w' hSw => (by (try dsimp only at hSw); go_simp)⟩) (by assumption) ?_; (try simp only [Act.put, List.setIfInBounds_toArray, List.set_cons_zero, List.set_cons_succ])
  refine wpAnyH_takeD (i := 10) (v := (.int .i64 most)) (some 49) rfl rfl (by kernel_rfl) (by kernel_rfl) (by kernel_rfl) (fun _ _ _ h => h) (Or.inl ⟨by rfl, fun w' hSw => (by (try dsimp only at hSw); go_simp)⟩) (by assumption) ?_; (try simp only [Act.put, List.setIfInBounds_toArray, List.set_cons_zero, List.set_cons_succ])
  refine wpAnyH_ready (rs := [5]) (by kernel_rfl) (by simp) ?_; refine AllReadyH.cons rfl (fun K hK => ?_) AllReadyH.nil; go_simp; (go_at_call 23; refine (HU.out _ _).mono ?_; rintro e w9 ⟨rfl, rfl⟩); refine hK.out _ _ (by (try dsimp only); exact HS.out _ (by (repeat first | with_reducible exact Reg.refl _ _ | with_reducible exact Reg.drewN2 _ _ _ _ | with_reducible exact (‹Reg _ _ _ ∧ _›).1 | (with_reducible refine Reg.setCell ?_ ?_ _; rotate_left; exact (by first | omega | ((try simp only [World.size_alloc, World.size_setCell, size_drew, size_drewN]); omega) | (simp; done) | (simp; omega))) | with_reducible refine Reg.alloc ?_ _ | with_reducible refine Reg.drew ?_ | with_reducible refine Reg.drewN ?_ _ | (with_reducible apply Reg.call; rotate_left; with_reducible assumption)))) (fun hHeld => ?_); clear hK K; (try simp only [Act.put, List.setIfInBounds_toArray, List.set_cons_zero, List.set_cons_succ])
  refine wpAnyH_ready (rs := [11]) (by kernel_rfl) (by simp) ?_; refine AllReadyH.cons rfl (fun K hK => ?_) AllReadyH.nil; go_simp; (go_at_call 23; refine (HU.out _ _).mono ?_; rintro e w9 ⟨rfl, rfl⟩); refine hK.out _ _ (by (try dsimp only); exact HS.out _ (by (repeat first | with_reducible exact Reg.refl _ _ | with_reducible exact Reg.drewN2 _ _ _ _ | with_reducible exact (‹Reg _ _ _ ∧ _›).1 | (with_reducible refine Reg.setCell ?_ ?_ _; rotate_left; exact (by first | omega | ((try simp only [World.size_alloc, World.size_setCell, size_drew, size_drewN]); omega) | (simp; done) | (simp; omega))) | with_reducible refine Reg.alloc ?_ _ | with_reducible refine Reg.drew ?_ | with_reducible refine Reg.drewN ?_ _ | (with_reducible apply Reg.call; rotate_left; with_reducible assumption)))) (fun hHeld => ?_); clear hK K; (try simp only [Act.put, List.setIfInBounds_toArray, List.set_cons_zero, List.set_cons_succ])
  refine wpAnyH_takeD (i := 12) (v := (.agg #[.int .i64 (cutL (y0 + r1) most), .int .i64 (cutL (y1 + z1) most)])) (some 51) rfl rfl (by kernel_rfl) (by kernel_rfl) (by kernel_rfl) (fun _ _ _ h => h) (Or.inl ⟨by rfl, fun w' hSw => (by (try dsimp only at hSw); go_simp)⟩) (by assumption) ?_; (try simp only [Act.put, List.setIfInBounds_toArray, List.set_cons_zero, List.set_cons_succ])
  refine wpAnyH_ready (rs := [13]) (by kernel_rfl) (by simp) ?_
  refine AllReadyH.cons rfl (fun K hK => ?_) AllReadyH.nil
  go_simp
  refine hK.out _ _ (HS.out _ (Reg.drew (Reg.setCell (x := w.heap.size + 1 + 1 + 1) (p := ⟨w.heap.size + 1 + 1 + 1, 1, none⟩) (Reg.setCell (x := w.heap.size + 1 + 1 + 1) (p := ⟨w.heap.size + 1 + 1 + 1, 0, none⟩) (Reg.refl _ _) (Or.inl rfl) _) (Or.inl rfl) _))) (fun hHeld => ?_)
  clear hK K
  (try simp only [Act.put, List.setIfInBounds_toArray, List.set_cons_zero, List.set_cons_succ])
  refine wpAnyH_takeD (i := 14) (v := (.int .i64 0)) (some 9) rfl rfl (by kernel_rfl) (by kernel_rfl) (by kernel_rfl) (fun _ _ _ h => h) (Or.inl ⟨by rfl, fun w' hSw => (by (try dsimp only at hSw); go_simp)⟩) (by assumption) ?_; (try simp only [Act.put, List.setIfInBounds_toArray, List.set_cons_zero, List.set_cons_succ])
  refine wpAnyH_done (by kernel_rfl) ?_ _
  go_wp2
  exact bodyPost_ret (resMeD Try.results9 _ _ _ _ _ _ rfl rfl (by rw [o0]; rfl) (by rw [o1]; rfl)) rfl ⟨rfl, by (with_reducible repeat first | exact Below.refl _ _ | assumption | ((first | refine Below.setCell ?_ ?_ _ | refine Below.alloc ?_ ?_ _); rotate_left; exact (by first | omega | (simp; done) | (simp; omega))) | refine Below.drew ?_ | refine Below_drewN ?_ _)⟩

set_option maxRecDepth 100000 in
set_option maxHeartbeats 8000000 in
theorem remember_any (most y0 y1 gr gz : Int) (s : ShapeD) (w : World) :
    Calls Try.prog 9 #[.int .i64 most, .agg #[.int .i64 y0, .int .i64 y1], .agg #[.int .i64 gr, .int .i64 gz], s.v] w (Ret (.tuple #[.agg #[.int .i64 (remL most y0 y1 gr gz s).1, .int .i64 (remL most y0 y1 gr gz s).2.1], .int .i64 (remL most y0 y1 gr gz s).2.2]) w) := by
  have HP0 := Lib.hid (fun W => cproved_any gr gz s W)
  have HM := Lib.hid (fun W => mem_any y0 y1 W)
  unfold remL
  generalize errL gr gz s = U at *
  obtain ⟨p0, q0, p1, q1, E⟩ := U
  dsimp only at *
  have pr := provedL_in' p0 q0
  have pz := provedL_in' p1 q1
  generalize provedL p0 q0 = r1 at *
  generalize provedL p1 q1 = z1 at *
  obtain ⟨a0, b0, a1, b1, a2, b2, a3, b3, a4, b4, a5, b5, a6, b6, a7, b7⟩ := s
  (try dsimp only at *)
  have HP := Lib.hid (show ∀ W, Calls Try.prog 20 #[.agg #[.int .i64 gr, .int .i64 gz], .agg #[.int .i64 a0, .int .i64 b0, .int .i64 a1, .int .i64 b1, .int .i64 a2, .int .i64 b2, .int .i64 a3, .int .i64 b3, .int .i64 a4, .int .i64 b4, .int .i64 a5, .int .i64 b5, .int .i64 a6, .int .i64 b6, .int .i64 a7, .int .i64 b7]] W (Ret (.tuple #[.int .i64 r1, .int .i64 z1, .int .i64 E]) W) from HP0.out)
  clear HP0
  show Calls Try.prog 9 #[.int .i64 most, .agg #[.int .i64 y0, .int .i64 y1], .agg #[.int .i64 gr, .int .i64 gz], .agg #[.int .i64 a0, .int .i64 b0, .int .i64 a1, .int .i64 b1, .int .i64 a2, .int .i64 b2, .int .i64 a3, .int .i64 b3, .int .i64 a4, .int .i64 b4, .int .i64 a5, .int .i64 b5, .int .i64 a6, .int .i64 b6, .int .i64 a7, .int .i64 b7]] w _
  by_cases hE1 : E = 1
  · subst hE1
    have e0 : ((1 : Int) == 1) = true := rfl
    rw [if_pos rfl, ite_self]
    clear HM pr pz
    go_enter Try.func9, Try.ntmps9
    go_upto_region 1 with (fail)
    have Fh : Hid (RowL (w.heap.size) [.int .i64 y0, .int .i64 y1] ((((w.alloc (.cells #[.int .i64 y0, .int .i64 y1] 34)).alloc (.cells #[.int .i64 gr, .int .i64 gz] 36)).alloc (.cells #[.int .i64 a0, .int .i64 b0, .int .i64 a1, .int .i64 b1, .int .i64 a2, .int .i64 b2, .int .i64 a3, .int .i64 b3, .int .i64 a4, .int .i64 b4, .int .i64 a5, .int .i64 b5, .int .i64 a6, .int .i64 b6, .int .i64 a7, .int .i64 b7] 40)).alloc (.cells #[.int .i64 0, .int .i64 0] 34))) := Lib.hid (by have h := RowL.new w #[.int .i64 y0, .int .i64 y1] 34; (try simp only [World.size_alloc] at h); exact (((h.alloc _).alloc _).alloc _))
    have Fg : Hid (RowL (w.heap.size + 1) [.int .i64 gr, .int .i64 gz] ((((w.alloc (.cells #[.int .i64 y0, .int .i64 y1] 34)).alloc (.cells #[.int .i64 gr, .int .i64 gz] 36)).alloc (.cells #[.int .i64 a0, .int .i64 b0, .int .i64 a1, .int .i64 b1, .int .i64 a2, .int .i64 b2, .int .i64 a3, .int .i64 b3, .int .i64 a4, .int .i64 b4, .int .i64 a5, .int .i64 b5, .int .i64 a6, .int .i64 b6, .int .i64 a7, .int .i64 b7] 40)).alloc (.cells #[.int .i64 0, .int .i64 0] 34))) := Lib.hid (by have h := RowL.new (w.alloc (.cells #[.int .i64 y0, .int .i64 y1] 34)) #[.int .i64 gr, .int .i64 gz] 36; (try simp only [World.size_alloc] at h); exact ((h.alloc _).alloc _))
    have Fs : Hid (RowL (w.heap.size + 1 + 1) [.int .i64 a0, .int .i64 b0, .int .i64 a1, .int .i64 b1, .int .i64 a2, .int .i64 b2, .int .i64 a3, .int .i64 b3, .int .i64 a4, .int .i64 b4, .int .i64 a5, .int .i64 b5, .int .i64 a6, .int .i64 b6, .int .i64 a7, .int .i64 b7] ((((w.alloc (.cells #[.int .i64 y0, .int .i64 y1] 34)).alloc (.cells #[.int .i64 gr, .int .i64 gz] 36)).alloc (.cells #[.int .i64 a0, .int .i64 b0, .int .i64 a1, .int .i64 b1, .int .i64 a2, .int .i64 b2, .int .i64 a3, .int .i64 b3, .int .i64 a4, .int .i64 b4, .int .i64 a5, .int .i64 b5, .int .i64 a6, .int .i64 b6, .int .i64 a7, .int .i64 b7] 40)).alloc (.cells #[.int .i64 0, .int .i64 0] 34))) := Lib.hid (by have h := RowL.new ((w.alloc (.cells #[.int .i64 y0, .int .i64 y1] 34)).alloc (.cells #[.int .i64 gr, .int .i64 gz] 36)) #[.int .i64 a0, .int .i64 b0, .int .i64 a1, .int .i64 b1, .int .i64 a2, .int .i64 b2, .int .i64 a3, .int .i64 b3, .int .i64 a4, .int .i64 b4, .int .i64 a5, .int .i64 b5, .int .i64 a6, .int .i64 b6, .int .i64 a7, .int .i64 b7] 40; (try simp only [World.size_alloc] at h); exact (h.alloc _))
    have Fo : Hid (RowL (w.heap.size + 1 + 1 + 1) [.int .i64 0, .int .i64 0] ((((w.alloc (.cells #[.int .i64 y0, .int .i64 y1] 34)).alloc (.cells #[.int .i64 gr, .int .i64 gz] 36)).alloc (.cells #[.int .i64 a0, .int .i64 b0, .int .i64 a1, .int .i64 b1, .int .i64 a2, .int .i64 b2, .int .i64 a3, .int .i64 b3, .int .i64 a4, .int .i64 b4, .int .i64 a5, .int .i64 b5, .int .i64 a6, .int .i64 b6, .int .i64 a7, .int .i64 b7] 40)).alloc (.cells #[.int .i64 0, .int .i64 0] 34))) := Lib.hid (by have h := RowL.new (((w.alloc (.cells #[.int .i64 y0, .int .i64 y1] 34)).alloc (.cells #[.int .i64 gr, .int .i64 gz] 36)).alloc (.cells #[.int .i64 a0, .int .i64 b0, .int .i64 a1, .int .i64 b1, .int .i64 a2, .int .i64 b2, .int .i64 a3, .int .i64 b3, .int .i64 a4, .int .i64 b4, .int .i64 a5, .int .i64 b5, .int .i64 a6, .int .i64 b6, .int .i64 a7, .int .i64 b7] 40)) #[.int .i64 0, .int .i64 0] 34; (try simp only [World.size_alloc] at h); exact h)
    have hB0 : Below w.heap.size w ((((w.alloc (.cells #[.int .i64 y0, .int .i64 y1] 34)).alloc (.cells #[.int .i64 gr, .int .i64 gz] 36)).alloc (.cells #[.int .i64 a0, .int .i64 b0, .int .i64 a1, .int .i64 b1, .int .i64 a2, .int .i64 b2, .int .i64 a3, .int .i64 b3, .int .i64 a4, .int .i64 b4, .int .i64 a5, .int .i64 b5, .int .i64 a6, .int .i64 b6, .int .i64 a7, .int .i64 b7] 40)).alloc (.cells #[.int .i64 0, .int .i64 0] 34)) := by (with_reducible repeat first | exact Below.refl _ _ | assumption | ((first | refine Below.setCell ?_ ?_ _ | refine Below.alloc ?_ ?_ _); rotate_left; exact (by first | omega | (simp; done) | (simp; omega))) | refine Below.drew ?_ | refine Below_drewN ?_ _)
    have sW0 : w.heap.size + 1 + 1 + 1 < ((((w.alloc (.cells #[.int .i64 y0, .int .i64 y1] 34)).alloc (.cells #[.int .i64 gr, .int .i64 gz] 36)).alloc (.cells #[.int .i64 a0, .int .i64 b0, .int .i64 a1, .int .i64 b1, .int .i64 a2, .int .i64 b2, .int .i64 a3, .int .i64 b3, .int .i64 a4, .int .i64 b4, .int .i64 a5, .int .i64 b5, .int .i64 a6, .int .i64 b6, .int .i64 a7, .int .i64 b7] 40)).alloc (.cells #[.int .i64 0, .int .i64 0] 34)).heap.size := by simp only [World.size_alloc]; omega
    obtain ⟨W0, hW0⟩ : ∃ W, ((((w.alloc (.cells #[.int .i64 y0, .int .i64 y1] 34)).alloc (.cells #[.int .i64 gr, .int .i64 gz] 36)).alloc (.cells #[.int .i64 a0, .int .i64 b0, .int .i64 a1, .int .i64 b1, .int .i64 a2, .int .i64 b2, .int .i64 a3, .int .i64 b3, .int .i64 a4, .int .i64 b4, .int .i64 a5, .int .i64 b5, .int .i64 a6, .int .i64 b6, .int .i64 a7, .int .i64 b7] 40)).alloc (.cells #[.int .i64 0, .int .i64 0] 34)) = W := ⟨_, rfl⟩
    rw [hW0] at Fh Fg Fs Fo hB0 sW0 ⊢
    clear hW0
    have h0 := Fh.out.cell 0 (.int .i64 y0) rfl
    have h1 := Fh.out.cell 1 (.int .i64 y1) rfl
    have g0 := Fg.out.cell 0 (.int .i64 gr) rfl
    have g1 := Fg.out.cell 1 (.int .i64 gz) rfl
    have s0 := Fs.out.cell 0 (.int .i64 a0) rfl
    have s1 := Fs.out.cell 1 (.int .i64 b0) rfl
    have s2 := Fs.out.cell 2 (.int .i64 a1) rfl
    have s3 := Fs.out.cell 3 (.int .i64 b1) rfl
    have s4 := Fs.out.cell 4 (.int .i64 a2) rfl
    have s5 := Fs.out.cell 5 (.int .i64 b2) rfl
    have s6 := Fs.out.cell 6 (.int .i64 a3) rfl
    have s7 := Fs.out.cell 7 (.int .i64 b3) rfl
    have s8 := Fs.out.cell 8 (.int .i64 a4) rfl
    have s9 := Fs.out.cell 9 (.int .i64 b4) rfl
    have s10 := Fs.out.cell 10 (.int .i64 a5) rfl
    have s11 := Fs.out.cell 11 (.int .i64 b5) rfl
    have s12 := Fs.out.cell 12 (.int .i64 a6) rfl
    have s13 := Fs.out.cell 13 (.int .i64 b6) rfl
    have s14 := Fs.out.cell 14 (.int .i64 a7) rfl
    have s15 := Fs.out.cell 15 (.int .i64 b7) rfl
    have o0 := Fo.out.cell 0 (.int .i64 0) rfl
    have of0 := Fo.out.mark 0 (by simp)
    have o1 := Fo.out.cell 1 (.int .i64 0) rfl
    have of1 := Fo.out.mark 1 (by simp)
    go_wp2_with fail
    refine (HP.out _).mono ?_
    rintro e w1 ⟨rfl, hb⟩
    clear h0 h1 g0 g1 s0 s1 s2 s3 s4 s5 s6 s7 s8 s9 s10 s11 s12 s13 s14 s15 o0 of0 o1 of1
    have Gh := Lib.hid (Fh.out.below hb)
    clear Fh
    have Fh := Lib.hid Gh.out
    clear Gh
    have Gg := Lib.hid (Fg.out.below hb)
    clear Fg
    have Fg := Lib.hid Gg.out
    clear Gg
    have Gs := Lib.hid (Fs.out.below hb)
    clear Fs
    have Fs := Lib.hid Gs.out
    clear Gs
    have Go := Lib.hid (Fo.out.below hb)
    clear Fo
    have Fo := Lib.hid Go.out
    clear Go
    have h0 := Fh.out.cell 0 (.int .i64 y0) rfl
    have h1 := Fh.out.cell 1 (.int .i64 y1) rfl
    have g0 := Fg.out.cell 0 (.int .i64 gr) rfl
    have g1 := Fg.out.cell 1 (.int .i64 gz) rfl
    have s0 := Fs.out.cell 0 (.int .i64 a0) rfl
    have s1 := Fs.out.cell 1 (.int .i64 b0) rfl
    have s2 := Fs.out.cell 2 (.int .i64 a1) rfl
    have s3 := Fs.out.cell 3 (.int .i64 b1) rfl
    have s4 := Fs.out.cell 4 (.int .i64 a2) rfl
    have s5 := Fs.out.cell 5 (.int .i64 b2) rfl
    have s6 := Fs.out.cell 6 (.int .i64 a3) rfl
    have s7 := Fs.out.cell 7 (.int .i64 b3) rfl
    have s8 := Fs.out.cell 8 (.int .i64 a4) rfl
    have s9 := Fs.out.cell 9 (.int .i64 b4) rfl
    have s10 := Fs.out.cell 10 (.int .i64 a5) rfl
    have s11 := Fs.out.cell 11 (.int .i64 b5) rfl
    have s12 := Fs.out.cell 12 (.int .i64 a6) rfl
    have s13 := Fs.out.cell 13 (.int .i64 b6) rfl
    have s14 := Fs.out.cell 14 (.int .i64 a7) rfl
    have s15 := Fs.out.cell 15 (.int .i64 b7) rfl
    have o0 := Fo.out.cell 0 (.int .i64 0) rfl
    have of0 := Fo.out.mark 0 (by simp)
    have o1 := Fo.out.cell 1 (.int .i64 0) rfl
    have of1 := Fo.out.mark 1 (by simp)
    have hBw1 := hB0.trans (hb.mono hB0.size)
    have how1 : w.heap.size + 1 + 1 + 1 < w1.heap.size := Fo.out.lt
    clear hb
    go_wp2_with fail
    exact bodyPost_ret (resMe Try.results9 _ _ _ _ _ _ rfl rfl (by (try simp only [isSome_setCell]); first | assumption | go_simp) (by (try simp only [isSome_setCell]); first | assumption | go_simp)) rfl ⟨rfl, by (with_reducible repeat first | exact Below.refl _ _ | assumption | ((first | refine Below.setCell ?_ ?_ _ | refine Below.alloc ?_ ?_ _); rotate_left; exact (by first | omega | (simp; done) | (simp; omega))) | refine Below.drew ?_ | refine Below_drewN ?_ _)⟩
  have e0 : (E == 1) = false := by rw [beq_eq_false_iff_ne]; exact hE1
  rw [if_neg hE1]
  cases hm : memB y0 y1
  · rw [hm] at HM
    rw [if_neg (by decide)]
    clear hm pr pz hE1
    go_enter Try.func9, Try.ntmps9
    go_upto_region 1 with (fail)
    have Fh : Hid (RowL (w.heap.size) [.int .i64 y0, .int .i64 y1] ((((w.alloc (.cells #[.int .i64 y0, .int .i64 y1] 34)).alloc (.cells #[.int .i64 gr, .int .i64 gz] 36)).alloc (.cells #[.int .i64 a0, .int .i64 b0, .int .i64 a1, .int .i64 b1, .int .i64 a2, .int .i64 b2, .int .i64 a3, .int .i64 b3, .int .i64 a4, .int .i64 b4, .int .i64 a5, .int .i64 b5, .int .i64 a6, .int .i64 b6, .int .i64 a7, .int .i64 b7] 40)).alloc (.cells #[.int .i64 0, .int .i64 0] 34))) := Lib.hid (by have h := RowL.new w #[.int .i64 y0, .int .i64 y1] 34; (try simp only [World.size_alloc] at h); exact (((h.alloc _).alloc _).alloc _))
    have Fg : Hid (RowL (w.heap.size + 1) [.int .i64 gr, .int .i64 gz] ((((w.alloc (.cells #[.int .i64 y0, .int .i64 y1] 34)).alloc (.cells #[.int .i64 gr, .int .i64 gz] 36)).alloc (.cells #[.int .i64 a0, .int .i64 b0, .int .i64 a1, .int .i64 b1, .int .i64 a2, .int .i64 b2, .int .i64 a3, .int .i64 b3, .int .i64 a4, .int .i64 b4, .int .i64 a5, .int .i64 b5, .int .i64 a6, .int .i64 b6, .int .i64 a7, .int .i64 b7] 40)).alloc (.cells #[.int .i64 0, .int .i64 0] 34))) := Lib.hid (by have h := RowL.new (w.alloc (.cells #[.int .i64 y0, .int .i64 y1] 34)) #[.int .i64 gr, .int .i64 gz] 36; (try simp only [World.size_alloc] at h); exact ((h.alloc _).alloc _))
    have Fs : Hid (RowL (w.heap.size + 1 + 1) [.int .i64 a0, .int .i64 b0, .int .i64 a1, .int .i64 b1, .int .i64 a2, .int .i64 b2, .int .i64 a3, .int .i64 b3, .int .i64 a4, .int .i64 b4, .int .i64 a5, .int .i64 b5, .int .i64 a6, .int .i64 b6, .int .i64 a7, .int .i64 b7] ((((w.alloc (.cells #[.int .i64 y0, .int .i64 y1] 34)).alloc (.cells #[.int .i64 gr, .int .i64 gz] 36)).alloc (.cells #[.int .i64 a0, .int .i64 b0, .int .i64 a1, .int .i64 b1, .int .i64 a2, .int .i64 b2, .int .i64 a3, .int .i64 b3, .int .i64 a4, .int .i64 b4, .int .i64 a5, .int .i64 b5, .int .i64 a6, .int .i64 b6, .int .i64 a7, .int .i64 b7] 40)).alloc (.cells #[.int .i64 0, .int .i64 0] 34))) := Lib.hid (by have h := RowL.new ((w.alloc (.cells #[.int .i64 y0, .int .i64 y1] 34)).alloc (.cells #[.int .i64 gr, .int .i64 gz] 36)) #[.int .i64 a0, .int .i64 b0, .int .i64 a1, .int .i64 b1, .int .i64 a2, .int .i64 b2, .int .i64 a3, .int .i64 b3, .int .i64 a4, .int .i64 b4, .int .i64 a5, .int .i64 b5, .int .i64 a6, .int .i64 b6, .int .i64 a7, .int .i64 b7] 40; (try simp only [World.size_alloc] at h); exact (h.alloc _))
    have Fo : Hid (RowL (w.heap.size + 1 + 1 + 1) [.int .i64 0, .int .i64 0] ((((w.alloc (.cells #[.int .i64 y0, .int .i64 y1] 34)).alloc (.cells #[.int .i64 gr, .int .i64 gz] 36)).alloc (.cells #[.int .i64 a0, .int .i64 b0, .int .i64 a1, .int .i64 b1, .int .i64 a2, .int .i64 b2, .int .i64 a3, .int .i64 b3, .int .i64 a4, .int .i64 b4, .int .i64 a5, .int .i64 b5, .int .i64 a6, .int .i64 b6, .int .i64 a7, .int .i64 b7] 40)).alloc (.cells #[.int .i64 0, .int .i64 0] 34))) := Lib.hid (by have h := RowL.new (((w.alloc (.cells #[.int .i64 y0, .int .i64 y1] 34)).alloc (.cells #[.int .i64 gr, .int .i64 gz] 36)).alloc (.cells #[.int .i64 a0, .int .i64 b0, .int .i64 a1, .int .i64 b1, .int .i64 a2, .int .i64 b2, .int .i64 a3, .int .i64 b3, .int .i64 a4, .int .i64 b4, .int .i64 a5, .int .i64 b5, .int .i64 a6, .int .i64 b6, .int .i64 a7, .int .i64 b7] 40)) #[.int .i64 0, .int .i64 0] 34; (try simp only [World.size_alloc] at h); exact h)
    have hB0 : Below w.heap.size w ((((w.alloc (.cells #[.int .i64 y0, .int .i64 y1] 34)).alloc (.cells #[.int .i64 gr, .int .i64 gz] 36)).alloc (.cells #[.int .i64 a0, .int .i64 b0, .int .i64 a1, .int .i64 b1, .int .i64 a2, .int .i64 b2, .int .i64 a3, .int .i64 b3, .int .i64 a4, .int .i64 b4, .int .i64 a5, .int .i64 b5, .int .i64 a6, .int .i64 b6, .int .i64 a7, .int .i64 b7] 40)).alloc (.cells #[.int .i64 0, .int .i64 0] 34)) := by (with_reducible repeat first | exact Below.refl _ _ | assumption | ((first | refine Below.setCell ?_ ?_ _ | refine Below.alloc ?_ ?_ _); rotate_left; exact (by first | omega | (simp; done) | (simp; omega))) | refine Below.drew ?_ | refine Below_drewN ?_ _)
    have sW0 : w.heap.size + 1 + 1 + 1 < ((((w.alloc (.cells #[.int .i64 y0, .int .i64 y1] 34)).alloc (.cells #[.int .i64 gr, .int .i64 gz] 36)).alloc (.cells #[.int .i64 a0, .int .i64 b0, .int .i64 a1, .int .i64 b1, .int .i64 a2, .int .i64 b2, .int .i64 a3, .int .i64 b3, .int .i64 a4, .int .i64 b4, .int .i64 a5, .int .i64 b5, .int .i64 a6, .int .i64 b6, .int .i64 a7, .int .i64 b7] 40)).alloc (.cells #[.int .i64 0, .int .i64 0] 34)).heap.size := by simp only [World.size_alloc]; omega
    obtain ⟨W0, hW0⟩ : ∃ W, ((((w.alloc (.cells #[.int .i64 y0, .int .i64 y1] 34)).alloc (.cells #[.int .i64 gr, .int .i64 gz] 36)).alloc (.cells #[.int .i64 a0, .int .i64 b0, .int .i64 a1, .int .i64 b1, .int .i64 a2, .int .i64 b2, .int .i64 a3, .int .i64 b3, .int .i64 a4, .int .i64 b4, .int .i64 a5, .int .i64 b5, .int .i64 a6, .int .i64 b6, .int .i64 a7, .int .i64 b7] 40)).alloc (.cells #[.int .i64 0, .int .i64 0] 34)) = W := ⟨_, rfl⟩
    rw [hW0] at Fh Fg Fs Fo hB0 sW0 ⊢
    clear hW0
    have h0 := Fh.out.cell 0 (.int .i64 y0) rfl
    have h1 := Fh.out.cell 1 (.int .i64 y1) rfl
    have g0 := Fg.out.cell 0 (.int .i64 gr) rfl
    have g1 := Fg.out.cell 1 (.int .i64 gz) rfl
    have s0 := Fs.out.cell 0 (.int .i64 a0) rfl
    have s1 := Fs.out.cell 1 (.int .i64 b0) rfl
    have s2 := Fs.out.cell 2 (.int .i64 a1) rfl
    have s3 := Fs.out.cell 3 (.int .i64 b1) rfl
    have s4 := Fs.out.cell 4 (.int .i64 a2) rfl
    have s5 := Fs.out.cell 5 (.int .i64 b2) rfl
    have s6 := Fs.out.cell 6 (.int .i64 a3) rfl
    have s7 := Fs.out.cell 7 (.int .i64 b3) rfl
    have s8 := Fs.out.cell 8 (.int .i64 a4) rfl
    have s9 := Fs.out.cell 9 (.int .i64 b4) rfl
    have s10 := Fs.out.cell 10 (.int .i64 a5) rfl
    have s11 := Fs.out.cell 11 (.int .i64 b5) rfl
    have s12 := Fs.out.cell 12 (.int .i64 a6) rfl
    have s13 := Fs.out.cell 13 (.int .i64 b6) rfl
    have s14 := Fs.out.cell 14 (.int .i64 a7) rfl
    have s15 := Fs.out.cell 15 (.int .i64 b7) rfl
    have o0 := Fo.out.cell 0 (.int .i64 0) rfl
    have of0 := Fo.out.mark 0 (by simp)
    have o1 := Fo.out.cell 1 (.int .i64 0) rfl
    have of1 := Fo.out.mark 1 (by simp)
    go_wp2_with fail
    refine (HP.out _).mono ?_
    rintro e w1 ⟨rfl, hb⟩
    clear h0 h1 g0 g1 s0 s1 s2 s3 s4 s5 s6 s7 s8 s9 s10 s11 s12 s13 s14 s15 o0 of0 o1 of1
    have Gh := Lib.hid (Fh.out.below hb)
    clear Fh
    have Fh := Lib.hid Gh.out
    clear Gh
    have Gg := Lib.hid (Fg.out.below hb)
    clear Fg
    have Fg := Lib.hid Gg.out
    clear Gg
    have Gs := Lib.hid (Fs.out.below hb)
    clear Fs
    have Fs := Lib.hid Gs.out
    clear Gs
    have Go := Lib.hid (Fo.out.below hb)
    clear Fo
    have Fo := Lib.hid Go.out
    clear Go
    have h0 := Fh.out.cell 0 (.int .i64 y0) rfl
    have h1 := Fh.out.cell 1 (.int .i64 y1) rfl
    have g0 := Fg.out.cell 0 (.int .i64 gr) rfl
    have g1 := Fg.out.cell 1 (.int .i64 gz) rfl
    have s0 := Fs.out.cell 0 (.int .i64 a0) rfl
    have s1 := Fs.out.cell 1 (.int .i64 b0) rfl
    have s2 := Fs.out.cell 2 (.int .i64 a1) rfl
    have s3 := Fs.out.cell 3 (.int .i64 b1) rfl
    have s4 := Fs.out.cell 4 (.int .i64 a2) rfl
    have s5 := Fs.out.cell 5 (.int .i64 b2) rfl
    have s6 := Fs.out.cell 6 (.int .i64 a3) rfl
    have s7 := Fs.out.cell 7 (.int .i64 b3) rfl
    have s8 := Fs.out.cell 8 (.int .i64 a4) rfl
    have s9 := Fs.out.cell 9 (.int .i64 b4) rfl
    have s10 := Fs.out.cell 10 (.int .i64 a5) rfl
    have s11 := Fs.out.cell 11 (.int .i64 b5) rfl
    have s12 := Fs.out.cell 12 (.int .i64 a6) rfl
    have s13 := Fs.out.cell 13 (.int .i64 b6) rfl
    have s14 := Fs.out.cell 14 (.int .i64 a7) rfl
    have s15 := Fs.out.cell 15 (.int .i64 b7) rfl
    have o0 := Fo.out.cell 0 (.int .i64 0) rfl
    have of0 := Fo.out.mark 0 (by simp)
    have o1 := Fo.out.cell 1 (.int .i64 0) rfl
    have of1 := Fo.out.mark 1 (by simp)
    have hBw1 := hB0.trans (hb.mono hB0.size)
    have how1 : w.heap.size + 1 + 1 + 1 < w1.heap.size := Fo.out.lt
    clear hb
    go_wp2_with fail
    refine (HM.out _).mono ?_
    rintro e w2 ⟨rfl, hb⟩
    clear h0 h1 g0 g1 s0 s1 s2 s3 s4 s5 s6 s7 s8 s9 s10 s11 s12 s13 s14 s15 o0 of0 o1 of1
    have Gh := Lib.hid (Fh.out.below hb)
    clear Fh
    have Fh := Lib.hid Gh.out
    clear Gh
    have Gg := Lib.hid (Fg.out.below hb)
    clear Fg
    have Fg := Lib.hid Gg.out
    clear Gg
    have Gs := Lib.hid (Fs.out.below hb)
    clear Fs
    have Fs := Lib.hid Gs.out
    clear Gs
    have Go := Lib.hid (Fo.out.below hb)
    clear Fo
    have Fo := Lib.hid Go.out
    clear Go
    have h0 := Fh.out.cell 0 (.int .i64 y0) rfl
    have h1 := Fh.out.cell 1 (.int .i64 y1) rfl
    have g0 := Fg.out.cell 0 (.int .i64 gr) rfl
    have g1 := Fg.out.cell 1 (.int .i64 gz) rfl
    have s0 := Fs.out.cell 0 (.int .i64 a0) rfl
    have s1 := Fs.out.cell 1 (.int .i64 b0) rfl
    have s2 := Fs.out.cell 2 (.int .i64 a1) rfl
    have s3 := Fs.out.cell 3 (.int .i64 b1) rfl
    have s4 := Fs.out.cell 4 (.int .i64 a2) rfl
    have s5 := Fs.out.cell 5 (.int .i64 b2) rfl
    have s6 := Fs.out.cell 6 (.int .i64 a3) rfl
    have s7 := Fs.out.cell 7 (.int .i64 b3) rfl
    have s8 := Fs.out.cell 8 (.int .i64 a4) rfl
    have s9 := Fs.out.cell 9 (.int .i64 b4) rfl
    have s10 := Fs.out.cell 10 (.int .i64 a5) rfl
    have s11 := Fs.out.cell 11 (.int .i64 b5) rfl
    have s12 := Fs.out.cell 12 (.int .i64 a6) rfl
    have s13 := Fs.out.cell 13 (.int .i64 b6) rfl
    have s14 := Fs.out.cell 14 (.int .i64 a7) rfl
    have s15 := Fs.out.cell 15 (.int .i64 b7) rfl
    have o0 := Fo.out.cell 0 (.int .i64 0) rfl
    have of0 := Fo.out.mark 0 (by simp)
    have o1 := Fo.out.cell 1 (.int .i64 0) rfl
    have of1 := Fo.out.mark 1 (by simp)
    have hBw2 := hBw1.trans (hb.mono hBw1.size)
    have how2 : w.heap.size + 1 + 1 + 1 < w2.heap.size := Fo.out.lt
    clear hb
    go_wp2_with fail
    exact bodyPost_ret (resMe Try.results9 _ _ _ _ _ _ rfl rfl (by (try simp only [isSome_setCell]); first | assumption | go_simp) (by (try simp only [isSome_setCell]); first | assumption | go_simp)) rfl ⟨rfl, by (with_reducible repeat first | exact Below.refl _ _ | assumption | ((first | refine Below.setCell ?_ ?_ _ | refine Below.alloc ?_ ?_ _); rotate_left; exact (by first | omega | (simp; done) | (simp; omega))) | refine Below.drew ?_ | refine Below_drewN ?_ _)⟩
  rw [hm] at HM
  rw [if_pos rfl]
  have hyb := hm
  unfold memB at hyb
  rw [Bool.and_eq_true] at hyb
  have hy0 := wthn_iff.1 hyb.1
  have hy1 := wthn_iff.1 hyb.2
  clear hm hyb
  cases hw : wthn most 0 1000000000
  · rw [if_neg (by decide)]
    clear pr pz hE1 hy0 hy1
    go_enter Try.func9, Try.ntmps9
    go_upto_region 1 with (fail)
    have Fh : Hid (RowL (w.heap.size) [.int .i64 y0, .int .i64 y1] ((((w.alloc (.cells #[.int .i64 y0, .int .i64 y1] 34)).alloc (.cells #[.int .i64 gr, .int .i64 gz] 36)).alloc (.cells #[.int .i64 a0, .int .i64 b0, .int .i64 a1, .int .i64 b1, .int .i64 a2, .int .i64 b2, .int .i64 a3, .int .i64 b3, .int .i64 a4, .int .i64 b4, .int .i64 a5, .int .i64 b5, .int .i64 a6, .int .i64 b6, .int .i64 a7, .int .i64 b7] 40)).alloc (.cells #[.int .i64 0, .int .i64 0] 34))) := Lib.hid (by have h := RowL.new w #[.int .i64 y0, .int .i64 y1] 34; (try simp only [World.size_alloc] at h); exact (((h.alloc _).alloc _).alloc _))
    have Fg : Hid (RowL (w.heap.size + 1) [.int .i64 gr, .int .i64 gz] ((((w.alloc (.cells #[.int .i64 y0, .int .i64 y1] 34)).alloc (.cells #[.int .i64 gr, .int .i64 gz] 36)).alloc (.cells #[.int .i64 a0, .int .i64 b0, .int .i64 a1, .int .i64 b1, .int .i64 a2, .int .i64 b2, .int .i64 a3, .int .i64 b3, .int .i64 a4, .int .i64 b4, .int .i64 a5, .int .i64 b5, .int .i64 a6, .int .i64 b6, .int .i64 a7, .int .i64 b7] 40)).alloc (.cells #[.int .i64 0, .int .i64 0] 34))) := Lib.hid (by have h := RowL.new (w.alloc (.cells #[.int .i64 y0, .int .i64 y1] 34)) #[.int .i64 gr, .int .i64 gz] 36; (try simp only [World.size_alloc] at h); exact ((h.alloc _).alloc _))
    have Fs : Hid (RowL (w.heap.size + 1 + 1) [.int .i64 a0, .int .i64 b0, .int .i64 a1, .int .i64 b1, .int .i64 a2, .int .i64 b2, .int .i64 a3, .int .i64 b3, .int .i64 a4, .int .i64 b4, .int .i64 a5, .int .i64 b5, .int .i64 a6, .int .i64 b6, .int .i64 a7, .int .i64 b7] ((((w.alloc (.cells #[.int .i64 y0, .int .i64 y1] 34)).alloc (.cells #[.int .i64 gr, .int .i64 gz] 36)).alloc (.cells #[.int .i64 a0, .int .i64 b0, .int .i64 a1, .int .i64 b1, .int .i64 a2, .int .i64 b2, .int .i64 a3, .int .i64 b3, .int .i64 a4, .int .i64 b4, .int .i64 a5, .int .i64 b5, .int .i64 a6, .int .i64 b6, .int .i64 a7, .int .i64 b7] 40)).alloc (.cells #[.int .i64 0, .int .i64 0] 34))) := Lib.hid (by have h := RowL.new ((w.alloc (.cells #[.int .i64 y0, .int .i64 y1] 34)).alloc (.cells #[.int .i64 gr, .int .i64 gz] 36)) #[.int .i64 a0, .int .i64 b0, .int .i64 a1, .int .i64 b1, .int .i64 a2, .int .i64 b2, .int .i64 a3, .int .i64 b3, .int .i64 a4, .int .i64 b4, .int .i64 a5, .int .i64 b5, .int .i64 a6, .int .i64 b6, .int .i64 a7, .int .i64 b7] 40; (try simp only [World.size_alloc] at h); exact (h.alloc _))
    have Fo : Hid (RowL (w.heap.size + 1 + 1 + 1) [.int .i64 0, .int .i64 0] ((((w.alloc (.cells #[.int .i64 y0, .int .i64 y1] 34)).alloc (.cells #[.int .i64 gr, .int .i64 gz] 36)).alloc (.cells #[.int .i64 a0, .int .i64 b0, .int .i64 a1, .int .i64 b1, .int .i64 a2, .int .i64 b2, .int .i64 a3, .int .i64 b3, .int .i64 a4, .int .i64 b4, .int .i64 a5, .int .i64 b5, .int .i64 a6, .int .i64 b6, .int .i64 a7, .int .i64 b7] 40)).alloc (.cells #[.int .i64 0, .int .i64 0] 34))) := Lib.hid (by have h := RowL.new (((w.alloc (.cells #[.int .i64 y0, .int .i64 y1] 34)).alloc (.cells #[.int .i64 gr, .int .i64 gz] 36)).alloc (.cells #[.int .i64 a0, .int .i64 b0, .int .i64 a1, .int .i64 b1, .int .i64 a2, .int .i64 b2, .int .i64 a3, .int .i64 b3, .int .i64 a4, .int .i64 b4, .int .i64 a5, .int .i64 b5, .int .i64 a6, .int .i64 b6, .int .i64 a7, .int .i64 b7] 40)) #[.int .i64 0, .int .i64 0] 34; (try simp only [World.size_alloc] at h); exact h)
    have hB0 : Below w.heap.size w ((((w.alloc (.cells #[.int .i64 y0, .int .i64 y1] 34)).alloc (.cells #[.int .i64 gr, .int .i64 gz] 36)).alloc (.cells #[.int .i64 a0, .int .i64 b0, .int .i64 a1, .int .i64 b1, .int .i64 a2, .int .i64 b2, .int .i64 a3, .int .i64 b3, .int .i64 a4, .int .i64 b4, .int .i64 a5, .int .i64 b5, .int .i64 a6, .int .i64 b6, .int .i64 a7, .int .i64 b7] 40)).alloc (.cells #[.int .i64 0, .int .i64 0] 34)) := by (with_reducible repeat first | exact Below.refl _ _ | assumption | ((first | refine Below.setCell ?_ ?_ _ | refine Below.alloc ?_ ?_ _); rotate_left; exact (by first | omega | (simp; done) | (simp; omega))) | refine Below.drew ?_ | refine Below_drewN ?_ _)
    have sW0 : w.heap.size + 1 + 1 + 1 < ((((w.alloc (.cells #[.int .i64 y0, .int .i64 y1] 34)).alloc (.cells #[.int .i64 gr, .int .i64 gz] 36)).alloc (.cells #[.int .i64 a0, .int .i64 b0, .int .i64 a1, .int .i64 b1, .int .i64 a2, .int .i64 b2, .int .i64 a3, .int .i64 b3, .int .i64 a4, .int .i64 b4, .int .i64 a5, .int .i64 b5, .int .i64 a6, .int .i64 b6, .int .i64 a7, .int .i64 b7] 40)).alloc (.cells #[.int .i64 0, .int .i64 0] 34)).heap.size := by simp only [World.size_alloc]; omega
    obtain ⟨W0, hW0⟩ : ∃ W, ((((w.alloc (.cells #[.int .i64 y0, .int .i64 y1] 34)).alloc (.cells #[.int .i64 gr, .int .i64 gz] 36)).alloc (.cells #[.int .i64 a0, .int .i64 b0, .int .i64 a1, .int .i64 b1, .int .i64 a2, .int .i64 b2, .int .i64 a3, .int .i64 b3, .int .i64 a4, .int .i64 b4, .int .i64 a5, .int .i64 b5, .int .i64 a6, .int .i64 b6, .int .i64 a7, .int .i64 b7] 40)).alloc (.cells #[.int .i64 0, .int .i64 0] 34)) = W := ⟨_, rfl⟩
    rw [hW0] at Fh Fg Fs Fo hB0 sW0 ⊢
    clear hW0
    have h0 := Fh.out.cell 0 (.int .i64 y0) rfl
    have h1 := Fh.out.cell 1 (.int .i64 y1) rfl
    have g0 := Fg.out.cell 0 (.int .i64 gr) rfl
    have g1 := Fg.out.cell 1 (.int .i64 gz) rfl
    have s0 := Fs.out.cell 0 (.int .i64 a0) rfl
    have s1 := Fs.out.cell 1 (.int .i64 b0) rfl
    have s2 := Fs.out.cell 2 (.int .i64 a1) rfl
    have s3 := Fs.out.cell 3 (.int .i64 b1) rfl
    have s4 := Fs.out.cell 4 (.int .i64 a2) rfl
    have s5 := Fs.out.cell 5 (.int .i64 b2) rfl
    have s6 := Fs.out.cell 6 (.int .i64 a3) rfl
    have s7 := Fs.out.cell 7 (.int .i64 b3) rfl
    have s8 := Fs.out.cell 8 (.int .i64 a4) rfl
    have s9 := Fs.out.cell 9 (.int .i64 b4) rfl
    have s10 := Fs.out.cell 10 (.int .i64 a5) rfl
    have s11 := Fs.out.cell 11 (.int .i64 b5) rfl
    have s12 := Fs.out.cell 12 (.int .i64 a6) rfl
    have s13 := Fs.out.cell 13 (.int .i64 b6) rfl
    have s14 := Fs.out.cell 14 (.int .i64 a7) rfl
    have s15 := Fs.out.cell 15 (.int .i64 b7) rfl
    have o0 := Fo.out.cell 0 (.int .i64 0) rfl
    have of0 := Fo.out.mark 0 (by simp)
    have o1 := Fo.out.cell 1 (.int .i64 0) rfl
    have of1 := Fo.out.mark 1 (by simp)
    go_wp2_with fail
    refine (HP.out _).mono ?_
    rintro e w1 ⟨rfl, hb⟩
    clear h0 h1 g0 g1 s0 s1 s2 s3 s4 s5 s6 s7 s8 s9 s10 s11 s12 s13 s14 s15 o0 of0 o1 of1
    have Gh := Lib.hid (Fh.out.below hb)
    clear Fh
    have Fh := Lib.hid Gh.out
    clear Gh
    have Gg := Lib.hid (Fg.out.below hb)
    clear Fg
    have Fg := Lib.hid Gg.out
    clear Gg
    have Gs := Lib.hid (Fs.out.below hb)
    clear Fs
    have Fs := Lib.hid Gs.out
    clear Gs
    have Go := Lib.hid (Fo.out.below hb)
    clear Fo
    have Fo := Lib.hid Go.out
    clear Go
    have h0 := Fh.out.cell 0 (.int .i64 y0) rfl
    have h1 := Fh.out.cell 1 (.int .i64 y1) rfl
    have g0 := Fg.out.cell 0 (.int .i64 gr) rfl
    have g1 := Fg.out.cell 1 (.int .i64 gz) rfl
    have s0 := Fs.out.cell 0 (.int .i64 a0) rfl
    have s1 := Fs.out.cell 1 (.int .i64 b0) rfl
    have s2 := Fs.out.cell 2 (.int .i64 a1) rfl
    have s3 := Fs.out.cell 3 (.int .i64 b1) rfl
    have s4 := Fs.out.cell 4 (.int .i64 a2) rfl
    have s5 := Fs.out.cell 5 (.int .i64 b2) rfl
    have s6 := Fs.out.cell 6 (.int .i64 a3) rfl
    have s7 := Fs.out.cell 7 (.int .i64 b3) rfl
    have s8 := Fs.out.cell 8 (.int .i64 a4) rfl
    have s9 := Fs.out.cell 9 (.int .i64 b4) rfl
    have s10 := Fs.out.cell 10 (.int .i64 a5) rfl
    have s11 := Fs.out.cell 11 (.int .i64 b5) rfl
    have s12 := Fs.out.cell 12 (.int .i64 a6) rfl
    have s13 := Fs.out.cell 13 (.int .i64 b6) rfl
    have s14 := Fs.out.cell 14 (.int .i64 a7) rfl
    have s15 := Fs.out.cell 15 (.int .i64 b7) rfl
    have o0 := Fo.out.cell 0 (.int .i64 0) rfl
    have of0 := Fo.out.mark 0 (by simp)
    have o1 := Fo.out.cell 1 (.int .i64 0) rfl
    have of1 := Fo.out.mark 1 (by simp)
    have hBw1 := hB0.trans (hb.mono hB0.size)
    have how1 : w.heap.size + 1 + 1 + 1 < w1.heap.size := Fo.out.lt
    clear hb
    go_wp2_with fail
    refine (HM.out _).mono ?_
    rintro e w2 ⟨rfl, hb⟩
    clear h0 h1 g0 g1 s0 s1 s2 s3 s4 s5 s6 s7 s8 s9 s10 s11 s12 s13 s14 s15 o0 of0 o1 of1
    have Gh := Lib.hid (Fh.out.below hb)
    clear Fh
    have Fh := Lib.hid Gh.out
    clear Gh
    have Gg := Lib.hid (Fg.out.below hb)
    clear Fg
    have Fg := Lib.hid Gg.out
    clear Gg
    have Gs := Lib.hid (Fs.out.below hb)
    clear Fs
    have Fs := Lib.hid Gs.out
    clear Gs
    have Go := Lib.hid (Fo.out.below hb)
    clear Fo
    have Fo := Lib.hid Go.out
    clear Go
    have h0 := Fh.out.cell 0 (.int .i64 y0) rfl
    have h1 := Fh.out.cell 1 (.int .i64 y1) rfl
    have g0 := Fg.out.cell 0 (.int .i64 gr) rfl
    have g1 := Fg.out.cell 1 (.int .i64 gz) rfl
    have s0 := Fs.out.cell 0 (.int .i64 a0) rfl
    have s1 := Fs.out.cell 1 (.int .i64 b0) rfl
    have s2 := Fs.out.cell 2 (.int .i64 a1) rfl
    have s3 := Fs.out.cell 3 (.int .i64 b1) rfl
    have s4 := Fs.out.cell 4 (.int .i64 a2) rfl
    have s5 := Fs.out.cell 5 (.int .i64 b2) rfl
    have s6 := Fs.out.cell 6 (.int .i64 a3) rfl
    have s7 := Fs.out.cell 7 (.int .i64 b3) rfl
    have s8 := Fs.out.cell 8 (.int .i64 a4) rfl
    have s9 := Fs.out.cell 9 (.int .i64 b4) rfl
    have s10 := Fs.out.cell 10 (.int .i64 a5) rfl
    have s11 := Fs.out.cell 11 (.int .i64 b5) rfl
    have s12 := Fs.out.cell 12 (.int .i64 a6) rfl
    have s13 := Fs.out.cell 13 (.int .i64 b6) rfl
    have s14 := Fs.out.cell 14 (.int .i64 a7) rfl
    have s15 := Fs.out.cell 15 (.int .i64 b7) rfl
    have o0 := Fo.out.cell 0 (.int .i64 0) rfl
    have of0 := Fo.out.mark 0 (by simp)
    have o1 := Fo.out.cell 1 (.int .i64 0) rfl
    have of1 := Fo.out.mark 1 (by simp)
    have hBw2 := hBw1.trans (hb.mono hBw1.size)
    have how2 : w.heap.size + 1 + 1 + 1 < w2.heap.size := Fo.out.lt
    clear hb
    go_wp2_with (go_at_call 22; refine (cwithin_any _ _ _ _).mono ?_; rintro e w9 ⟨rfl, rfl⟩; rw [hw])
    exact bodyPost_ret (resMe Try.results9 _ _ _ _ _ _ rfl rfl (by (try simp only [isSome_setCell]); first | assumption | go_simp) (by (try simp only [isSome_setCell]); first | assumption | go_simp)) rfl ⟨rfl, by (with_reducible repeat first | exact Below.refl _ _ | assumption | ((first | refine Below.setCell ?_ ?_ _ | refine Below.alloc ?_ ?_ _); rotate_left; exact (by first | omega | (simp; done) | (simp; omega))) | refine Below.drew ?_ | refine Below_drewN ?_ _)⟩
  rw [if_pos rfl]
  have hmo := wthn_iff.1 hw
  by_cases hE : E = 0
  rotate_left
  · have e2 : (E != 0) = true := by rw [bne_iff_ne]; exact hE
    rw [if_neg hE]
    clear pr pz hE1 hy0 hy1 hE
    go_enter Try.func9, Try.ntmps9
    go_upto_region 1 with (fail)
    have Fh : Hid (RowL (w.heap.size) [.int .i64 y0, .int .i64 y1] ((((w.alloc (.cells #[.int .i64 y0, .int .i64 y1] 34)).alloc (.cells #[.int .i64 gr, .int .i64 gz] 36)).alloc (.cells #[.int .i64 a0, .int .i64 b0, .int .i64 a1, .int .i64 b1, .int .i64 a2, .int .i64 b2, .int .i64 a3, .int .i64 b3, .int .i64 a4, .int .i64 b4, .int .i64 a5, .int .i64 b5, .int .i64 a6, .int .i64 b6, .int .i64 a7, .int .i64 b7] 40)).alloc (.cells #[.int .i64 0, .int .i64 0] 34))) := Lib.hid (by have h := RowL.new w #[.int .i64 y0, .int .i64 y1] 34; (try simp only [World.size_alloc] at h); exact (((h.alloc _).alloc _).alloc _))
    have Fg : Hid (RowL (w.heap.size + 1) [.int .i64 gr, .int .i64 gz] ((((w.alloc (.cells #[.int .i64 y0, .int .i64 y1] 34)).alloc (.cells #[.int .i64 gr, .int .i64 gz] 36)).alloc (.cells #[.int .i64 a0, .int .i64 b0, .int .i64 a1, .int .i64 b1, .int .i64 a2, .int .i64 b2, .int .i64 a3, .int .i64 b3, .int .i64 a4, .int .i64 b4, .int .i64 a5, .int .i64 b5, .int .i64 a6, .int .i64 b6, .int .i64 a7, .int .i64 b7] 40)).alloc (.cells #[.int .i64 0, .int .i64 0] 34))) := Lib.hid (by have h := RowL.new (w.alloc (.cells #[.int .i64 y0, .int .i64 y1] 34)) #[.int .i64 gr, .int .i64 gz] 36; (try simp only [World.size_alloc] at h); exact ((h.alloc _).alloc _))
    have Fs : Hid (RowL (w.heap.size + 1 + 1) [.int .i64 a0, .int .i64 b0, .int .i64 a1, .int .i64 b1, .int .i64 a2, .int .i64 b2, .int .i64 a3, .int .i64 b3, .int .i64 a4, .int .i64 b4, .int .i64 a5, .int .i64 b5, .int .i64 a6, .int .i64 b6, .int .i64 a7, .int .i64 b7] ((((w.alloc (.cells #[.int .i64 y0, .int .i64 y1] 34)).alloc (.cells #[.int .i64 gr, .int .i64 gz] 36)).alloc (.cells #[.int .i64 a0, .int .i64 b0, .int .i64 a1, .int .i64 b1, .int .i64 a2, .int .i64 b2, .int .i64 a3, .int .i64 b3, .int .i64 a4, .int .i64 b4, .int .i64 a5, .int .i64 b5, .int .i64 a6, .int .i64 b6, .int .i64 a7, .int .i64 b7] 40)).alloc (.cells #[.int .i64 0, .int .i64 0] 34))) := Lib.hid (by have h := RowL.new ((w.alloc (.cells #[.int .i64 y0, .int .i64 y1] 34)).alloc (.cells #[.int .i64 gr, .int .i64 gz] 36)) #[.int .i64 a0, .int .i64 b0, .int .i64 a1, .int .i64 b1, .int .i64 a2, .int .i64 b2, .int .i64 a3, .int .i64 b3, .int .i64 a4, .int .i64 b4, .int .i64 a5, .int .i64 b5, .int .i64 a6, .int .i64 b6, .int .i64 a7, .int .i64 b7] 40; (try simp only [World.size_alloc] at h); exact (h.alloc _))
    have Fo : Hid (RowL (w.heap.size + 1 + 1 + 1) [.int .i64 0, .int .i64 0] ((((w.alloc (.cells #[.int .i64 y0, .int .i64 y1] 34)).alloc (.cells #[.int .i64 gr, .int .i64 gz] 36)).alloc (.cells #[.int .i64 a0, .int .i64 b0, .int .i64 a1, .int .i64 b1, .int .i64 a2, .int .i64 b2, .int .i64 a3, .int .i64 b3, .int .i64 a4, .int .i64 b4, .int .i64 a5, .int .i64 b5, .int .i64 a6, .int .i64 b6, .int .i64 a7, .int .i64 b7] 40)).alloc (.cells #[.int .i64 0, .int .i64 0] 34))) := Lib.hid (by have h := RowL.new (((w.alloc (.cells #[.int .i64 y0, .int .i64 y1] 34)).alloc (.cells #[.int .i64 gr, .int .i64 gz] 36)).alloc (.cells #[.int .i64 a0, .int .i64 b0, .int .i64 a1, .int .i64 b1, .int .i64 a2, .int .i64 b2, .int .i64 a3, .int .i64 b3, .int .i64 a4, .int .i64 b4, .int .i64 a5, .int .i64 b5, .int .i64 a6, .int .i64 b6, .int .i64 a7, .int .i64 b7] 40)) #[.int .i64 0, .int .i64 0] 34; (try simp only [World.size_alloc] at h); exact h)
    have hB0 : Below w.heap.size w ((((w.alloc (.cells #[.int .i64 y0, .int .i64 y1] 34)).alloc (.cells #[.int .i64 gr, .int .i64 gz] 36)).alloc (.cells #[.int .i64 a0, .int .i64 b0, .int .i64 a1, .int .i64 b1, .int .i64 a2, .int .i64 b2, .int .i64 a3, .int .i64 b3, .int .i64 a4, .int .i64 b4, .int .i64 a5, .int .i64 b5, .int .i64 a6, .int .i64 b6, .int .i64 a7, .int .i64 b7] 40)).alloc (.cells #[.int .i64 0, .int .i64 0] 34)) := by (with_reducible repeat first | exact Below.refl _ _ | assumption | ((first | refine Below.setCell ?_ ?_ _ | refine Below.alloc ?_ ?_ _); rotate_left; exact (by first | omega | (simp; done) | (simp; omega))) | refine Below.drew ?_ | refine Below_drewN ?_ _)
    have sW0 : w.heap.size + 1 + 1 + 1 < ((((w.alloc (.cells #[.int .i64 y0, .int .i64 y1] 34)).alloc (.cells #[.int .i64 gr, .int .i64 gz] 36)).alloc (.cells #[.int .i64 a0, .int .i64 b0, .int .i64 a1, .int .i64 b1, .int .i64 a2, .int .i64 b2, .int .i64 a3, .int .i64 b3, .int .i64 a4, .int .i64 b4, .int .i64 a5, .int .i64 b5, .int .i64 a6, .int .i64 b6, .int .i64 a7, .int .i64 b7] 40)).alloc (.cells #[.int .i64 0, .int .i64 0] 34)).heap.size := by simp only [World.size_alloc]; omega
    obtain ⟨W0, hW0⟩ : ∃ W, ((((w.alloc (.cells #[.int .i64 y0, .int .i64 y1] 34)).alloc (.cells #[.int .i64 gr, .int .i64 gz] 36)).alloc (.cells #[.int .i64 a0, .int .i64 b0, .int .i64 a1, .int .i64 b1, .int .i64 a2, .int .i64 b2, .int .i64 a3, .int .i64 b3, .int .i64 a4, .int .i64 b4, .int .i64 a5, .int .i64 b5, .int .i64 a6, .int .i64 b6, .int .i64 a7, .int .i64 b7] 40)).alloc (.cells #[.int .i64 0, .int .i64 0] 34)) = W := ⟨_, rfl⟩
    rw [hW0] at Fh Fg Fs Fo hB0 sW0 ⊢
    clear hW0
    have h0 := Fh.out.cell 0 (.int .i64 y0) rfl
    have h1 := Fh.out.cell 1 (.int .i64 y1) rfl
    have g0 := Fg.out.cell 0 (.int .i64 gr) rfl
    have g1 := Fg.out.cell 1 (.int .i64 gz) rfl
    have s0 := Fs.out.cell 0 (.int .i64 a0) rfl
    have s1 := Fs.out.cell 1 (.int .i64 b0) rfl
    have s2 := Fs.out.cell 2 (.int .i64 a1) rfl
    have s3 := Fs.out.cell 3 (.int .i64 b1) rfl
    have s4 := Fs.out.cell 4 (.int .i64 a2) rfl
    have s5 := Fs.out.cell 5 (.int .i64 b2) rfl
    have s6 := Fs.out.cell 6 (.int .i64 a3) rfl
    have s7 := Fs.out.cell 7 (.int .i64 b3) rfl
    have s8 := Fs.out.cell 8 (.int .i64 a4) rfl
    have s9 := Fs.out.cell 9 (.int .i64 b4) rfl
    have s10 := Fs.out.cell 10 (.int .i64 a5) rfl
    have s11 := Fs.out.cell 11 (.int .i64 b5) rfl
    have s12 := Fs.out.cell 12 (.int .i64 a6) rfl
    have s13 := Fs.out.cell 13 (.int .i64 b6) rfl
    have s14 := Fs.out.cell 14 (.int .i64 a7) rfl
    have s15 := Fs.out.cell 15 (.int .i64 b7) rfl
    have o0 := Fo.out.cell 0 (.int .i64 0) rfl
    have of0 := Fo.out.mark 0 (by simp)
    have o1 := Fo.out.cell 1 (.int .i64 0) rfl
    have of1 := Fo.out.mark 1 (by simp)
    go_wp2_with fail
    refine (HP.out _).mono ?_
    rintro e w1 ⟨rfl, hb⟩
    clear h0 h1 g0 g1 s0 s1 s2 s3 s4 s5 s6 s7 s8 s9 s10 s11 s12 s13 s14 s15 o0 of0 o1 of1
    have Gh := Lib.hid (Fh.out.below hb)
    clear Fh
    have Fh := Lib.hid Gh.out
    clear Gh
    have Gg := Lib.hid (Fg.out.below hb)
    clear Fg
    have Fg := Lib.hid Gg.out
    clear Gg
    have Gs := Lib.hid (Fs.out.below hb)
    clear Fs
    have Fs := Lib.hid Gs.out
    clear Gs
    have Go := Lib.hid (Fo.out.below hb)
    clear Fo
    have Fo := Lib.hid Go.out
    clear Go
    have h0 := Fh.out.cell 0 (.int .i64 y0) rfl
    have h1 := Fh.out.cell 1 (.int .i64 y1) rfl
    have g0 := Fg.out.cell 0 (.int .i64 gr) rfl
    have g1 := Fg.out.cell 1 (.int .i64 gz) rfl
    have s0 := Fs.out.cell 0 (.int .i64 a0) rfl
    have s1 := Fs.out.cell 1 (.int .i64 b0) rfl
    have s2 := Fs.out.cell 2 (.int .i64 a1) rfl
    have s3 := Fs.out.cell 3 (.int .i64 b1) rfl
    have s4 := Fs.out.cell 4 (.int .i64 a2) rfl
    have s5 := Fs.out.cell 5 (.int .i64 b2) rfl
    have s6 := Fs.out.cell 6 (.int .i64 a3) rfl
    have s7 := Fs.out.cell 7 (.int .i64 b3) rfl
    have s8 := Fs.out.cell 8 (.int .i64 a4) rfl
    have s9 := Fs.out.cell 9 (.int .i64 b4) rfl
    have s10 := Fs.out.cell 10 (.int .i64 a5) rfl
    have s11 := Fs.out.cell 11 (.int .i64 b5) rfl
    have s12 := Fs.out.cell 12 (.int .i64 a6) rfl
    have s13 := Fs.out.cell 13 (.int .i64 b6) rfl
    have s14 := Fs.out.cell 14 (.int .i64 a7) rfl
    have s15 := Fs.out.cell 15 (.int .i64 b7) rfl
    have o0 := Fo.out.cell 0 (.int .i64 0) rfl
    have of0 := Fo.out.mark 0 (by simp)
    have o1 := Fo.out.cell 1 (.int .i64 0) rfl
    have of1 := Fo.out.mark 1 (by simp)
    have hBw1 := hB0.trans (hb.mono hB0.size)
    have how1 : w.heap.size + 1 + 1 + 1 < w1.heap.size := Fo.out.lt
    clear hb
    go_wp2_with fail
    refine (HM.out _).mono ?_
    rintro e w2 ⟨rfl, hb⟩
    clear h0 h1 g0 g1 s0 s1 s2 s3 s4 s5 s6 s7 s8 s9 s10 s11 s12 s13 s14 s15 o0 of0 o1 of1
    have Gh := Lib.hid (Fh.out.below hb)
    clear Fh
    have Fh := Lib.hid Gh.out
    clear Gh
    have Gg := Lib.hid (Fg.out.below hb)
    clear Fg
    have Fg := Lib.hid Gg.out
    clear Gg
    have Gs := Lib.hid (Fs.out.below hb)
    clear Fs
    have Fs := Lib.hid Gs.out
    clear Gs
    have Go := Lib.hid (Fo.out.below hb)
    clear Fo
    have Fo := Lib.hid Go.out
    clear Go
    have h0 := Fh.out.cell 0 (.int .i64 y0) rfl
    have h1 := Fh.out.cell 1 (.int .i64 y1) rfl
    have g0 := Fg.out.cell 0 (.int .i64 gr) rfl
    have g1 := Fg.out.cell 1 (.int .i64 gz) rfl
    have s0 := Fs.out.cell 0 (.int .i64 a0) rfl
    have s1 := Fs.out.cell 1 (.int .i64 b0) rfl
    have s2 := Fs.out.cell 2 (.int .i64 a1) rfl
    have s3 := Fs.out.cell 3 (.int .i64 b1) rfl
    have s4 := Fs.out.cell 4 (.int .i64 a2) rfl
    have s5 := Fs.out.cell 5 (.int .i64 b2) rfl
    have s6 := Fs.out.cell 6 (.int .i64 a3) rfl
    have s7 := Fs.out.cell 7 (.int .i64 b3) rfl
    have s8 := Fs.out.cell 8 (.int .i64 a4) rfl
    have s9 := Fs.out.cell 9 (.int .i64 b4) rfl
    have s10 := Fs.out.cell 10 (.int .i64 a5) rfl
    have s11 := Fs.out.cell 11 (.int .i64 b5) rfl
    have s12 := Fs.out.cell 12 (.int .i64 a6) rfl
    have s13 := Fs.out.cell 13 (.int .i64 b6) rfl
    have s14 := Fs.out.cell 14 (.int .i64 a7) rfl
    have s15 := Fs.out.cell 15 (.int .i64 b7) rfl
    have o0 := Fo.out.cell 0 (.int .i64 0) rfl
    have of0 := Fo.out.mark 0 (by simp)
    have o1 := Fo.out.cell 1 (.int .i64 0) rfl
    have of1 := Fo.out.mark 1 (by simp)
    have hBw2 := hBw1.trans (hb.mono hBw1.size)
    have how2 : w.heap.size + 1 + 1 + 1 < w2.heap.size := Fo.out.lt
    clear hb
    go_wp2_with (go_at_call 22; refine (cwithin_any _ _ _ _).mono ?_; rintro e w9 ⟨rfl, rfl⟩; rw [hw])
    exact bodyPost_ret (resMe Try.results9 _ _ _ _ _ _ rfl rfl (by (try simp only [isSome_setCell]); first | assumption | go_simp) (by (try simp only [isSome_setCell]); first | assumption | go_simp)) rfl ⟨rfl, by (with_reducible repeat first | exact Below.refl _ _ | assumption | ((first | refine Below.setCell ?_ ?_ _ | refine Below.alloc ?_ ?_ _); rotate_left; exact (by first | omega | (simp; done) | (simp; omega))) | refine Below.drew ?_ | refine Below_drewN ?_ _)⟩
  subst hE
  rw [if_pos rfl]
  exact remember_last most y0 y1 gr gz r1 z1 a0 b0 a1 b1 a2 b2 a3 b3 a4 b4 a5 b5 a6 b6 a7 b7 w HP HM hw hmo pr pz hy0 hy1

end Go.Proofs.Ytcdhanfjcnfjjaa
end
