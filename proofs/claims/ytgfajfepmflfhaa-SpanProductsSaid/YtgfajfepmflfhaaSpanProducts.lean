/- Proved: for every pair of spans and numbers the law SpanProducts returns true (Mul, Quot, Ratio and Root are those of the document), and the argument read afterwards is as before; no conditions. -/
import Derived.Test.YtgfajfepmflfhaaBigMQ
import Derived.Test.YtgfajfepmflfhaaBigMR
import Derived.Test.YtgfajfepmflfhaaSpanFP
namespace Go.Proofs.Ytgfajfepmflfhaa.lawSpanProducts
set_option linter.unusedVariables false
set_option linter.unusedSimpArgs false
open Go.ChangeShapes Go.WideShapes Go.ChangeAt Go.RowKit Go.Joins

set_option maxRecDepth 100000 in
set_option maxHeartbeats 8000000 in
theorem products_any (a b c d m n : Int) (w : World) :
    Calls Try.prog 4 #[Sp a b, Sp c d, .int .i64 m, .int .i64 n] w (Ret (.bool true) w) := by
  have F0 := Lib.hid (fun W => mul_any a b c d W)
  have G0 := Lib.hid (fun W => rmul_any a b c d W)
  generalize mulL a b c d = t0 at *
  obtain ⟨p0, q0, r0⟩ := t0
  dsimp only at F0 G0
  have F1 := Lib.hid (fun W => quot_any a b c d W)
  have G1 := Lib.hid (fun W => rquot_any a b c d W)
  generalize quotL a b c d = t1 at *
  obtain ⟨p1, q1, r1⟩ := t1
  dsimp only at F1 G1
  have F2 := Lib.hid (fun W => ratio_any a b m n W)
  have G2 := Lib.hid (fun W => rratio_any a b m n W)
  generalize ratioL a b m n = t2 at *
  obtain ⟨p2, q2, r2⟩ := t2
  dsimp only at F2 G2
  have F3 := Lib.hid (fun W => root_any a b W)
  have G3 := Lib.hid (fun W => rroot_span a b W)
  generalize rootL a b = t3 at *
  obtain ⟨p3, q3, r3⟩ := t3
  dsimp only at F3 G3
  go_enter Try.func4, Try.ntmps4
  go_wp2_with fail
  refine (F0.out _).mono ?_
  rintro e w1 ⟨rfl, hb⟩
  have hB : Below w.heap.size w w1 := Below.trans (by (repeat first | with_reducible exact Below.refl _ _ | with_reducible assumption | (with_reducible refine Below.setCell ?_ ?_ _; rotate_left; exact (by first | omega | (simp; done) | (simp; omega))) | (with_reducible refine Below.alloc ?_ ?_ _; rotate_left; exact (by first | omega | (simp; done) | (simp; omega))) | with_reducible refine Below.drew ?_ | with_reducible refine Below_drewN ?_ _)) (hb.mono (by first | omega | ((try simp only [World.size_alloc, World.size_setCell, size_drew, size_drewN]); omega) | (simp; done) | (simp; omega)))
  obtain ⟨hc1, hf1⟩ := bcell hb
  have hs := hb.size
  clear hb
  (try simp only [World.size_alloc, World.size_setCell] at hc1 hf1 hs)
  have : w.heap.size < w1.heap.size := by omega
  have : w.heap.size + 1 < w1.heap.size := by omega
  go_wp2_with fail
  refine (G0.out _).mono ?_
  rintro e w2 ⟨rfl, hb⟩
  have hB : Below w.heap.size w w2 := Below.trans (by (repeat first | with_reducible exact Below.refl _ _ | with_reducible assumption | (with_reducible refine Below.setCell ?_ ?_ _; rotate_left; exact (by first | omega | (simp; done) | (simp; omega))) | (with_reducible refine Below.alloc ?_ ?_ _; rotate_left; exact (by first | omega | (simp; done) | (simp; omega))) | with_reducible refine Below.drew ?_ | with_reducible refine Below_drewN ?_ _)) (hb.mono (by first | omega | ((try simp only [World.size_alloc, World.size_setCell, size_drew, size_drewN]); omega) | (simp; done) | (simp; omega)))
  obtain ⟨hc2, hf2⟩ := bcell hb
  have hs := hb.size
  clear hb
  (try simp only [World.size_alloc, World.size_setCell] at hc2 hf2 hs)
  have : w.heap.size < w2.heap.size := by omega
  have : w.heap.size + 1 < w2.heap.size := by omega
  have : w1.heap.size < w2.heap.size := by omega
  have : (w2.cell? ⟨w1.heap.size, 0, none⟩).isSome = true := by (rw [hc2 _ _ (by omega)]; (try simp only [isSome_setCell]); first | assumption | go_simp)
  have : (w2.cell? ⟨w1.heap.size, 1, none⟩).isSome = true := by (rw [hc2 _ _ (by omega)]; (try simp only [isSome_setCell]); first | assumption | go_simp)
  go_wp2_with fail
  refine (same_refl _ _ _ _).mono ?_
  rintro e w3 ⟨rfl, hb⟩
  have hB : Below w.heap.size w w3 := Below.trans (by (repeat first | with_reducible exact Below.refl _ _ | with_reducible assumption | (with_reducible refine Below.setCell ?_ ?_ _; rotate_left; exact (by first | omega | (simp; done) | (simp; omega))) | (with_reducible refine Below.alloc ?_ ?_ _; rotate_left; exact (by first | omega | (simp; done) | (simp; omega))) | with_reducible refine Below.drew ?_ | with_reducible refine Below_drewN ?_ _)) (hb.mono (by first | omega | ((try simp only [World.size_alloc, World.size_setCell, size_drew, size_drewN]); omega) | (simp; done) | (simp; omega)))
  obtain ⟨hc3, hf3⟩ := bcell hb
  have hs := hb.size
  clear hb
  (try simp only [World.size_alloc, World.size_setCell] at hc3 hf3 hs)
  have : w.heap.size < w3.heap.size := by omega
  have : w.heap.size + 1 < w3.heap.size := by omega
  have : w1.heap.size < w3.heap.size := by omega
  have : w2.heap.size < w3.heap.size := by omega
  have : (w3.cell? ⟨w1.heap.size, 0, none⟩).isSome = true := by (rw [hc3 _ _ (by omega)]; (try simp only [isSome_setCell]); first | assumption | go_simp)
  have : (w3.cell? ⟨w1.heap.size, 1, none⟩).isSome = true := by (rw [hc3 _ _ (by omega)]; (try simp only [isSome_setCell]); first | assumption | go_simp)
  have : (w3.cell? ⟨w2.heap.size, 0, none⟩).isSome = true := by (rw [hc3 _ _ (by omega)]; (try simp only [isSome_setCell]); first | assumption | go_simp)
  have : (w3.cell? ⟨w2.heap.size, 1, none⟩).isSome = true := by (rw [hc3 _ _ (by omega)]; (try simp only [isSome_setCell]); first | assumption | go_simp)
  have z00 : w3.cell? ⟨w.heap.size, 0, none⟩ = some (.int .i64 a) := by go_simp
  have z01 : w3.cell? ⟨w.heap.size, 1, none⟩ = some (.int .i64 b) := by go_simp
  have z10 : w3.cell? ⟨w.heap.size + 1, 0, none⟩ = some (.int .i64 c) := by go_simp
  have z11 : w3.cell? ⟨w.heap.size + 1, 1, none⟩ = some (.int .i64 d) := by go_simp
  have y00 : w3.frozen? ⟨w1.heap.size, 0, none⟩ = false := by go_simp
  have y01 : w3.frozen? ⟨w1.heap.size, 1, none⟩ = false := by go_simp
  have y10 : w3.frozen? ⟨w2.heap.size, 0, none⟩ = false := by go_simp
  have y11 : w3.frozen? ⟨w2.heap.size, 1, none⟩ = false := by go_simp
  have x00 : w3.cell? ⟨w1.heap.size, 0, none⟩ = some (cur w3 ⟨w1.heap.size, 0, none⟩) := by rw [cur_iff]; assumption
  have x01 : w3.cell? ⟨w1.heap.size, 1, none⟩ = some (cur w3 ⟨w1.heap.size, 1, none⟩) := by rw [cur_iff]; assumption
  have x10 : w3.cell? ⟨w2.heap.size, 0, none⟩ = some (cur w3 ⟨w2.heap.size, 0, none⟩) := by rw [cur_iff]; assumption
  have x11 : w3.cell? ⟨w2.heap.size, 1, none⟩ = some (cur w3 ⟨w2.heap.size, 1, none⟩) := by rw [cur_iff]; assumption
  clear hc1 hf1 hc2 hf2 hc3 hf3
  go_wp2_with fail
  refine (F1.out _).mono ?_
  rintro e w4 ⟨rfl, hb⟩
  have hB : Below w.heap.size w w4 := Below.trans (by (repeat first | with_reducible exact Below.refl _ _ | with_reducible assumption | (with_reducible refine Below.setCell ?_ ?_ _; rotate_left; exact (by first | omega | (simp; done) | (simp; omega))) | (with_reducible refine Below.alloc ?_ ?_ _; rotate_left; exact (by first | omega | (simp; done) | (simp; omega))) | with_reducible refine Below.drew ?_ | with_reducible refine Below_drewN ?_ _)) (hb.mono (by first | omega | ((try simp only [World.size_alloc, World.size_setCell, size_drew, size_drewN]); omega) | (simp; done) | (simp; omega)))
  obtain ⟨hc4, hf4⟩ := bcell hb
  have hs := hb.size
  clear hb
  (try simp only [World.size_alloc, World.size_setCell] at hc4 hf4 hs)
  have : w.heap.size < w4.heap.size := by omega
  have : w.heap.size + 1 < w4.heap.size := by omega
  have : w1.heap.size < w4.heap.size := by omega
  have : w2.heap.size < w4.heap.size := by omega
  have : (w4.cell? ⟨w1.heap.size, 0, none⟩).isSome = true := by (rw [hc4 _ _ (by omega)]; (try simp only [isSome_setCell]); first | assumption | go_simp)
  have : (w4.cell? ⟨w1.heap.size, 1, none⟩).isSome = true := by (rw [hc4 _ _ (by omega)]; (try simp only [isSome_setCell]); first | assumption | go_simp)
  have : (w4.cell? ⟨w2.heap.size, 0, none⟩).isSome = true := by (rw [hc4 _ _ (by omega)]; (try simp only [isSome_setCell]); first | assumption | go_simp)
  have : (w4.cell? ⟨w2.heap.size, 1, none⟩).isSome = true := by (rw [hc4 _ _ (by omega)]; (try simp only [isSome_setCell]); first | assumption | go_simp)
  go_wp2_with fail
  refine (G1.out _).mono ?_
  rintro e w5 ⟨rfl, hb⟩
  have hB : Below w.heap.size w w5 := Below.trans (by (repeat first | with_reducible exact Below.refl _ _ | with_reducible assumption | (with_reducible refine Below.setCell ?_ ?_ _; rotate_left; exact (by first | omega | (simp; done) | (simp; omega))) | (with_reducible refine Below.alloc ?_ ?_ _; rotate_left; exact (by first | omega | (simp; done) | (simp; omega))) | with_reducible refine Below.drew ?_ | with_reducible refine Below_drewN ?_ _)) (hb.mono (by first | omega | ((try simp only [World.size_alloc, World.size_setCell, size_drew, size_drewN]); omega) | (simp; done) | (simp; omega)))
  obtain ⟨hc5, hf5⟩ := bcell hb
  have hs := hb.size
  clear hb
  (try simp only [World.size_alloc, World.size_setCell] at hc5 hf5 hs)
  have : w.heap.size < w5.heap.size := by omega
  have : w.heap.size + 1 < w5.heap.size := by omega
  have : w1.heap.size < w5.heap.size := by omega
  have : w2.heap.size < w5.heap.size := by omega
  have : (w5.cell? ⟨w1.heap.size, 0, none⟩).isSome = true := by (rw [hc5 _ _ (by omega)]; (try simp only [isSome_setCell]); first | assumption | go_simp)
  have : (w5.cell? ⟨w1.heap.size, 1, none⟩).isSome = true := by (rw [hc5 _ _ (by omega)]; (try simp only [isSome_setCell]); first | assumption | go_simp)
  have : (w5.cell? ⟨w2.heap.size, 0, none⟩).isSome = true := by (rw [hc5 _ _ (by omega)]; (try simp only [isSome_setCell]); first | assumption | go_simp)
  have : (w5.cell? ⟨w2.heap.size, 1, none⟩).isSome = true := by (rw [hc5 _ _ (by omega)]; (try simp only [isSome_setCell]); first | assumption | go_simp)
  go_wp2_with fail
  refine (same_refl _ _ _ _).mono ?_
  rintro e w6 ⟨rfl, hb⟩
  have hB : Below w.heap.size w w6 := Below.trans (by (repeat first | with_reducible exact Below.refl _ _ | with_reducible assumption | (with_reducible refine Below.setCell ?_ ?_ _; rotate_left; exact (by first | omega | (simp; done) | (simp; omega))) | (with_reducible refine Below.alloc ?_ ?_ _; rotate_left; exact (by first | omega | (simp; done) | (simp; omega))) | with_reducible refine Below.drew ?_ | with_reducible refine Below_drewN ?_ _)) (hb.mono (by first | omega | ((try simp only [World.size_alloc, World.size_setCell, size_drew, size_drewN]); omega) | (simp; done) | (simp; omega)))
  obtain ⟨hc6, hf6⟩ := bcell hb
  have hs := hb.size
  clear hb
  (try simp only [World.size_alloc, World.size_setCell] at hc6 hf6 hs)
  have : w.heap.size < w6.heap.size := by omega
  have : w.heap.size + 1 < w6.heap.size := by omega
  have : w1.heap.size < w6.heap.size := by omega
  have : w2.heap.size < w6.heap.size := by omega
  have : (w6.cell? ⟨w1.heap.size, 0, none⟩).isSome = true := by (rw [hc6 _ _ (by omega)]; (try simp only [isSome_setCell]); first | assumption | go_simp)
  have : (w6.cell? ⟨w1.heap.size, 1, none⟩).isSome = true := by (rw [hc6 _ _ (by omega)]; (try simp only [isSome_setCell]); first | assumption | go_simp)
  have : (w6.cell? ⟨w2.heap.size, 0, none⟩).isSome = true := by (rw [hc6 _ _ (by omega)]; (try simp only [isSome_setCell]); first | assumption | go_simp)
  have : (w6.cell? ⟨w2.heap.size, 1, none⟩).isSome = true := by (rw [hc6 _ _ (by omega)]; (try simp only [isSome_setCell]); first | assumption | go_simp)
  have z00 : w6.cell? ⟨w.heap.size, 0, none⟩ = some (.int .i64 a) := by go_simp
  have z01 : w6.cell? ⟨w.heap.size, 1, none⟩ = some (.int .i64 b) := by go_simp
  have z10 : w6.cell? ⟨w.heap.size + 1, 0, none⟩ = some (.int .i64 c) := by go_simp
  have z11 : w6.cell? ⟨w.heap.size + 1, 1, none⟩ = some (.int .i64 d) := by go_simp
  have y00 : w6.frozen? ⟨w1.heap.size, 0, none⟩ = false := by go_simp
  have y01 : w6.frozen? ⟨w1.heap.size, 1, none⟩ = false := by go_simp
  have y10 : w6.frozen? ⟨w2.heap.size, 0, none⟩ = false := by go_simp
  have y11 : w6.frozen? ⟨w2.heap.size, 1, none⟩ = false := by go_simp
  have x00 : w6.cell? ⟨w1.heap.size, 0, none⟩ = some (cur w6 ⟨w1.heap.size, 0, none⟩) := by rw [cur_iff]; assumption
  have x01 : w6.cell? ⟨w1.heap.size, 1, none⟩ = some (cur w6 ⟨w1.heap.size, 1, none⟩) := by rw [cur_iff]; assumption
  have x10 : w6.cell? ⟨w2.heap.size, 0, none⟩ = some (cur w6 ⟨w2.heap.size, 0, none⟩) := by rw [cur_iff]; assumption
  have x11 : w6.cell? ⟨w2.heap.size, 1, none⟩ = some (cur w6 ⟨w2.heap.size, 1, none⟩) := by rw [cur_iff]; assumption
  clear hc4 hf4 hc5 hf5 hc6 hf6
  go_wp2_with fail
  refine (F2.out _).mono ?_
  rintro e w7 ⟨rfl, hb⟩
  have hB : Below w.heap.size w w7 := Below.trans (by (repeat first | with_reducible exact Below.refl _ _ | with_reducible assumption | (with_reducible refine Below.setCell ?_ ?_ _; rotate_left; exact (by first | omega | (simp; done) | (simp; omega))) | (with_reducible refine Below.alloc ?_ ?_ _; rotate_left; exact (by first | omega | (simp; done) | (simp; omega))) | with_reducible refine Below.drew ?_ | with_reducible refine Below_drewN ?_ _)) (hb.mono (by first | omega | ((try simp only [World.size_alloc, World.size_setCell, size_drew, size_drewN]); omega) | (simp; done) | (simp; omega)))
  obtain ⟨hc7, hf7⟩ := bcell hb
  have hs := hb.size
  clear hb
  (try simp only [World.size_alloc, World.size_setCell] at hc7 hf7 hs)
  have : w.heap.size < w7.heap.size := by omega
  have : w.heap.size + 1 < w7.heap.size := by omega
  have : w1.heap.size < w7.heap.size := by omega
  have : w2.heap.size < w7.heap.size := by omega
  have : (w7.cell? ⟨w1.heap.size, 0, none⟩).isSome = true := by (rw [hc7 _ _ (by omega)]; (try simp only [isSome_setCell]); first | assumption | go_simp)
  have : (w7.cell? ⟨w1.heap.size, 1, none⟩).isSome = true := by (rw [hc7 _ _ (by omega)]; (try simp only [isSome_setCell]); first | assumption | go_simp)
  have : (w7.cell? ⟨w2.heap.size, 0, none⟩).isSome = true := by (rw [hc7 _ _ (by omega)]; (try simp only [isSome_setCell]); first | assumption | go_simp)
  have : (w7.cell? ⟨w2.heap.size, 1, none⟩).isSome = true := by (rw [hc7 _ _ (by omega)]; (try simp only [isSome_setCell]); first | assumption | go_simp)
  go_wp2_with fail
  refine (G2.out _).mono ?_
  rintro e w8 ⟨rfl, hb⟩
  have hB : Below w.heap.size w w8 := Below.trans (by (repeat first | with_reducible exact Below.refl _ _ | with_reducible assumption | (with_reducible refine Below.setCell ?_ ?_ _; rotate_left; exact (by first | omega | (simp; done) | (simp; omega))) | (with_reducible refine Below.alloc ?_ ?_ _; rotate_left; exact (by first | omega | (simp; done) | (simp; omega))) | with_reducible refine Below.drew ?_ | with_reducible refine Below_drewN ?_ _)) (hb.mono (by first | omega | ((try simp only [World.size_alloc, World.size_setCell, size_drew, size_drewN]); omega) | (simp; done) | (simp; omega)))
  obtain ⟨hc8, hf8⟩ := bcell hb
  have hs := hb.size
  clear hb
  (try simp only [World.size_alloc, World.size_setCell] at hc8 hf8 hs)
  have : w.heap.size < w8.heap.size := by omega
  have : w.heap.size + 1 < w8.heap.size := by omega
  have : w1.heap.size < w8.heap.size := by omega
  have : w2.heap.size < w8.heap.size := by omega
  have : (w8.cell? ⟨w1.heap.size, 0, none⟩).isSome = true := by (rw [hc8 _ _ (by omega)]; (try simp only [isSome_setCell]); first | assumption | go_simp)
  have : (w8.cell? ⟨w1.heap.size, 1, none⟩).isSome = true := by (rw [hc8 _ _ (by omega)]; (try simp only [isSome_setCell]); first | assumption | go_simp)
  have : (w8.cell? ⟨w2.heap.size, 0, none⟩).isSome = true := by (rw [hc8 _ _ (by omega)]; (try simp only [isSome_setCell]); first | assumption | go_simp)
  have : (w8.cell? ⟨w2.heap.size, 1, none⟩).isSome = true := by (rw [hc8 _ _ (by omega)]; (try simp only [isSome_setCell]); first | assumption | go_simp)
  go_wp2_with fail
  refine (same_refl _ _ _ _).mono ?_
  rintro e w9 ⟨rfl, hb⟩
  have hB : Below w.heap.size w w9 := Below.trans (by (repeat first | with_reducible exact Below.refl _ _ | with_reducible assumption | (with_reducible refine Below.setCell ?_ ?_ _; rotate_left; exact (by first | omega | (simp; done) | (simp; omega))) | (with_reducible refine Below.alloc ?_ ?_ _; rotate_left; exact (by first | omega | (simp; done) | (simp; omega))) | with_reducible refine Below.drew ?_ | with_reducible refine Below_drewN ?_ _)) (hb.mono (by first | omega | ((try simp only [World.size_alloc, World.size_setCell, size_drew, size_drewN]); omega) | (simp; done) | (simp; omega)))
  obtain ⟨hc9, hf9⟩ := bcell hb
  have hs := hb.size
  clear hb
  (try simp only [World.size_alloc, World.size_setCell] at hc9 hf9 hs)
  have : w.heap.size < w9.heap.size := by omega
  have : w.heap.size + 1 < w9.heap.size := by omega
  have : w1.heap.size < w9.heap.size := by omega
  have : w2.heap.size < w9.heap.size := by omega
  have : (w9.cell? ⟨w1.heap.size, 0, none⟩).isSome = true := by (rw [hc9 _ _ (by omega)]; (try simp only [isSome_setCell]); first | assumption | go_simp)
  have : (w9.cell? ⟨w1.heap.size, 1, none⟩).isSome = true := by (rw [hc9 _ _ (by omega)]; (try simp only [isSome_setCell]); first | assumption | go_simp)
  have : (w9.cell? ⟨w2.heap.size, 0, none⟩).isSome = true := by (rw [hc9 _ _ (by omega)]; (try simp only [isSome_setCell]); first | assumption | go_simp)
  have : (w9.cell? ⟨w2.heap.size, 1, none⟩).isSome = true := by (rw [hc9 _ _ (by omega)]; (try simp only [isSome_setCell]); first | assumption | go_simp)
  have z00 : w9.cell? ⟨w.heap.size, 0, none⟩ = some (.int .i64 a) := by go_simp
  have z01 : w9.cell? ⟨w.heap.size, 1, none⟩ = some (.int .i64 b) := by go_simp
  have z10 : w9.cell? ⟨w.heap.size + 1, 0, none⟩ = some (.int .i64 c) := by go_simp
  have z11 : w9.cell? ⟨w.heap.size + 1, 1, none⟩ = some (.int .i64 d) := by go_simp
  have y00 : w9.frozen? ⟨w1.heap.size, 0, none⟩ = false := by go_simp
  have y01 : w9.frozen? ⟨w1.heap.size, 1, none⟩ = false := by go_simp
  have y10 : w9.frozen? ⟨w2.heap.size, 0, none⟩ = false := by go_simp
  have y11 : w9.frozen? ⟨w2.heap.size, 1, none⟩ = false := by go_simp
  have x00 : w9.cell? ⟨w1.heap.size, 0, none⟩ = some (cur w9 ⟨w1.heap.size, 0, none⟩) := by rw [cur_iff]; assumption
  have x01 : w9.cell? ⟨w1.heap.size, 1, none⟩ = some (cur w9 ⟨w1.heap.size, 1, none⟩) := by rw [cur_iff]; assumption
  have x10 : w9.cell? ⟨w2.heap.size, 0, none⟩ = some (cur w9 ⟨w2.heap.size, 0, none⟩) := by rw [cur_iff]; assumption
  have x11 : w9.cell? ⟨w2.heap.size, 1, none⟩ = some (cur w9 ⟨w2.heap.size, 1, none⟩) := by rw [cur_iff]; assumption
  clear hc7 hf7 hc8 hf8 hc9 hf9
  go_wp2_with fail
  refine (F3.out _).mono ?_
  rintro e w10 ⟨rfl, hb⟩
  have hB : Below w.heap.size w w10 := Below.trans (by (repeat first | with_reducible exact Below.refl _ _ | with_reducible assumption | (with_reducible refine Below.setCell ?_ ?_ _; rotate_left; exact (by first | omega | (simp; done) | (simp; omega))) | (with_reducible refine Below.alloc ?_ ?_ _; rotate_left; exact (by first | omega | (simp; done) | (simp; omega))) | with_reducible refine Below.drew ?_ | with_reducible refine Below_drewN ?_ _)) (hb.mono (by first | omega | ((try simp only [World.size_alloc, World.size_setCell, size_drew, size_drewN]); omega) | (simp; done) | (simp; omega)))
  obtain ⟨hc10, hf10⟩ := bcell hb
  have hs := hb.size
  clear hb
  (try simp only [World.size_alloc, World.size_setCell] at hc10 hf10 hs)
  have : w.heap.size < w10.heap.size := by omega
  have : w.heap.size + 1 < w10.heap.size := by omega
  have : w1.heap.size < w10.heap.size := by omega
  have : w2.heap.size < w10.heap.size := by omega
  have : (w10.cell? ⟨w1.heap.size, 0, none⟩).isSome = true := by (rw [hc10 _ _ (by omega)]; (try simp only [isSome_setCell]); first | assumption | go_simp)
  have : (w10.cell? ⟨w1.heap.size, 1, none⟩).isSome = true := by (rw [hc10 _ _ (by omega)]; (try simp only [isSome_setCell]); first | assumption | go_simp)
  have : (w10.cell? ⟨w2.heap.size, 0, none⟩).isSome = true := by (rw [hc10 _ _ (by omega)]; (try simp only [isSome_setCell]); first | assumption | go_simp)
  have : (w10.cell? ⟨w2.heap.size, 1, none⟩).isSome = true := by (rw [hc10 _ _ (by omega)]; (try simp only [isSome_setCell]); first | assumption | go_simp)
  go_wp2_with fail
  refine (G3.out _).mono ?_
  rintro e w11 ⟨rfl, hb⟩
  have hB : Below w.heap.size w w11 := Below.trans (by (repeat first | with_reducible exact Below.refl _ _ | with_reducible assumption | (with_reducible refine Below.setCell ?_ ?_ _; rotate_left; exact (by first | omega | (simp; done) | (simp; omega))) | (with_reducible refine Below.alloc ?_ ?_ _; rotate_left; exact (by first | omega | (simp; done) | (simp; omega))) | with_reducible refine Below.drew ?_ | with_reducible refine Below_drewN ?_ _)) (hb.mono (by first | omega | ((try simp only [World.size_alloc, World.size_setCell, size_drew, size_drewN]); omega) | (simp; done) | (simp; omega)))
  obtain ⟨hc11, hf11⟩ := bcell hb
  have hs := hb.size
  clear hb
  (try simp only [World.size_alloc, World.size_setCell] at hc11 hf11 hs)
  have : w.heap.size < w11.heap.size := by omega
  have : w.heap.size + 1 < w11.heap.size := by omega
  have : w1.heap.size < w11.heap.size := by omega
  have : w2.heap.size < w11.heap.size := by omega
  have : (w11.cell? ⟨w1.heap.size, 0, none⟩).isSome = true := by (rw [hc11 _ _ (by omega)]; (try simp only [isSome_setCell]); first | assumption | go_simp)
  have : (w11.cell? ⟨w1.heap.size, 1, none⟩).isSome = true := by (rw [hc11 _ _ (by omega)]; (try simp only [isSome_setCell]); first | assumption | go_simp)
  have : (w11.cell? ⟨w2.heap.size, 0, none⟩).isSome = true := by (rw [hc11 _ _ (by omega)]; (try simp only [isSome_setCell]); first | assumption | go_simp)
  have : (w11.cell? ⟨w2.heap.size, 1, none⟩).isSome = true := by (rw [hc11 _ _ (by omega)]; (try simp only [isSome_setCell]); first | assumption | go_simp)
  go_wp2_with fail
  refine (same_refl _ _ _ _).mono ?_
  rintro e w12 ⟨rfl, hb⟩
  have hB : Below w.heap.size w w12 := Below.trans (by (repeat first | with_reducible exact Below.refl _ _ | with_reducible assumption | (with_reducible refine Below.setCell ?_ ?_ _; rotate_left; exact (by first | omega | (simp; done) | (simp; omega))) | (with_reducible refine Below.alloc ?_ ?_ _; rotate_left; exact (by first | omega | (simp; done) | (simp; omega))) | with_reducible refine Below.drew ?_ | with_reducible refine Below_drewN ?_ _)) (hb.mono (by first | omega | ((try simp only [World.size_alloc, World.size_setCell, size_drew, size_drewN]); omega) | (simp; done) | (simp; omega)))
  obtain ⟨hc12, hf12⟩ := bcell hb
  have hs := hb.size
  clear hb
  (try simp only [World.size_alloc, World.size_setCell] at hc12 hf12 hs)
  have : w.heap.size < w12.heap.size := by omega
  have : w.heap.size + 1 < w12.heap.size := by omega
  have : w1.heap.size < w12.heap.size := by omega
  have : w2.heap.size < w12.heap.size := by omega
  have : (w12.cell? ⟨w1.heap.size, 0, none⟩).isSome = true := by (rw [hc12 _ _ (by omega)]; (try simp only [isSome_setCell]); first | assumption | go_simp)
  have : (w12.cell? ⟨w1.heap.size, 1, none⟩).isSome = true := by (rw [hc12 _ _ (by omega)]; (try simp only [isSome_setCell]); first | assumption | go_simp)
  have : (w12.cell? ⟨w2.heap.size, 0, none⟩).isSome = true := by (rw [hc12 _ _ (by omega)]; (try simp only [isSome_setCell]); first | assumption | go_simp)
  have : (w12.cell? ⟨w2.heap.size, 1, none⟩).isSome = true := by (rw [hc12 _ _ (by omega)]; (try simp only [isSome_setCell]); first | assumption | go_simp)
  go_wp2
  go_ret
  exact ⟨rfl, by (repeat first | with_reducible exact Below.refl _ _ | with_reducible assumption | (with_reducible refine Below.setCell ?_ ?_ _; rotate_left; exact (by first | omega | (simp; done) | (simp; omega))) | (with_reducible refine Below.alloc ?_ ?_ _; rotate_left; exact (by first | omega | (simp; done) | (simp; omega))) | with_reducible refine Below.drew ?_ | with_reducible refine Below_drewN ?_ _)⟩

set_option maxHeartbeats 4000000 in
theorem walk (a b c d m n : Int) (wa : (Lit.int .i64 a).wf = true) (wb : (Lit.int .i64 b).wf = true) (wc : (Lit.int .i64 c).wf = true) (wd : (Lit.int .i64 d).wf = true) (wm : (Lit.int .i64 m).wf = true) (wn : (Lit.int .i64 n).wf = true) (w : World) :
    Calls Try.prog 3 #[Pv a b c d m n] w (Ret (.bool true) w) := by
  clear wa wb wc wd wm wn
  go_enter Try.func3, Try.ntmps3
  go_wp2_with (first | (go_at_call 4; refine (products_any _ _ _ _ _ _ _).mono ?_; rintro e w1 ⟨rfl, hb⟩; have hB : Below w.heap.size w w1 := Below.trans (by (repeat first | with_reducible exact Below.refl _ _ | with_reducible assumption | (with_reducible refine Below.setCell ?_ ?_ _; rotate_left; exact (by first | omega | (simp; done) | (simp; omega))) | (with_reducible refine Below.alloc ?_ ?_ _; rotate_left; exact (by first | omega | (simp; done) | (simp; omega))) | with_reducible refine Below.drew ?_ | with_reducible refine Below_drewN ?_ _)) (hb.mono (by first | omega | (simp; done) | (simp; omega))); obtain ⟨hc, hf⟩ := bcell hb; have hs := hb.size; clear hb; (try simp only [World.size_alloc, World.size_setCell] at hc hf); (try simp only [World.size_alloc, World.size_setCell] at hs); (try have hs' := Nat.lt_of_succ_le hs); (try have hs0 : w.heap.size < w1.heap.size := by omega); (try have hs1 : w.heap.size + 1 < w1.heap.size := by omega); (try have hs2 : w.heap.size + 1 + 1 < w1.heap.size := by omega); (try have hs3 : w.heap.size + 1 + 1 + 1 < w1.heap.size := by omega)) | (go_at_call 5; refine (awake_any _).mono ?_; rintro e w1 ⟨rfl, hb⟩; have hB : Below w.heap.size w w1 := Below.trans (by (repeat first | with_reducible exact Below.refl _ _ | with_reducible assumption | (with_reducible refine Below.setCell ?_ ?_ _; rotate_left; exact (by first | omega | (simp; done) | (simp; omega))) | (with_reducible refine Below.alloc ?_ ?_ _; rotate_left; exact (by first | omega | (simp; done) | (simp; omega))) | with_reducible refine Below.drew ?_ | with_reducible refine Below_drewN ?_ _)) (hb.mono (by first | omega | (simp; done) | (simp; omega))); obtain ⟨hc, hf⟩ := bcell hb; have hs := hb.size; clear hb; (try simp only [World.size_alloc, World.size_setCell] at hc hf); (try simp only [World.size_alloc, World.size_setCell] at hs); (try have hs' := Nat.lt_of_succ_le hs); (try have hs0 : w.heap.size < w1.heap.size := by omega); (try have hs1 : w.heap.size + 1 < w1.heap.size := by omega); (try have hs2 : w.heap.size + 1 + 1 < w1.heap.size := by omega); (try have hs3 : w.heap.size + 1 + 1 + 1 < w1.heap.size := by omega)))
  go_ret
  exact ⟨rfl, by (repeat first | with_reducible exact Below.refl _ _ | with_reducible assumption | (with_reducible refine Below.setCell ?_ ?_ _; rotate_left; exact (by first | omega | (simp; done) | (simp; omega))) | (with_reducible refine Below.alloc ?_ ?_ _; rotate_left; exact (by first | omega | (simp; done) | (simp; omega))) | with_reducible refine Below.drew ?_ | with_reducible refine Below_drewN ?_ _)⟩

set_option maxRecDepth 100000 in
theorem lifted (os : Os) (started : os.Started) (H : Type) (enc : TypeId × Value → H) :
    ReturnsInHanded {} Try.checked os 3 .any (Rows.spanProductsSpec.pre6 enc Try.prog Try.f3 Rows.spanProductsRow.domain false) (Rows.spanProductsSpec.post enc Try.prog Try.f3 false true false false) := by
  refine returnsInHanded_of_change (C := Try.checked) own started (by kernel_rfl) Try.func3
    (ChangeSpec.witness6 (enc := enc) (C := Try.checked) false ⟨#[], #[.agg #[.int .i64 0, .int .i64 0, .int .i64 0, .int .i64 0, .int .i64 0, .int .i64 0]], []⟩ 8 (by kernel_rfl) (by kernel_rfl) (by kernel_rfl) (by kernel_rfl)) ?_
  intro W base args ds gs before hval0 hW _ _
  have hval : ∀ (j : Nat) t v, Try.f3.params[j]? = some t → args[j]? = some v → Value.okWide Try.prog W .any base t v := hval0
  have hW' := hW
  obtain ⟨p, q, hA0, hV, rfl, _, _⟩ := hW
  have hA : DataW.TrodAll enc Try.prog W 0 (fun _ => true) true Try.f3.params.toList args.toList ds p := hA0
  rw [Try.params3] at hA hval
  obtain ⟨v0, d0, rfl, rfl, h0⟩ := trodAll_one hA
  obtain ⟨rfl, rfl⟩ := trodVars_none hV
  obtain ⟨a, b, c, d, m, n, rfl, rfl, rfl, wa, wb, wc, wd, wm, wn⟩ := open_pair (hval 0 25 v0 rfl rfl) h0
  clear hA0 hval0
  simp only [List.append_nil] at hW'
  refine (walk a b c d m n wa wb wc wd wm wn W).mono fun e W' ⟨he, hb⟩ => ?_
  subst he
  exact ⟨_, rfl, _, _, _, [], [], [], hW', trodAll_mk1 (shut_bool Try.underlying4 true), trodAll_mk1 (shut_pair wa wb wc wd wm wn), rfl, hb.frame _, fun h => by cases h⟩

theorem holds : Rows.SpanProductsSaid :=
  OpenClaim.holds_of_wide 3 Try.f3 rfl rfl rfl rfl rfl rfl rfl ⟨rfl, rfl, rfl, rfl, rfl⟩ rfl rfl rfl rfl rfl (by kernel_rfl) Try.func3 (by kernel_rfl)
    (of_decide_eq_true (by kernel_rfl)) (by unfold Func.isWrapper; rw [if_neg (of_decide_eq_false (by kernel_rfl))]; exact ⟨rfl, rfl⟩)
    (fun os started H enc _ => lifted os started H enc)

#print axioms holds
end Go.Proofs.Ytgfajfepmflfhaa.lawSpanProducts
