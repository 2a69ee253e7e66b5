import Derived.Test.YtapldonpflgnfaaGreatDoorLAA
import Derived.Test.YtapldonpflgnfaaGreatDoorLAB
import Derived.Test.YtapldonpflgnfaaGreatDoorLAK
import Derived.Test.YtapldonpflgnfaaGreatDoorLAU
import Derived.Test.YtapldonpflgnfaaGreatDoorLAY
import Derived.Test.YtapldonpflgnfaaGreatDoorLBD
import Derived.Deep.QuietTactic
import Derived.BigQuiet
import Derived.Deep.RegionHeld3
import Derived.Deep.DeepCutAuto
import Derived.IntWalk
namespace Go.Proofs.YtapldonpflgnfaaGreatDoor
set_option linter.unusedVariables false
set_option linter.unusedSimpArgs false
section
open Go.RowKit Go.Shelf
def possL (a b : Int) : Int × Int := (max a 0, min b 1000000)
def allowL (lo hi b n : Int) : Int × Int :=
 if 0 < n then possL (cei (lo - b) n) (flo (hi - b) n) else if n < 0 then possL (cei (hi - b) n) (flo (lo - b) n) else if cont lo hi b = true then possL 0 1000000 else possL 1 0
set_option maxRecDepth 100000 in
set_option maxHeartbeats 8000000 in
theorem possible_any (a b : Int) (w : World) :
  Calls Tryz.prog 67 #[.int .i64 a, .int .i64 b] w (Ret (Sp (possL a b).1 (possL a b).2) w) := by
 unfold possL
 go_enter Tryz.func67, Tryz.ntmps67
 go_wp2
 exact bodyPost_ret (resP Tryz.results67 _ _ _ _ _ rfl (by go_simp) (by go_simp)) rfl ⟨rfl, by (repeat first | with_reducible exact Below.refl _ _ | (with_reducible refine Below.alloc ?_ ?_ _; rotate_left; exact (by omega)))⟩
set_option maxRecDepth 100000 in
set_option maxHeartbeats 8000000 in
theorem allowed_any (lo hi b n : Int) (w : World) (l0 : -1000000000000000 ≤ lo) (l1 : lo ≤ 1000000000000000) (h0 : -1000000000000000 ≤ hi) (h1 : hi ≤ 1000000000000000) (b0 : -50000000000000000 ≤ b) (b1 : b ≤ 50000000000000000) (n0 : -250000 ≤ n) (n1 : n ≤ 250000) :
  Calls Tryz.prog 30 #[Sp lo hi, .int .i64 b, .int .i64 n] w (Ret (Sp (allowL lo hi b n).1 (allowL lo hi b n).2) w) := by
 have v1 : IntKind.i64.wrap (lo - b) = lo - b := IntWalk.i64_in _ (by omega)
 have v2 : IntKind.i64.wrap (hi - b) = hi - b := IntWalk.i64_in _ (by omega)
 unfold allowL
 by_cases c1 : 0 < n
 ·rw [if_pos c1]
  have HU := Lib.hid (fun W => up_any (lo - b) n W (by omega) (by omega) (by omega) (by omega) (by omega))
  have HD := Lib.hid (fun W => down_any (hi - b) n W (by omega) (by omega) (by omega) (by omega) (by omega))
  generalize cei (lo - b) n = U at *
  generalize flo (hi - b) n = V at *
  go_enter Tryz.func30, Tryz.ntmps30
  go_upto_region 1 with (fail)
  have Fr : Hid (RowL (w.heap.size) [.int .i64 lo, .int .i64 hi] ((w.alloc (.cells #[.int .i64 lo, .int .i64 hi] 41)).alloc (.cells #[.int .i64 0, .int .i64 0] 41))) := Lib.hid (by have h := RowL.new w #[.int .i64 lo, .int .i64 hi] 41; (try simp only [World.size_alloc] at h); exact (h.alloc _))
  have Ft : Hid (RowL (w.heap.size + 1) [.int .i64 0, .int .i64 0] ((w.alloc (.cells #[.int .i64 lo, .int .i64 hi] 41)).alloc (.cells #[.int .i64 0, .int .i64 0] 41))) := Lib.hid (by have h := RowL.new (w.alloc (.cells #[.int .i64 lo, .int .i64 hi] 41)) #[.int .i64 0, .int .i64 0] 41; (try simp only [World.size_alloc] at h); exact h)
  have hB0 : Below w.heap.size w ((w.alloc (.cells #[.int .i64 lo, .int .i64 hi] 41)).alloc (.cells #[.int .i64 0, .int .i64 0] 41)) := by (repeat first | with_reducible exact Below.refl _ _ | (with_reducible refine Below.alloc ?_ ?_ _; rotate_left; exact (by first | omega | (simp; done))))
  have sW0 : w.heap.size + 1 < ((w.alloc (.cells #[.int .i64 lo, .int .i64 hi] 41)).alloc (.cells #[.int .i64 0, .int .i64 0] 41)).heap.size := by simp only [World.size_alloc]; omega
  obtain ⟨W0, hW0⟩ : ∃ W, ((w.alloc (.cells #[.int .i64 lo, .int .i64 hi] 41)).alloc (.cells #[.int .i64 0, .int .i64 0] 41)) = W := ⟨_, rfl⟩
  rw [hW0] at Fr Ft hB0 sW0 ⊢
  clear hW0
  have r0 := Fr.out.cell 0 (.int .i64 lo) rfl
  have r1 := Fr.out.cell 1 (.int .i64 hi) rfl
  have t0 := Ft.out.cell 0 (.int .i64 0) rfl
  have tf0 := Ft.out.mark 0 (by simp)
  have t1 := Ft.out.cell 1 (.int .i64 0) rfl
  have tf1 := Ft.out.mark 1 (by simp)
  go_quiet (fail)
  go_wp2_with (first | ((with_reducible refine (HU.out _).mono ?_); rintro e w7 ⟨rfl, rfl⟩) | ((with_reducible refine (HD.out _).mono ?_); rintro e w7 ⟨rfl, rfl⟩))
  refine (possible_any _ _ _).mono ?_
  rintro e w8 ⟨rfl, hb8⟩
  have hcw8 : Below W0.heap.size W0 w8 := Below.trans (by (repeat first | with_reducible exact Below.refl _ _ | with_reducible refine Below_drewN ?_ _)) hb8
  clear hb8
  clear r0 r1 t0 tf0 t1 tf1
  have Gr := Lib.hid (Fr.out.below hcw8)
  clear Fr
  have Fr := Lib.hid Gr.out
  clear Gr
  have Gt := Lib.hid (Ft.out.below hcw8)
  clear Ft
  have Ft := Lib.hid Gt.out
  clear Gt
  have r0 := Fr.out.cell 0 (.int .i64 lo) rfl
  have r1 := Fr.out.cell 1 (.int .i64 hi) rfl
  have t0 := Ft.out.cell 0 (.int .i64 0) rfl
  have tf0 := Ft.out.mark 0 (by simp)
  have t1 := Ft.out.cell 1 (.int .i64 0) rfl
  have tf1 := Ft.out.mark 1 (by simp)
  have hBw8 := hB0.trans (hcw8.mono hB0.size)
  have hzw8 : w.heap.size + 1 < w8.heap.size := Nat.lt_of_lt_of_le (by assumption) hcw8.size
  clear hcw8
  go_wp2_with fail
  exact bodyPost_ret (resS Tryz.results30 _ _ _ _ _ rfl (by (try simp only [isSome_setCell]); first | assumption | go_simp) (by (try simp only [isSome_setCell]); first | assumption | go_simp)) rfl ⟨rfl, by (repeat first | with_reducible assumption | (with_reducible refine Below.setCell ?_ ?_ _; rotate_left; exact (by (simp; done))))⟩
 rw [if_neg c1]
 by_cases c2 : n < 0
 ·rw [if_pos c2]
  have HU := Lib.hid (fun W => up_any (hi - b) n W (by omega) (by omega) (by omega) (by omega) (by omega))
  have HD := Lib.hid (fun W => down_any (lo - b) n W (by omega) (by omega) (by omega) (by omega) (by omega))
  generalize cei (hi - b) n = U at *
  generalize flo (lo - b) n = V at *
  go_enter Tryz.func30, Tryz.ntmps30
  go_upto_region 1 with (fail)
  have Fr : Hid (RowL (w.heap.size) [.int .i64 lo, .int .i64 hi] ((w.alloc (.cells #[.int .i64 lo, .int .i64 hi] 41)).alloc (.cells #[.int .i64 0, .int .i64 0] 41))) := Lib.hid (by have h := RowL.new w #[.int .i64 lo, .int .i64 hi] 41; (try simp only [World.size_alloc] at h); exact (h.alloc _))
  have Ft : Hid (RowL (w.heap.size + 1) [.int .i64 0, .int .i64 0] ((w.alloc (.cells #[.int .i64 lo, .int .i64 hi] 41)).alloc (.cells #[.int .i64 0, .int .i64 0] 41))) := Lib.hid (by have h := RowL.new (w.alloc (.cells #[.int .i64 lo, .int .i64 hi] 41)) #[.int .i64 0, .int .i64 0] 41; (try simp only [World.size_alloc] at h); exact h)
  have hB0 : Below w.heap.size w ((w.alloc (.cells #[.int .i64 lo, .int .i64 hi] 41)).alloc (.cells #[.int .i64 0, .int .i64 0] 41)) := by (repeat first | with_reducible exact Below.refl _ _ | (with_reducible refine Below.alloc ?_ ?_ _; rotate_left; exact (by first | omega | (simp; done))))
  have sW0 : w.heap.size + 1 < ((w.alloc (.cells #[.int .i64 lo, .int .i64 hi] 41)).alloc (.cells #[.int .i64 0, .int .i64 0] 41)).heap.size := by simp only [World.size_alloc]; omega
  obtain ⟨W0, hW0⟩ : ∃ W, ((w.alloc (.cells #[.int .i64 lo, .int .i64 hi] 41)).alloc (.cells #[.int .i64 0, .int .i64 0] 41)) = W := ⟨_, rfl⟩
  rw [hW0] at Fr Ft hB0 sW0 ⊢
  clear hW0
  have r0 := Fr.out.cell 0 (.int .i64 lo) rfl
  have r1 := Fr.out.cell 1 (.int .i64 hi) rfl
  have t0 := Ft.out.cell 0 (.int .i64 0) rfl
  have tf0 := Ft.out.mark 0 (by simp)
  have t1 := Ft.out.cell 1 (.int .i64 0) rfl
  have tf1 := Ft.out.mark 1 (by simp)
  go_quiet (fail)
  go_wp2_with (first | ((with_reducible refine (HU.out _).mono ?_); rintro e w7 ⟨rfl, rfl⟩) | ((with_reducible refine (HD.out _).mono ?_); rintro e w7 ⟨rfl, rfl⟩))
  refine (possible_any _ _ _).mono ?_
  rintro e w8 ⟨rfl, hb8⟩
  have hcw8 : Below W0.heap.size W0 w8 := Below.trans (by (repeat first | with_reducible exact Below.refl _ _ | with_reducible refine Below_drewN ?_ _)) hb8
  clear hb8
  clear r0 r1 t0 tf0 t1 tf1
  have Gr := Lib.hid (Fr.out.below hcw8)
  clear Fr
  have Fr := Lib.hid Gr.out
  clear Gr
  have Gt := Lib.hid (Ft.out.below hcw8)
  clear Ft
  have Ft := Lib.hid Gt.out
  clear Gt
  have r0 := Fr.out.cell 0 (.int .i64 lo) rfl
  have r1 := Fr.out.cell 1 (.int .i64 hi) rfl
  have t0 := Ft.out.cell 0 (.int .i64 0) rfl
  have tf0 := Ft.out.mark 0 (by simp)
  have t1 := Ft.out.cell 1 (.int .i64 0) rfl
  have tf1 := Ft.out.mark 1 (by simp)
  have hBw8 := hB0.trans (hcw8.mono hB0.size)
  have hzw8 : w.heap.size + 1 < w8.heap.size := Nat.lt_of_lt_of_le (by assumption) hcw8.size
  clear hcw8
  go_wp2_with fail
  exact bodyPost_ret (resS Tryz.results30 _ _ _ _ _ rfl (by (try simp only [isSome_setCell]); first | assumption | go_simp) (by (try simp only [isSome_setCell]); first | assumption | go_simp)) rfl ⟨rfl, by (repeat first | with_reducible assumption | (with_reducible refine Below.setCell ?_ ?_ _; rotate_left; exact (by (simp; done))))⟩
 rw [if_neg c2]
 have HC := Lib.hid (fun W => contains_any lo hi b W)
 have c3 : n = 0 := by omega
 subst c3
 clear c1 c2 n0 n1
 cases cc : cont lo hi b
 ·rw [if_neg (by decide)]
  rw [cc] at HC
  clear cc
  go_enter Tryz.func30, Tryz.ntmps30
  go_upto_region 1 with (fail)
  have Fr : Hid (RowL (w.heap.size) [.int .i64 lo, .int .i64 hi] ((w.alloc (.cells #[.int .i64 lo, .int .i64 hi] 41)).alloc (.cells #[.int .i64 0, .int .i64 0] 41))) := Lib.hid (by have h := RowL.new w #[.int .i64 lo, .int .i64 hi] 41; (try simp only [World.size_alloc] at h); exact (h.alloc _))
  have Ft : Hid (RowL (w.heap.size + 1) [.int .i64 0, .int .i64 0] ((w.alloc (.cells #[.int .i64 lo, .int .i64 hi] 41)).alloc (.cells #[.int .i64 0, .int .i64 0] 41))) := Lib.hid (by have h := RowL.new (w.alloc (.cells #[.int .i64 lo, .int .i64 hi] 41)) #[.int .i64 0, .int .i64 0] 41; (try simp only [World.size_alloc] at h); exact h)
  have hB0 : Below w.heap.size w ((w.alloc (.cells #[.int .i64 lo, .int .i64 hi] 41)).alloc (.cells #[.int .i64 0, .int .i64 0] 41)) := by (repeat first | with_reducible exact Below.refl _ _ | (with_reducible refine Below.alloc ?_ ?_ _; rotate_left; exact (by first | omega | (simp; done))))
  have sW0 : w.heap.size + 1 < ((w.alloc (.cells #[.int .i64 lo, .int .i64 hi] 41)).alloc (.cells #[.int .i64 0, .int .i64 0] 41)).heap.size := by simp only [World.size_alloc]; omega
  obtain ⟨W0, hW0⟩ : ∃ W, ((w.alloc (.cells #[.int .i64 lo, .int .i64 hi] 41)).alloc (.cells #[.int .i64 0, .int .i64 0] 41)) = W := ⟨_, rfl⟩
  rw [hW0] at Fr Ft hB0 sW0 ⊢
  clear hW0
  have r0 := Fr.out.cell 0 (.int .i64 lo) rfl
  have r1 := Fr.out.cell 1 (.int .i64 hi) rfl
  have t0 := Ft.out.cell 0 (.int .i64 0) rfl
  have tf0 := Ft.out.mark 0 (by simp)
  have t1 := Ft.out.cell 1 (.int .i64 0) rfl
  have tf1 := Ft.out.mark 1 (by simp)
  go_quiet (fail)
  go_wp2_with fail
  refine (HC.out _).mono ?_
  rintro e w7 ⟨rfl, hb7⟩
  have hcw7 : Below W0.heap.size W0 w7 := Below.trans (by (repeat first | with_reducible exact Below.refl _ _ | with_reducible refine Below_drewN ?_ _)) hb7
  clear hb7
  clear r0 r1 t0 tf0 t1 tf1
  have Gr := Lib.hid (Fr.out.below hcw7)
  clear Fr
  have Fr := Lib.hid Gr.out
  clear Gr
  have Gt := Lib.hid (Ft.out.below hcw7)
  clear Ft
  have Ft := Lib.hid Gt.out
  clear Gt
  have r0 := Fr.out.cell 0 (.int .i64 lo) rfl
  have r1 := Fr.out.cell 1 (.int .i64 hi) rfl
  have t0 := Ft.out.cell 0 (.int .i64 0) rfl
  have tf0 := Ft.out.mark 0 (by simp)
  have t1 := Ft.out.cell 1 (.int .i64 0) rfl
  have tf1 := Ft.out.mark 1 (by simp)
  have hBw7 := hB0.trans (hcw7.mono hB0.size)
  have hzw7 : w.heap.size + 1 < w7.heap.size := Nat.lt_of_lt_of_le (by assumption) hcw7.size
  clear hcw7
  go_wp2_with fail
  refine (possible_any _ _ _).mono ?_
  rintro e w8 ⟨rfl, hb8⟩
  have hcw8 : Below w7.heap.size w7 w8 := Below.trans (by (repeat with_reducible exact Below.refl _ _)) hb8
  clear hb8
  clear r0 r1 t0 tf0 t1 tf1
  have Gr := Lib.hid (Fr.out.below hcw8)
  clear Fr
  have Fr := Lib.hid Gr.out
  clear Gr
  have Gt := Lib.hid (Ft.out.below hcw8)
  clear Ft
  have Ft := Lib.hid Gt.out
  clear Gt
  have r0 := Fr.out.cell 0 (.int .i64 lo) rfl
  have r1 := Fr.out.cell 1 (.int .i64 hi) rfl
  have t0 := Ft.out.cell 0 (.int .i64 0) rfl
  have tf0 := Ft.out.mark 0 (by simp)
  have t1 := Ft.out.cell 1 (.int .i64 0) rfl
  have tf1 := Ft.out.mark 1 (by simp)
  have hBw8 := hBw7.trans (hcw8.mono hBw7.size)
  have hzw8 : w.heap.size + 1 < w8.heap.size := Nat.lt_of_lt_of_le (by assumption) hcw8.size
  clear hcw8
  go_wp2_with fail
  exact bodyPost_ret (resS Tryz.results30 _ _ _ _ _ rfl (by (try simp only [isSome_setCell]); first | assumption | go_simp) (by (try simp only [isSome_setCell]); first | assumption | go_simp)) rfl ⟨rfl, by (repeat first | with_reducible assumption | (with_reducible refine Below.setCell ?_ ?_ _; rotate_left; exact (by (simp; done))))⟩
 ·rw [if_pos rfl]
  rw [cc] at HC
  clear cc
  go_enter Tryz.func30, Tryz.ntmps30
  go_upto_region 1 with (fail)
  have Fr : Hid (RowL (w.heap.size) [.int .i64 lo, .int .i64 hi] ((w.alloc (.cells #[.int .i64 lo, .int .i64 hi] 41)).alloc (.cells #[.int .i64 0, .int .i64 0] 41))) := Lib.hid (by have h := RowL.new w #[.int .i64 lo, .int .i64 hi] 41; (try simp only [World.size_alloc] at h); exact (h.alloc _))
  have Ft : Hid (RowL (w.heap.size + 1) [.int .i64 0, .int .i64 0] ((w.alloc (.cells #[.int .i64 lo, .int .i64 hi] 41)).alloc (.cells #[.int .i64 0, .int .i64 0] 41))) := Lib.hid (by have h := RowL.new (w.alloc (.cells #[.int .i64 lo, .int .i64 hi] 41)) #[.int .i64 0, .int .i64 0] 41; (try simp only [World.size_alloc] at h); exact h)
  have hB0 : Below w.heap.size w ((w.alloc (.cells #[.int .i64 lo, .int .i64 hi] 41)).alloc (.cells #[.int .i64 0, .int .i64 0] 41)) := by (repeat first | with_reducible exact Below.refl _ _ | (with_reducible refine Below.alloc ?_ ?_ _; rotate_left; exact (by first | omega | (simp; done))))
  have sW0 : w.heap.size + 1 < ((w.alloc (.cells #[.int .i64 lo, .int .i64 hi] 41)).alloc (.cells #[.int .i64 0, .int .i64 0] 41)).heap.size := by simp only [World.size_alloc]; omega
  obtain ⟨W0, hW0⟩ : ∃ W, ((w.alloc (.cells #[.int .i64 lo, .int .i64 hi] 41)).alloc (.cells #[.int .i64 0, .int .i64 0] 41)) = W := ⟨_, rfl⟩
  rw [hW0] at Fr Ft hB0 sW0 ⊢
  clear hW0
  have r0 := Fr.out.cell 0 (.int .i64 lo) rfl
  have r1 := Fr.out.cell 1 (.int .i64 hi) rfl
  have t0 := Ft.out.cell 0 (.int .i64 0) rfl
  have tf0 := Ft.out.mark 0 (by simp)
  have t1 := Ft.out.cell 1 (.int .i64 0) rfl
  have tf1 := Ft.out.mark 1 (by simp)
  go_quiet (fail)
  go_wp2_with fail
  refine (HC.out _).mono ?_
  rintro e w7 ⟨rfl, hb7⟩
  have hcw7 : Below W0.heap.size W0 w7 := Below.trans (by (repeat first | with_reducible exact Below.refl _ _ | with_reducible refine Below_drewN ?_ _)) hb7
  clear hb7
  clear r0 r1 t0 tf0 t1 tf1
  have Gr := Lib.hid (Fr.out.below hcw7)
  clear Fr
  have Fr := Lib.hid Gr.out
  clear Gr
  have Gt := Lib.hid (Ft.out.below hcw7)
  clear Ft
  have Ft := Lib.hid Gt.out
  clear Gt
  have r0 := Fr.out.cell 0 (.int .i64 lo) rfl
  have r1 := Fr.out.cell 1 (.int .i64 hi) rfl
  have t0 := Ft.out.cell 0 (.int .i64 0) rfl
  have tf0 := Ft.out.mark 0 (by simp)
  have t1 := Ft.out.cell 1 (.int .i64 0) rfl
  have tf1 := Ft.out.mark 1 (by simp)
  have hBw7 := hB0.trans (hcw7.mono hB0.size)
  have hzw7 : w.heap.size + 1 < w7.heap.size := Nat.lt_of_lt_of_le (by assumption) hcw7.size
  clear hcw7
  go_wp2_with fail
  refine (possible_any _ _ _).mono ?_
  rintro e w8 ⟨rfl, hb8⟩
  have hcw8 : Below w7.heap.size w7 w8 := Below.trans (by (repeat with_reducible exact Below.refl _ _)) hb8
  clear hb8
  clear r0 r1 t0 tf0 t1 tf1
  have Gr := Lib.hid (Fr.out.below hcw8)
  clear Fr
  have Fr := Lib.hid Gr.out
  clear Gr
  have Gt := Lib.hid (Ft.out.below hcw8)
  clear Ft
  have Ft := Lib.hid Gt.out
  clear Gt
  have r0 := Fr.out.cell 0 (.int .i64 lo) rfl
  have r1 := Fr.out.cell 1 (.int .i64 hi) rfl
  have t0 := Ft.out.cell 0 (.int .i64 0) rfl
  have tf0 := Ft.out.mark 0 (by simp)
  have t1 := Ft.out.cell 1 (.int .i64 0) rfl
  have tf1 := Ft.out.mark 1 (by simp)
  have hBw8 := hBw7.trans (hcw8.mono hBw7.size)
  have hzw8 : w.heap.size + 1 < w8.heap.size := Nat.lt_of_lt_of_le (by assumption) hcw8.size
  clear hcw8
  go_wp2_with fail
  exact bodyPost_ret (resS Tryz.results30 _ _ _ _ _ rfl (by (try simp only [isSome_setCell]); first | assumption | go_simp) (by (try simp only [isSome_setCell]); first | assumption | go_simp)) rfl ⟨rfl, by (repeat first | with_reducible assumption | (with_reducible refine Below.setCell ?_ ?_ _; rotate_left; exact (by (simp; done))))⟩
end
section
open Go.RowKit
set_option maxHeartbeats 2000000 in
theorem indexFault1 (k : Nat) (c0 : Nat) (p : FaultD → Bool) (A : Option Addr) (len cap : Nat) (zs : List FaultD) (w : World) (hI : IsT 4 FaultD.cells w A len zs) (hl : len ≤ 1000000000000000)
  (hE : ∀ (args : Array Value) (W : World), (callFunc k args).run Tryz.prog W = .ok (.enter k args) W)
  (hk : ∀ (x : FaultD) (W : World), x ∈ zs → Below w.heap.size w W → Calls Tryz.prog k #[FaultD.v x, .pointer (some ⟨c0, 0, none⟩)] W (Ret (.bool (p x)) W)) :
  Calls Tryz.prog 141 #[.slice A len cap, .func (.func k) #[] #[.pointer (some ⟨c0, 0, none⟩)]] w (Ret (.int .i64 (idxL p zs)) w) := by
 have HI := Lib.hid hI
 have HK := Lib.hid hk
 have HG : Hid (idxL p zs = idxGo p zs 0) := Lib.hid rfl
 generalize idxL p zs = G at *
 clear hI hk
 go_enter Tryz.func141, Tryz.ntmps141
 go_wp2_with fail
 go_loopw [5, 8] (fun _ i wr => ∃ j : Nat, j ≤ len ∧ i = .int .i64 j ∧ Hid (idxGo p (zs.drop j) j = G) ∧ Below w.heap.size w wr) (fun _ i _ => len - (intOf i).toNat)
 case atStart => exact ⟨0, Nat.zero_le _, rfl, Lib.hid HG.out.symm, Below.refl _ _⟩
 case round =>
  obtain ⟨j, hj, rfl, hG, hB⟩ := hrel
  by_cases hlt : j < len
  ·obtain ⟨hzl, hcl⟩ := HI.out.below hB
   obtain ⟨b, o, rfl, hb0, hcl⟩ := hcl (by omega)
   obtain ⟨x, hx⟩ : ∃ x, zs[j]? = some x := ⟨_, List.getElem?_eq_getElem (by omega)⟩
   have HM := Lib.hid (List.mem_of_getElem? hx)
   have HS := Lib.hid (idxGo_drop p hx (j : Int))
   have x0 : wr.cell? ⟨b, o + j * 4, none⟩ = some (.int .i64 x.at_) := by have h := hcl j x hx 0 _ rfl; simpa using h
   have x1 : wr.cell? ⟨b, o + j * 4 + 1, none⟩ = some (.int .i64 x.sensor) := by have h := hcl j x hx 1 _ rfl; simpa using h
   have x2 : wr.cell? ⟨b, o + j * 4 + 2, none⟩ = some (.int .i64 x.kind) := by have h := hcl j x hx 2 _ rfl; simpa using h
   have x3 : wr.cell? ⟨b, o + j * 4 + 3, none⟩ = some (.int .i64 x.n) := by have h := hcl j x hx 3 _ rfl; simpa using h
   have hsz := hB.size
   have HC := Lib.hid (HK.out x)
   clear hcl hx hzl
   cases hp : p x
   ·have HN : Hid (idxGo p (zs.drop (j + 1)) ((j + 1 : Nat) : Int) = G) := Lib.hid (by rw [← hG.out, HS.out, hp]; rfl)
    have HC := Lib.hid (show ∀ W, Below w.heap.size w W → Calls Tryz.prog k #[FaultD.v x, .pointer (some ⟨c0, 0, none⟩)] W (Ret (.bool false) W) from fun W h => by have := HC.out W HM.out h; rwa [hp] at this)
    clear hp
    go_wp2_with ((with_reducible show Calls _ k _ _ _); refine (HC.out _ (by (repeat with_reducible assumption))).mono ?_; rintro e w1 ⟨rfl, hb⟩; have hB1 : Below w.heap.size w w1 := Below.trans (by (repeat with_reducible assumption)) (hb.mono (by omega)))
    go_roundw
    case rel => exact ⟨j + 1, by omega, by go_num, HN, by (repeat with_reducible assumption)⟩
    case measure => simp [intOf]; omega
   ·have HN : Hid ((j : Int) = G) := Lib.hid (by rw [← hG.out, HS.out, hp]; rfl)
    have HC := Lib.hid (show ∀ W, Below w.heap.size w W → Calls Tryz.prog k #[FaultD.v x, .pointer (some ⟨c0, 0, none⟩)] W (Ret (.bool true) W) from fun W h => by have := HC.out W HM.out h; rwa [hp] at this)
    clear hp
    go_wp2_with ((with_reducible show Calls _ k _ _ _); refine (HC.out _ (by (repeat with_reducible assumption))).mono ?_; rintro e w1 ⟨rfl, hb⟩; have hB1 : Below w.heap.size w w1 := Below.trans (by (repeat with_reducible assumption)) (hb.mono (by omega)))
    go_ret
    exact ⟨by rw [← HN.out]; rfl, by (repeat with_reducible assumption)⟩
  ·have HN : Hid ((-1 : Int) = G) := Lib.hid (by rw [← hG.out, List.drop_of_length_le (by rw [HI.out.1]; omega)]; rfl)
   go_wp2
   go_ret
   exact ⟨by rw [← HN.out]; rfl, hB⟩
set_option maxHeartbeats 1000000 in
theorem containsFault1 (k : Nat) (c0 : Nat) (p : FaultD → Bool) (A : Option Addr) (len cap : Nat) (zs : List FaultD) (w : World) (hI : IsT 4 FaultD.cells w A len zs) (hl : len ≤ 1000000000000000)
  (hE : ∀ (args : Array Value) (W : World), (callFunc k args).run Tryz.prog W = .ok (.enter k args) W)
  (hk : ∀ (x : FaultD) (W : World), x ∈ zs → Below w.heap.size w W → Calls Tryz.prog k #[FaultD.v x, .pointer (some ⟨c0, 0, none⟩)] W (Ret (.bool (p x)) W)) :
  Calls Tryz.prog 98 #[.slice A len cap, .func (.func k) #[] #[.pointer (some ⟨c0, 0, none⟩)]] w (Ret (.bool (zs.any p)) w) := by
 have HI := Lib.hid (indexFault1 k c0 p A len cap zs w hI hl hE hk)
 have HA := Lib.hid (idxL_nonneg p zs)
 obtain ⟨b1, b2⟩ := idxL_bd p zs
 rw [hI.1] at b2
 clear hI hE hk
 generalize idxL p zs = G at *
 go_enter Tryz.func98, Tryz.ntmps98
 go_wp2_with (go_at_call 141; refine HI.out.mono ?_; rintro e w1 ⟨rfl, hb⟩)
 go_ret
 exact ⟨by rw [← HA.out]; rfl, hb⟩
end
section
open Go.RowKit
set_option maxHeartbeats 2000000 in
theorem indexSpan0 (k : Nat) (p : SpanD → Bool) (A : Option Addr) (len cap : Nat) (zs : List SpanD) (w : World) (hI : IsT 2 SpanD.cells w A len zs) (hl : len ≤ 1000000000000000)
  (hE : ∀ (args : Array Value) (W : World), (callFunc k args).run Tryz.prog W = .ok (.enter k args) W)
  (hk : ∀ (x : SpanD) (W : World), x ∈ zs → Below w.heap.size w W → Calls Tryz.prog k #[SpanD.v x] W (Ret (.bool (p x)) W)) :
  Calls Tryz.prog 147 #[.slice A len cap, .func (.func k) #[] #[]] w (Ret (.int .i64 (idxL p zs)) w) := by
 have HI := Lib.hid hI
 have HK := Lib.hid hk
 have HG : Hid (idxL p zs = idxGo p zs 0) := Lib.hid rfl
 generalize idxL p zs = G at *
 clear hI hk
 go_enter Tryz.func147, Tryz.ntmps147
 go_wp2_with fail
 go_loopw [5, 8] (fun _ i wr => ∃ j : Nat, j ≤ len ∧ i = .int .i64 j ∧ Hid (idxGo p (zs.drop j) j = G) ∧ Below w.heap.size w wr) (fun _ i _ => len - (intOf i).toNat)
 case atStart => exact ⟨0, Nat.zero_le _, rfl, Lib.hid HG.out.symm, Below.refl _ _⟩
 case round =>
  obtain ⟨j, hj, rfl, hG, hB⟩ := hrel
  by_cases hlt : j < len
  ·obtain ⟨hzl, hcl⟩ := HI.out.below hB
   obtain ⟨b, o, rfl, hb0, hcl⟩ := hcl (by omega)
   obtain ⟨x, hx⟩ : ∃ x, zs[j]? = some x := ⟨_, List.getElem?_eq_getElem (by omega)⟩
   have HM := Lib.hid (List.mem_of_getElem? hx)
   have HS := Lib.hid (idxGo_drop p hx (j : Int))
   have x0 : wr.cell? ⟨b, o + j * 2, none⟩ = some (.int .i64 x.lo) := by have h := hcl j x hx 0 _ rfl; simpa using h
   have x1 : wr.cell? ⟨b, o + j * 2 + 1, none⟩ = some (.int .i64 x.hi) := by have h := hcl j x hx 1 _ rfl; simpa using h
   have hsz := hB.size
   have HC := Lib.hid (HK.out x)
   clear hcl hx hzl
   cases hp : p x
   ·have HN : Hid (idxGo p (zs.drop (j + 1)) ((j + 1 : Nat) : Int) = G) := Lib.hid (by rw [← hG.out, HS.out, hp]; rfl)
    have HC := Lib.hid (show ∀ W, Below w.heap.size w W → Calls Tryz.prog k #[SpanD.v x] W (Ret (.bool false) W) from fun W h => by have := HC.out W HM.out h; rwa [hp] at this)
    clear hp
    go_wp2_with ((with_reducible show Calls _ k _ _ _); refine (HC.out _ (by (repeat with_reducible assumption))).mono ?_; rintro e w1 ⟨rfl, hb⟩; have hB1 : Below w.heap.size w w1 := Below.trans (by (repeat with_reducible assumption)) (hb.mono (by omega)))
    go_roundw
    case rel => exact ⟨j + 1, by omega, by go_num, HN, by (repeat with_reducible assumption)⟩
    case measure => simp [intOf]; omega
   ·have HN : Hid ((j : Int) = G) := Lib.hid (by rw [← hG.out, HS.out, hp]; rfl)
    have HC := Lib.hid (show ∀ W, Below w.heap.size w W → Calls Tryz.prog k #[SpanD.v x] W (Ret (.bool true) W) from fun W h => by have := HC.out W HM.out h; rwa [hp] at this)
    clear hp
    go_wp2_with ((with_reducible show Calls _ k _ _ _); refine (HC.out _ (by (repeat with_reducible assumption))).mono ?_; rintro e w1 ⟨rfl, hb⟩; have hB1 : Below w.heap.size w w1 := Below.trans (by (repeat with_reducible assumption)) (hb.mono (by omega)))
    go_ret
    exact ⟨by rw [← HN.out]; rfl, by (repeat with_reducible assumption)⟩
  ·have HN : Hid ((-1 : Int) = G) := Lib.hid (by rw [← hG.out, List.drop_of_length_le (by rw [HI.out.1]; omega)]; rfl)
   go_wp2
   go_ret
   exact ⟨by rw [← HN.out]; rfl, hB⟩
set_option maxHeartbeats 1000000 in
theorem containsSpan0 (k : Nat) (p : SpanD → Bool) (A : Option Addr) (len cap : Nat) (zs : List SpanD) (w : World) (hI : IsT 2 SpanD.cells w A len zs) (hl : len ≤ 1000000000000000)
  (hE : ∀ (args : Array Value) (W : World), (callFunc k args).run Tryz.prog W = .ok (.enter k args) W)
  (hk : ∀ (x : SpanD) (W : World), x ∈ zs → Below w.heap.size w W → Calls Tryz.prog k #[SpanD.v x] W (Ret (.bool (p x)) W)) :
  Calls Tryz.prog 106 #[.slice A len cap, .func (.func k) #[] #[]] w (Ret (.bool (zs.any p)) w) := by
 have HI := Lib.hid (indexSpan0 k  p A len cap zs w hI hl hE hk)
 have HA := Lib.hid (idxL_nonneg p zs)
 obtain ⟨b1, b2⟩ := idxL_bd p zs
 rw [hI.1] at b2
 clear hI hE hk
 generalize idxL p zs = G at *
 go_enter Tryz.func106, Tryz.ntmps106
 go_wp2_with (go_at_call 147; refine HI.out.mono ?_; rintro e w1 ⟨rfl, hb⟩)
 go_ret
 exact ⟨by rw [← HA.out]; rfl, hb⟩
end
section
open Go.RowKit Go.Shelf
def mostK (k : Int) : Int := if k = 1 then 1000000000000000 else if k = 2 then 100000 else 0
def readsB (M : MachD) (l : List SpanD) : Bool := decide (checkC M = 0) && (decide (l.length = M.sensors.length) && l.all fun s => vld s.lo s.hi)
structure Kinds (w : World) : Prop where
 most : ∀ k : Nat, k < 4 → ∃ s : ByteArray, w.cell? ⟨0, k * 2, none⟩ = some (.string s) ∧ (1 ≤ k → w.cell? ⟨0, k * 2 + 1, none⟩ = some (.int .i64 (mostK k)))
 size : 0 < w.heap.size
theorem Kinds.below {w w1 : World} (h : Kinds w) (hb : Below w.heap.size w w1) : Kinds w1 :=
 ⟨fun k hk => by
  obtain ⟨s, h1, h2⟩ := h.most k hk
  exact ⟨s, (hb.cell (p := ⟨0, k * 2, none⟩) h.size).trans h1, fun h1 => (hb.cell (p := ⟨0, k * 2 + 1, none⟩) h.size).trans (h2 h1)⟩, Nat.lt_of_lt_of_le h.size hb.size⟩
set_option maxHeartbeats 400000 in
theorem rwithin4b_any (n a b : Int) (w : World) :
  Calls Tryz.prog 33 #[.int .i64 n, .int .i64 a, .int .i64 b] w fun e w' => e = .returned (.bool (wthn n a b)) ∧ w = w' := by
 go_enter Tryz.func33, Tryz.ntmps33
 go_wp2
 all_goals go_ret
 all_goals (simp [wthn]; try omega)
def BoxM (w : World) (c0 : Nat) (A B C D : Option Addr) (name : ByteArray) (la ca lb cb lc cc ld cd : Nat) (r z nr nz step : Int) : Prop :=
 w.cell? ⟨c0, 0, none⟩ = some (.string name) ∧ w.cell? ⟨c0, 1, none⟩ = some (.slice A la ca) ∧ w.cell? ⟨c0, 2, none⟩ = some (.slice B lb cb) ∧ w.cell? ⟨c0, 3, none⟩ = some (.slice C lc cc) ∧ w.cell? ⟨c0, 4, none⟩ = some (.int .i64 r) ∧ w.cell? ⟨c0, 5, none⟩ = some (.int .i64 z) ∧ w.cell? ⟨c0, 6, none⟩ = some (.int .i64 nr) ∧ w.cell? ⟨c0, 7, none⟩ = some (.int .i64 nz) ∧ w.cell? ⟨c0, 8, none⟩ = some (.int .i64 step) ∧ w.cell? ⟨c0, 9, none⟩ = some (.slice D ld cd)
theorem BoxM.below {w w1 : World} {c0 : Nat} {A B C D : Option Addr} {name : ByteArray} {la ca lb cb lc cc ld cd : Nat} {r z nr nz step : Int} (h : BoxM w c0 A B C D name la ca lb cb lc cc ld cd r z nr nz step) (h0 : c0 < w.heap.size) (hb : Below w.heap.size w w1) : BoxM w1 c0 A B C D name la ca lb cb lc cc ld cd r z nr nz step := by
 obtain ⟨a0, a1, a2, a3, a4, a5, a6, a7, a8, a9⟩ := h
 have g : ∀ (o : Nat) (v : Value), w.cell? ⟨c0, o, none⟩ = some v → w1.cell? ⟨c0, o, none⟩ = some v := fun o v e => (hb.cell (p := ⟨c0, o, none⟩) h0).trans e
 exact ⟨g _ _ a0, g _ _ a1, g _ _ a2, g _ _ a3, g _ _ a4, g _ _ a5, g _ _ a6, g _ _ a7, g _ _ a8, g _ _ a9⟩
end
end Go.Proofs.YtapldonpflgnfaaGreatDoor
