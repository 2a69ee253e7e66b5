import Derived.Test.YtfpjhobhmcfpnaaDoorJAU
import Derived.Test.YtfpjhobhmcfpnaaDoorJAY
import Derived.Test.YtfpjhobhmcfpnaaDoorJAZ
import Derived.Deep.QuietTactic
import Derived.BigQuiet
section
/- Package sense: possibleCurrents, allowed, over this seat's translation (written by mk_alw.py). -/
namespace Go.Proofs.YtfpjhobhmcfpnaaDoor
set_option linter.unusedVariables false
set_option linter.unusedSimpArgs false
open Go.RowKit Go.Shelf

def possL (a b : Int) : Int × Int := (max a 0, min b 1000000)
/-- The currents with which a reading is explained: a span that is not valid if there are none. -/
def allowL (lo hi b n : Int) : Int × Int :=
  if 0 < n then possL (cei (lo - b) n) (flo (hi - b) n) else if n < 0 then possL (cei (hi - b) n) (flo (lo - b) n) else if cont lo hi b = true then possL 0 1000000 else possL 1 0

set_option maxRecDepth 100000 in
set_option maxHeartbeats 8000000 in
theorem possible_any (a b : Int) (w : World) :
    Calls Tryd.prog 84 #[.int .i64 a, .int .i64 b] w (Ret (Sp (possL a b).1 (possL a b).2) w) := by
  unfold possL
  go_enter Tryd.func84, Tryd.ntmps84
  go_wp2
  exact bodyPost_ret (resP Tryd.results84 _ _ _ _ _ rfl (by go_simp) (by go_simp)) rfl ⟨rfl, by (with_reducible repeat first | exact Below.refl _ _ | assumption | ((first | refine Below.setCell ?_ ?_ _ | refine Below.alloc ?_ ?_ _); rotate_left; exact (by first | omega | (simp; done) | (simp; omega))) | refine Below.drew ?_ | refine Below_drewN ?_ _)⟩

set_option maxRecDepth 100000 in
set_option maxHeartbeats 8000000 in
theorem allowed_any (lo hi b n : Int) (w : World) (l0 : -1000000000000000 ≤ lo) (l1 : lo ≤ 1000000000000000) (h0 : -1000000000000000 ≤ hi) (h1 : hi ≤ 1000000000000000) (b0 : -50000000000000000 ≤ b) (b1 : b ≤ 50000000000000000) (n0 : -250000 ≤ n) (n1 : n ≤ 250000) :
    Calls Tryd.prog 50 #[Sp lo hi, .int .i64 b, .int .i64 n] w (Ret (Sp (allowL lo hi b n).1 (allowL lo hi b n).2) w) := by
  have v1 : IntKind.i64.wrap (lo - b) = lo - b := IntWalk.i64_in _ (by omega)
  have v2 : IntKind.i64.wrap (hi - b) = hi - b := IntWalk.i64_in _ (by omega)
  unfold allowL
  by_cases c1 : 0 < n
  · rw [if_pos c1]
    have HU := Lib.hid (fun W => up_any (lo - b) n W (by omega) (by omega) (by omega) (by omega) (by omega))
    have HD := Lib.hid (fun W => down_any (hi - b) n W (by omega) (by omega) (by omega) (by omega) (by omega))
    generalize cei (lo - b) n = U at *
    generalize flo (hi - b) n = V at *
    go_enter Tryd.func50, Tryd.ntmps50
    go_upto_region 1 with (fail)
    have Fr : Hid (RowL (w.heap.size) [.int .i64 lo, .int .i64 hi] ((w.alloc (.cells #[.int .i64 lo, .int .i64 hi] 66)).alloc (.cells #[.int .i64 0, .int .i64 0] 66))) := Lib.hid (by have h := RowL.new w #[.int .i64 lo, .int .i64 hi] 66; (try simp only [World.size_alloc] at h); exact (h.alloc _))
    have Ft : Hid (RowL (w.heap.size + 1) [.int .i64 0, .int .i64 0] ((w.alloc (.cells #[.int .i64 lo, .int .i64 hi] 66)).alloc (.cells #[.int .i64 0, .int .i64 0] 66))) := Lib.hid (by have h := RowL.new (w.alloc (.cells #[.int .i64 lo, .int .i64 hi] 66)) #[.int .i64 0, .int .i64 0] 66; (try simp only [World.size_alloc] at h); exact h)
    have hB0 : Below w.heap.size w ((w.alloc (.cells #[.int .i64 lo, .int .i64 hi] 66)).alloc (.cells #[.int .i64 0, .int .i64 0] 66)) := by (with_reducible repeat first | exact Below.refl _ _ | assumption | ((first | refine Below.setCell ?_ ?_ _ | refine Below.alloc ?_ ?_ _); rotate_left; exact (by first | omega | (simp; done) | (simp; omega))) | refine Below.drew ?_ | refine Below_drewN ?_ _)
    have sW0 : w.heap.size + 1 < ((w.alloc (.cells #[.int .i64 lo, .int .i64 hi] 66)).alloc (.cells #[.int .i64 0, .int .i64 0] 66)).heap.size := by simp only [World.size_alloc]; omega
    obtain ⟨W0, hW0⟩ : ∃ W, ((w.alloc (.cells #[.int .i64 lo, .int .i64 hi] 66)).alloc (.cells #[.int .i64 0, .int .i64 0] 66)) = W := ⟨_, rfl⟩
    rw [hW0] at Fr Ft hB0 sW0 ⊢
    clear hW0
    have r0 := Fr.out.cell 0 (.int .i64 lo) rfl
    have r1 := Fr.out.cell 1 (.int .i64 hi) rfl
    have t0 := Ft.out.cell 0 (.int .i64 0) rfl
    have tf0 := Ft.out.mark 0 (by simp)
    have t1 := Ft.out.cell 1 (.int .i64 0) rfl
    have tf1 := Ft.out.mark 1 (by simp)
    go_quiet (fail)
    go_wp2_with (first | ((with_reducible refine (HU.out _).mono ?_); rintro e w7 ⟨rfl, rfl⟩) | ((with_reducible refine (HD.out _).mono ?_); rintro e w7 ⟨rfl, rfl⟩))
    refine (possible_any _ _ _).mono ?_
    rintro e w8 ⟨rfl, hb8⟩
    have hcw8 : Below W0.heap.size W0 w8 := Below.trans (by (with_reducible repeat first | exact Below.refl _ _ | assumption | ((first | refine Below.setCell ?_ ?_ _ | refine Below.alloc ?_ ?_ _); rotate_left; exact (by first | omega | (simp; done) | (simp; omega))) | refine Below.drew ?_ | refine Below_drewN ?_ _)) hb8
    clear hb8
    clear r0 r1 t0 tf0 t1 tf1
    have Gr := Lib.hid (Fr.out.below hcw8)
    clear Fr
    have Fr := Lib.hid Gr.out
    clear Gr
    have Gt := Lib.hid (Ft.out.below hcw8)
    clear Ft
    have Ft := Lib.hid Gt.out
    clear Gt
    have r0 := Fr.out.cell 0 (.int .i64 lo) rfl
    have r1 := Fr.out.cell 1 (.int .i64 hi) rfl
    have t0 := Ft.out.cell 0 (.int .i64 0) rfl
    have tf0 := Ft.out.mark 0 (by simp)
    have t1 := Ft.out.cell 1 (.int .i64 0) rfl
    have tf1 := Ft.out.mark 1 (by simp)
    have hBw8 := hB0.trans (hcw8.mono hB0.size)
    have hzw8 : w.heap.size + 1 < w8.heap.size := Nat.lt_of_lt_of_le (by assumption) hcw8.size
    clear hcw8
    go_wp2_with fail
    exact bodyPost_ret (resS Tryd.results50 _ _ _ _ _ rfl (by (try simp only [isSome_setCell]); first | assumption | go_simp) (by (try simp only [isSome_setCell]); first | assumption | go_simp)) rfl ⟨rfl, by (with_reducible repeat first | exact Below.refl _ _ | assumption | ((first | refine Below.setCell ?_ ?_ _ | refine Below.alloc ?_ ?_ _); rotate_left; exact (by first | omega | (simp; done) | (simp; omega))) | refine Below.drew ?_ | refine Below_drewN ?_ _)⟩
  rw [if_neg c1]
  by_cases c2 : n < 0
  · rw [if_pos c2]
    have HU := Lib.hid (fun W => up_any (hi - b) n W (by omega) (by omega) (by omega) (by omega) (by omega))
    have HD := Lib.hid (fun W => down_any (lo - b) n W (by omega) (by omega) (by omega) (by omega) (by omega))
    generalize cei (hi - b) n = U at *
    generalize flo (lo - b) n = V at *
    go_enter Tryd.func50, Tryd.ntmps50
    go_upto_region 1 with (fail)
    have Fr : Hid (RowL (w.heap.size) [.int .i64 lo, .int .i64 hi] ((w.alloc (.cells #[.int .i64 lo, .int .i64 hi] 66)).alloc (.cells #[.int .i64 0, .int .i64 0] 66))) := Lib.hid (by have h := RowL.new w #[.int .i64 lo, .int .i64 hi] 66; (try simp only [World.size_alloc] at h); exact (h.alloc _))
    have Ft : Hid (RowL (w.heap.size + 1) [.int .i64 0, .int .i64 0] ((w.alloc (.cells #[.int .i64 lo, .int .i64 hi] 66)).alloc (.cells #[.int .i64 0, .int .i64 0] 66))) := Lib.hid (by have h := RowL.new (w.alloc (.cells #[.int .i64 lo, .int .i64 hi] 66)) #[.int .i64 0, .int .i64 0] 66; (try simp only [World.size_alloc] at h); exact h)
    have hB0 : Below w.heap.size w ((w.alloc (.cells #[.int .i64 lo, .int .i64 hi] 66)).alloc (.cells #[.int .i64 0, .int .i64 0] 66)) := by (with_reducible repeat first | exact Below.refl _ _ | assumption | ((first | refine Below.setCell ?_ ?_ _ | refine Below.alloc ?_ ?_ _); rotate_left; exact (by first | omega | (simp; done) | (simp; omega))) | refine Below.drew ?_ | refine Below_drewN ?_ _)
    have sW0 : w.heap.size + 1 < ((w.alloc (.cells #[.int .i64 lo, .int .i64 hi] 66)).alloc (.cells #[.int .i64 0, .int .i64 0] 66)).heap.size := by simp only [World.size_alloc]; omega
    obtain ⟨W0, hW0⟩ : ∃ W, ((w.alloc (.cells #[.int .i64 lo, .int .i64 hi] 66)).alloc (.cells #[.int .i64 0, .int .i64 0] 66)) = W := ⟨_, rfl⟩
    rw [hW0] at Fr Ft hB0 sW0 ⊢
    clear hW0
    have r0 := Fr.out.cell 0 (.int .i64 lo) rfl
    have r1 := Fr.out.cell 1 (.int .i64 hi) rfl
    have t0 := Ft.out.cell 0 (.int .i64 0) rfl
    have tf0 := Ft.out.mark 0 (by simp)
    have t1 := Ft.out.cell 1 (.int .i64 0) rfl
    have tf1 := Ft.out.mark 1 (by simp)
    go_quiet (fail)
    go_wp2_with (first | ((with_reducible refine (HU.out _).mono ?_); rintro e w7 ⟨rfl, rfl⟩) | ((with_reducible refine (HD.out _).mono ?_); rintro e w7 ⟨rfl, rfl⟩))
    refine (possible_any _ _ _).mono ?_
    rintro e w8 ⟨rfl, hb8⟩
    have hcw8 : Below W0.heap.size W0 w8 := Below.trans (by (with_reducible repeat first | exact Below.refl _ _ | assumption | ((first | refine Below.setCell ?_ ?_ _ | refine Below.alloc ?_ ?_ _); rotate_left; exact (by first | omega | (simp; done) | (simp; omega))) | refine Below.drew ?_ | refine Below_drewN ?_ _)) hb8
    clear hb8
    clear r0 r1 t0 tf0 t1 tf1
    have Gr := Lib.hid (Fr.out.below hcw8)
    clear Fr
    have Fr := Lib.hid Gr.out
    clear Gr
    have Gt := Lib.hid (Ft.out.below hcw8)
    clear Ft
    have Ft := Lib.hid Gt.out
    clear Gt
    have r0 := Fr.out.cell 0 (.int .i64 lo) rfl
    have r1 := Fr.out.cell 1 (.int .i64 hi) rfl
    have t0 := Ft.out.cell 0 (.int .i64 0) rfl
    have tf0 := Ft.out.mark 0 (by simp)
    have t1 := Ft.out.cell 1 (.int .i64 0) rfl
    have tf1 := Ft.out.mark 1 (by simp)
    have hBw8 := hB0.trans (hcw8.mono hB0.size)
    have hzw8 : w.heap.size + 1 < w8.heap.size := Nat.lt_of_lt_of_le (by assumption) hcw8.size
    clear hcw8
    go_wp2_with fail
    exact bodyPost_ret (resS Tryd.results50 _ _ _ _ _ rfl (by (try simp only [isSome_setCell]); first | assumption | go_simp) (by (try simp only [isSome_setCell]); first | assumption | go_simp)) rfl ⟨rfl, by (with_reducible repeat first | exact Below.refl _ _ | assumption | ((first | refine Below.setCell ?_ ?_ _ | refine Below.alloc ?_ ?_ _); rotate_left; exact (by first | omega | (simp; done) | (simp; omega))) | refine Below.drew ?_ | refine Below_drewN ?_ _)⟩
  rw [if_neg c2]
  have HC := Lib.hid (fun W => contains_any lo hi b W)
  have c3 : n = 0 := by omega
  subst c3
  clear c1 c2 n0 n1
  cases cc : cont lo hi b
  · rw [if_neg (by decide)]
    rw [cc] at HC
    clear cc
    go_enter Tryd.func50, Tryd.ntmps50
    go_upto_region 1 with (fail)
    have Fr : Hid (RowL (w.heap.size) [.int .i64 lo, .int .i64 hi] ((w.alloc (.cells #[.int .i64 lo, .int .i64 hi] 66)).alloc (.cells #[.int .i64 0, .int .i64 0] 66))) := Lib.hid (by have h := RowL.new w #[.int .i64 lo, .int .i64 hi] 66; (try simp only [World.size_alloc] at h); exact (h.alloc _))
    have Ft : Hid (RowL (w.heap.size + 1) [.int .i64 0, .int .i64 0] ((w.alloc (.cells #[.int .i64 lo, .int .i64 hi] 66)).alloc (.cells #[.int .i64 0, .int .i64 0] 66))) := Lib.hid (by have h := RowL.new (w.alloc (.cells #[.int .i64 lo, .int .i64 hi] 66)) #[.int .i64 0, .int .i64 0] 66; (try simp only [World.size_alloc] at h); exact h)
    have hB0 : Below w.heap.size w ((w.alloc (.cells #[.int .i64 lo, .int .i64 hi] 66)).alloc (.cells #[.int .i64 0, .int .i64 0] 66)) := by (with_reducible repeat first | exact Below.refl _ _ | assumption | ((first | refine Below.setCell ?_ ?_ _ | refine Below.alloc ?_ ?_ _); rotate_left; exact (by first | omega | (simp; done) | (simp; omega))) | refine Below.drew ?_ | refine Below_drewN ?_ _)
    have sW0 : w.heap.size + 1 < ((w.alloc (.cells #[.int .i64 lo, .int .i64 hi] 66)).alloc (.cells #[.int .i64 0, .int .i64 0] 66)).heap.size := by simp only [World.size_alloc]; omega
    obtain ⟨W0, hW0⟩ : ∃ W, ((w.alloc (.cells #[.int .i64 lo, .int .i64 hi] 66)).alloc (.cells #[.int .i64 0, .int .i64 0] 66)) = W := ⟨_, rfl⟩
    rw [hW0] at Fr Ft hB0 sW0 ⊢
    clear hW0
    have r0 := Fr.out.cell 0 (.int .i64 lo) rfl
    have r1 := Fr.out.cell 1 (.int .i64 hi) rfl
    have t0 := Ft.out.cell 0 (.int .i64 0) rfl
    have tf0 := Ft.out.mark 0 (by simp)
    have t1 := Ft.out.cell 1 (.int .i64 0) rfl
    have tf1 := Ft.out.mark 1 (by simp)
    go_quiet (fail)
    go_wp2_with fail
    refine (HC.out _).mono ?_
    rintro e w7 ⟨rfl, hb7⟩
    have hcw7 : Below W0.heap.size W0 w7 := Below.trans (by (with_reducible repeat first | exact Below.refl _ _ | assumption | ((first | refine Below.setCell ?_ ?_ _ | refine Below.alloc ?_ ?_ _); rotate_left; exact (by first | omega | (simp; done) | (simp; omega))) | refine Below.drew ?_ | refine Below_drewN ?_ _)) hb7
    clear hb7
    clear r0 r1 t0 tf0 t1 tf1
    have Gr := Lib.hid (Fr.out.below hcw7)
    clear Fr
    have Fr := Lib.hid Gr.out
    clear Gr
    have Gt := Lib.hid (Ft.out.below hcw7)
    clear Ft
    have Ft := Lib.hid Gt.out
    clear Gt
    have r0 := Fr.out.cell 0 (.int .i64 lo) rfl
    have r1 := Fr.out.cell 1 (.int .i64 hi) rfl
    have t0 := Ft.out.cell 0 (.int .i64 0) rfl
    have tf0 := Ft.out.mark 0 (by simp)
    have t1 := Ft.out.cell 1 (.int .i64 0) rfl
    have tf1 := Ft.out.mark 1 (by simp)
    have hBw7 := hB0.trans (hcw7.mono hB0.size)
    have hzw7 : w.heap.size + 1 < w7.heap.size := Nat.lt_of_lt_of_le (by assumption) hcw7.size
    clear hcw7
    go_wp2_with fail
    refine (possible_any _ _ _).mono ?_
    rintro e w8 ⟨rfl, hb8⟩
    have hcw8 : Below w7.heap.size w7 w8 := Below.trans (by (with_reducible repeat first | exact Below.refl _ _ | assumption | ((first | refine Below.setCell ?_ ?_ _ | refine Below.alloc ?_ ?_ _); rotate_left; exact (by first | omega | (simp; done) | (simp; omega))) | refine Below.drew ?_ | refine Below_drewN ?_ _)) hb8
    clear hb8
    clear r0 r1 t0 tf0 t1 tf1
    have Gr := Lib.hid (Fr.out.below hcw8)
    clear Fr
    have Fr := Lib.hid Gr.out
    clear Gr
    have Gt := Lib.hid (Ft.out.below hcw8)
    clear Ft
    have Ft := Lib.hid Gt.out
    clear Gt
    have r0 := Fr.out.cell 0 (.int .i64 lo) rfl
    have r1 := Fr.out.cell 1 (.int .i64 hi) rfl
    have t0 := Ft.out.cell 0 (.int .i64 0) rfl
    have tf0 := Ft.out.mark 0 (by simp)
    have t1 := Ft.out.cell 1 (.int .i64 0) rfl
    have tf1 := Ft.out.mark 1 (by simp)
    have hBw8 := hBw7.trans (hcw8.mono hBw7.size)
    have hzw8 : w.heap.size + 1 < w8.heap.size := Nat.lt_of_lt_of_le (by assumption) hcw8.size
    clear hcw8
    go_wp2_with fail
    exact bodyPost_ret (resS Tryd.results50 _ _ _ _ _ rfl (by (try simp only [isSome_setCell]); first | assumption | go_simp) (by (try simp only [isSome_setCell]); first | assumption | go_simp)) rfl ⟨rfl, by (with_reducible repeat first | exact Below.refl _ _ | assumption | ((first | refine Below.setCell ?_ ?_ _ | refine Below.alloc ?_ ?_ _); rotate_left; exact (by first | omega | (simp; done) | (simp; omega))) | refine Below.drew ?_ | refine Below_drewN ?_ _)⟩
  · rw [if_pos rfl]
    rw [cc] at HC
    clear cc
    go_enter Tryd.func50, Tryd.ntmps50
    go_upto_region 1 with (fail)
    have Fr : Hid (RowL (w.heap.size) [.int .i64 lo, .int .i64 hi] ((w.alloc (.cells #[.int .i64 lo, .int .i64 hi] 66)).alloc (.cells #[.int .i64 0, .int .i64 0] 66))) := Lib.hid (by have h := RowL.new w #[.int .i64 lo, .int .i64 hi] 66; (try simp only [World.size_alloc] at h); exact (h.alloc _))
    have Ft : Hid (RowL (w.heap.size + 1) [.int .i64 0, .int .i64 0] ((w.alloc (.cells #[.int .i64 lo, .int .i64 hi] 66)).alloc (.cells #[.int .i64 0, .int .i64 0] 66))) := Lib.hid (by have h := RowL.new (w.alloc (.cells #[.int .i64 lo, .int .i64 hi] 66)) #[.int .i64 0, .int .i64 0] 66; (try simp only [World.size_alloc] at h); exact h)
    have hB0 : Below w.heap.size w ((w.alloc (.cells #[.int .i64 lo, .int .i64 hi] 66)).alloc (.cells #[.int .i64 0, .int .i64 0] 66)) := by (with_reducible repeat first | exact Below.refl _ _ | assumption | ((first | refine Below.setCell ?_ ?_ _ | refine Below.alloc ?_ ?_ _); rotate_left; exact (by first | omega | (simp; done) | (simp; omega))) | refine Below.drew ?_ | refine Below_drewN ?_ _)
    have sW0 : w.heap.size + 1 < ((w.alloc (.cells #[.int .i64 lo, .int .i64 hi] 66)).alloc (.cells #[.int .i64 0, .int .i64 0] 66)).heap.size := by simp only [World.size_alloc]; omega
    obtain ⟨W0, hW0⟩ : ∃ W, ((w.alloc (.cells #[.int .i64 lo, .int .i64 hi] 66)).alloc (.cells #[.int .i64 0, .int .i64 0] 66)) = W := ⟨_, rfl⟩
    rw [hW0] at Fr Ft hB0 sW0 ⊢
    clear hW0
    have r0 := Fr.out.cell 0 (.int .i64 lo) rfl
    have r1 := Fr.out.cell 1 (.int .i64 hi) rfl
    have t0 := Ft.out.cell 0 (.int .i64 0) rfl
    have tf0 := Ft.out.mark 0 (by simp)
    have t1 := Ft.out.cell 1 (.int .i64 0) rfl
    have tf1 := Ft.out.mark 1 (by simp)
    go_quiet (fail)
    go_wp2_with fail
    refine (HC.out _).mono ?_
    rintro e w7 ⟨rfl, hb7⟩
    have hcw7 : Below W0.heap.size W0 w7 := Below.trans (by (with_reducible repeat first | exact Below.refl _ _ | assumption | ((first | refine Below.setCell ?_ ?_ _ | refine Below.alloc ?_ ?_ _); rotate_left; exact (by first | omega | (simp; done) | (simp; omega))) | refine Below.drew ?_ | refine Below_drewN ?_ _)) hb7
    clear hb7
    clear r0 r1 t0 tf0 t1 tf1
    have Gr := Lib.hid (Fr.out.below hcw7)
    clear Fr
    have Fr := Lib.hid Gr.out
    clear Gr
    have Gt := Lib.hid (Ft.out.below hcw7)
    clear Ft
    have Ft := Lib.hid Gt.out
    clear Gt
    have r0 := Fr.out.cell 0 (.int .i64 lo) rfl
    have r1 := Fr.out.cell 1 (.int .i64 hi) rfl
    have t0 := Ft.out.cell 0 (.int .i64 0) rfl
    have tf0 := Ft.out.mark 0 (by simp)
    have t1 := Ft.out.cell 1 (.int .i64 0) rfl
    have tf1 := Ft.out.mark 1 (by simp)
    have hBw7 := hB0.trans (hcw7.mono hB0.size)
    have hzw7 : w.heap.size + 1 < w7.heap.size := Nat.lt_of_lt_of_le (by assumption) hcw7.size
    clear hcw7
    go_wp2_with fail
    refine (possible_any _ _ _).mono ?_
    rintro e w8 ⟨rfl, hb8⟩
    have hcw8 : Below w7.heap.size w7 w8 := Below.trans (by (with_reducible repeat first | exact Below.refl _ _ | assumption | ((first | refine Below.setCell ?_ ?_ _ | refine Below.alloc ?_ ?_ _); rotate_left; exact (by first | omega | (simp; done) | (simp; omega))) | refine Below.drew ?_ | refine Below_drewN ?_ _)) hb8
    clear hb8
    clear r0 r1 t0 tf0 t1 tf1
    have Gr := Lib.hid (Fr.out.below hcw8)
    clear Fr
    have Fr := Lib.hid Gr.out
    clear Gr
    have Gt := Lib.hid (Ft.out.below hcw8)
    clear Ft
    have Ft := Lib.hid Gt.out
    clear Gt
    have r0 := Fr.out.cell 0 (.int .i64 lo) rfl
    have r1 := Fr.out.cell 1 (.int .i64 hi) rfl
    have t0 := Ft.out.cell 0 (.int .i64 0) rfl
    have tf0 := Ft.out.mark 0 (by simp)
    have t1 := Ft.out.cell 1 (.int .i64 0) rfl
    have tf1 := Ft.out.mark 1 (by simp)
    have hBw8 := hBw7.trans (hcw8.mono hBw7.size)
    have hzw8 : w.heap.size + 1 < w8.heap.size := Nat.lt_of_lt_of_le (by assumption) hcw8.size
    clear hcw8
    go_wp2_with fail
    exact bodyPost_ret (resS Tryd.results50 _ _ _ _ _ rfl (by (try simp only [isSome_setCell]); first | assumption | go_simp) (by (try simp only [isSome_setCell]); first | assumption | go_simp)) rfl ⟨rfl, by (with_reducible repeat first | exact Below.refl _ _ | assumption | ((first | refine Below.setCell ?_ ?_ _ | refine Below.alloc ?_ ?_ _); rotate_left; exact (by first | omega | (simp; done) | (simp; omega))) | refine Below.drew ?_ | refine Below_drewN ?_ _)⟩

end Go.Proofs.YtfpjhobhmcfpnaaDoor
end
section
/- Package sense: backgrounds, over this seat's translation (written by mk_bks.py). -/
namespace Go.Proofs.YtfpjhobhmcfpnaaDoor
set_option linter.unusedVariables false
set_option linter.unusedSimpArgs false
open Go.RowKit Go.Shelf

/-- The backgrounds of all sensors. -/
def bgL (M : MachD) (C : CurD) : List Int := (List.range M.sensors.length).map fun (k : Nat) => (backL M C (k : Int)).1
theorem bgL_get {M : MachD} {C : CurD} {k : Nat} (h : k < M.sensors.length) : (bgL M C)[k]? = some (backL M C (k : Int)).1 := by
  unfold bgL
  simp [h]

set_option maxRecDepth 100000 in
set_option maxHeartbeats 8000000 in
theorem backgrounds_any (R : MachR) (M : MachD) (Qr : CurR) (Cd : CurD) (w : World) (hM : IsM w R M) (hC : IsC w Qr Cd) (hl : R.ld ≤ 1000) :
    Calls Tryd.prog 48 #[.agg (machCells R M), Qr.v] w (MadeAt R.ld ((bgL M Cd).map (Value.int .i64)) w) := by
  obtain ⟨bf, hbf⟩ : ∃ bf : Nat → Int × Int, ∀ k : Nat, backL M Cd (k : Int) = bf k := ⟨fun k => backL M Cd (k : Int), fun _ => rfl⟩
  have HB0 := Lib.hid (fun (k : Nat) (hk : k < R.ld) W (hb : Below w.heap.size w W) => (by have h := background_any R M Qr Cd (k : Int) W (hM.below hb) (hC.below hb) (by omega) (by omega); rw [hbf k] at h; exact h : Calls Tryd.prog 8 #[.agg (machCells R M), Qr.v, .int .i64 (k : Int)] W (Ret (.tuple #[.int .i64 (bf k).1, .int .i64 (bf k).2]) W)))
  have HG : Hid (∀ k : Nat, k < R.ld → ((bgL M Cd).map (Value.int .i64))[k]? = some (.int .i64 (bf k).1)) := Lib.hid (fun k hk => by rw [← hbf k, List.getElem?_map, bgL_get (by rw [hM.sensors.1]; exact hk)]; rfl)
  have HL : Hid (((bgL M Cd).map (Value.int .i64)).length = R.ld) := Lib.hid (by rw [List.length_map]; unfold bgL; rw [List.length_map, List.length_range, hM.sensors.1])
  clear hM hC hbf
  generalize (bgL M Cd).map (Value.int .i64) = T at *
  obtain ⟨A, B, Cl, D, la, ca, lb, cb, lc, cl, ld, cd⟩ := R
  obtain ⟨name, coils, shells, limits, ⟨r, z, nr, nz, step⟩, sensors⟩ := M
  obtain ⟨A1, B1, C1, na, qa, nb, qb, nc, qc⟩ := Qr
  dsimp only [CurR.v] at *
  have hmk := run_make_row' (P := Tryd.prog) 30 3 (.int .i64 0) 8 Tryd.underlying30 infoI rfl .i64 .i64 ld (by omega) (by omega)
  show Calls Tryd.prog 48 #[.agg #[.string name, .slice A la ca, .slice B lb cb, .slice Cl lc cl, .int .i64 r, .int .i64 z, .int .i64 nr, .int .i64 nz, .int .i64 step, .slice D ld cd], .agg #[.slice A1 na qa, .slice B1 nb qb, .slice C1 nc qc]] w _
  go_enter Tryd.func48, Tryd.ntmps48
  go_upto_region 1 with (fail)
  have Fm : Hid (RowL (w.heap.size) [.string name, .slice A la ca, .slice B lb cb, .slice Cl lc cl, .int .i64 r, .int .i64 z, .int .i64 nr, .int .i64 nz, .int .i64 step, .slice D ld cd] ((w.alloc (.cells #[.string name, .slice A la ca, .slice B lb cb, .slice Cl lc cl, .int .i64 r, .int .i64 z, .int .i64 nr, .int .i64 nz, .int .i64 step, .slice D ld cd] 29)).alloc (.cells #[.slice A1 na qa, .slice B1 nb qb, .slice C1 nc qc] 32))) := Lib.hid (by have h := RowL.new w #[.string name, .slice A la ca, .slice B lb cb, .slice Cl lc cl, .int .i64 r, .int .i64 z, .int .i64 nr, .int .i64 nz, .int .i64 step, .slice D ld cd] 29; (try simp only [World.size_alloc] at h); exact (h.alloc _))
  have Fc : Hid (RowL (w.heap.size + 1) [.slice A1 na qa, .slice B1 nb qb, .slice C1 nc qc] ((w.alloc (.cells #[.string name, .slice A la ca, .slice B lb cb, .slice Cl lc cl, .int .i64 r, .int .i64 z, .int .i64 nr, .int .i64 nz, .int .i64 step, .slice D ld cd] 29)).alloc (.cells #[.slice A1 na qa, .slice B1 nb qb, .slice C1 nc qc] 32))) := Lib.hid (by have h := RowL.new (w.alloc (.cells #[.string name, .slice A la ca, .slice B lb cb, .slice Cl lc cl, .int .i64 r, .int .i64 z, .int .i64 nr, .int .i64 nz, .int .i64 step, .slice D ld cd] 29)) #[.slice A1 na qa, .slice B1 nb qb, .slice C1 nc qc] 32; (try simp only [World.size_alloc] at h); exact h)
  have hB0 : Below w.heap.size w ((w.alloc (.cells #[.string name, .slice A la ca, .slice B lb cb, .slice Cl lc cl, .int .i64 r, .int .i64 z, .int .i64 nr, .int .i64 nz, .int .i64 step, .slice D ld cd] 29)).alloc (.cells #[.slice A1 na qa, .slice B1 nb qb, .slice C1 nc qc] 32)) := by (with_reducible repeat first | exact Below.refl _ _ | assumption | ((first | refine Below.setCell ?_ ?_ _ | refine Below.alloc ?_ ?_ _); rotate_left; exact (by first | omega | (simp; done) | (simp; omega))) | refine Below.drew ?_ | refine Below_drewN ?_ _)
  have sW0 : w.heap.size + 1 < ((w.alloc (.cells #[.string name, .slice A la ca, .slice B lb cb, .slice Cl lc cl, .int .i64 r, .int .i64 z, .int .i64 nr, .int .i64 nz, .int .i64 step, .slice D ld cd] 29)).alloc (.cells #[.slice A1 na qa, .slice B1 nb qb, .slice C1 nc qc] 32)).heap.size := by simp only [World.size_alloc]; omega
  obtain ⟨W0, hW0⟩ : ∃ W, ((w.alloc (.cells #[.string name, .slice A la ca, .slice B lb cb, .slice Cl lc cl, .int .i64 r, .int .i64 z, .int .i64 nr, .int .i64 nz, .int .i64 step, .slice D ld cd] 29)).alloc (.cells #[.slice A1 na qa, .slice B1 nb qb, .slice C1 nc qc] 32)) = W := ⟨_, rfl⟩
  rw [hW0] at Fm Fc hB0 sW0 ⊢
  clear hW0
  have m0 := Fm.out.cell 0 (.string name) rfl
  have m1 := Fm.out.cell 1 (.slice A la ca) rfl
  have m2 := Fm.out.cell 2 (.slice B lb cb) rfl
  have m3 := Fm.out.cell 3 (.slice Cl lc cl) rfl
  have m4 := Fm.out.cell 4 (.int .i64 r) rfl
  have m5 := Fm.out.cell 5 (.int .i64 z) rfl
  have m6 := Fm.out.cell 6 (.int .i64 nr) rfl
  have m7 := Fm.out.cell 7 (.int .i64 nz) rfl
  have m8 := Fm.out.cell 8 (.int .i64 step) rfl
  have m9 := Fm.out.cell 9 (.slice D ld cd) rfl
  have c0 := Fc.out.cell 0 (.slice A1 na qa) rfl
  have c1 := Fc.out.cell 1 (.slice B1 nb qb) rfl
  have c2 := Fc.out.cell 2 (.slice C1 nc qc) rfl
  go_upto_region 2 with (fail)
  have hR0 : Hid (RowL W0.heap.size (T.take 0 ++ List.replicate (ld - 0) (.int .i64 0)) (W0.alloc (.cells (madeCells #[.int .i64 0] ld) 3))) := Lib.hid (by rw [fill_none]; exact (ZeroL.new W0 ld 3 (by omega)).row)
  have hb1 : Below W0.heap.size W0 (W0.alloc (.cells (madeCells #[.int .i64 0] ld) 3)) := by (with_reducible repeat first | exact Below.refl _ _ | assumption | ((first | refine Below.setCell ?_ ?_ _ | refine Below.alloc ?_ ?_ _); rotate_left; exact (by first | omega | (simp; done) | (simp; omega))) | refine Below.drew ?_ | refine Below_drewN ?_ _)
  obtain ⟨W1, hW1⟩ : ∃ W, W0.alloc (.cells (madeCells #[.int .i64 0] ld) 3) = W := ⟨_, rfl⟩
  rw [hW1] at hR0 hb1 ⊢
  clear hW1 hmk m0 m1 m2 m3 m4 m5 m6 m7 m8 m9 c0 c1 c2
  go_wp2_with fail
  go_loopw [13] (fun i wr => ∃ j : Nat, j ≤ ld ∧ i = .int .i64 j ∧ Hid (RowL W0.heap.size (T.take j ++ List.replicate (ld - j) (.int .i64 0)) wr) ∧ Below W0.heap.size W0 wr) (fun i _ => ld - (intOf i).toNat)
  case atStart => exact ⟨0, Nat.zero_le _, rfl, hR0, hb1⟩
  case round =>
    obtain ⟨j, hj, rfl, hR, hB⟩ := hrel
    have sz := hB.size
    by_cases hlt : j < ld
    · obtain ⟨x, hx⟩ : ∃ x, (bf j).1 = x := ⟨_, rfl⟩
      obtain ⟨y, hy⟩ : ∃ y, (bf j).2 = y := ⟨_, rfl⟩
      have HT := Lib.hid (HG.out j hlt)
      have HC := Lib.hid (HB0.out j hlt)
      rw [hx] at HT HC
      rw [hy] at HC
      clear hx hy
      have m0 := (Fm.out.below hB).cell 0 (.string name) rfl
      have m1 := (Fm.out.below hB).cell 1 (.slice A la ca) rfl
      have m2 := (Fm.out.below hB).cell 2 (.slice B lb cb) rfl
      have m3 := (Fm.out.below hB).cell 3 (.slice Cl lc cl) rfl
      have m4 := (Fm.out.below hB).cell 4 (.int .i64 r) rfl
      have m5 := (Fm.out.below hB).cell 5 (.int .i64 z) rfl
      have m6 := (Fm.out.below hB).cell 6 (.int .i64 nr) rfl
      have m7 := (Fm.out.below hB).cell 7 (.int .i64 nz) rfl
      have m8 := (Fm.out.below hB).cell 8 (.int .i64 step) rfl
      have m9 := (Fm.out.below hB).cell 9 (.slice D ld cd) rfl
      have c0 := (Fc.out.below hB).cell 0 (.slice A1 na qa) rfl
      have c1 := (Fc.out.below hB).cell 1 (.slice B1 nb qb) rfl
      have c2 := (Fc.out.below hB).cell 2 (.slice C1 nc qc) rfl
      have HC2 := Lib.hid (show ∀ W, Below w.heap.size w W → Calls Tryd.prog 8 #[.agg #[.string name, .slice A la ca, .slice B lb cb, .slice Cl lc cl, .int .i64 r, .int .i64 z, .int .i64 nr, .int .i64 nz, .int .i64 step, .slice D ld cd], .agg #[.slice A1 na qa, .slice B1 nb qb, .slice C1 nc qc], .int .i64 j] W (Ret (.tuple #[.int .i64 x, .int .i64 y]) W) from HC.out)
      have jn : ((j : Int)).toNat = j := by omega
      have j0 : (0 : Int) ≤ j := by omega
      clear HC hR0 hb1
      go_wp2_with fail
      refine (HC2.out _ (hB0.trans (hB.mono hB0.size))).mono ?_
      rintro e w2 ⟨rfl, hb⟩
      have hR2 := hR.out.below hb
      have r0 := hR2.cell j (.int .i64 0) (fill_get T ld j _ HL.out hlt)
      have rf := hR2.mark j (by rw [fill_len T ld j _ HL.out (by omega)]; exact hlt)
      have HR3 := Lib.hid (hR2.fill HL.out hlt HT.out)
      have hB2 := hB.trans (hb.mono hB.size)
      have sz2 := hb.size
      have hbk : W0.heap.size < w2.heap.size := hR2.lt
      clear hR2 hb m0 m1 m2 m3 m4 m5 m6 m7 m8 m9 c0 c1 c2 HC2
      go_wp2_with fail
      go_roundw
      case rel => exact ⟨j + 1, by omega, by go_num, HR3, by (with_reducible repeat first | exact Below.refl _ _ | assumption | ((first | refine Below.setCell ?_ ?_ _ | refine Below.alloc ?_ ?_ _); rotate_left; exact (by first | omega | (simp; done) | (simp; omega))) | refine Below.drew ?_ | refine Below_drewN ?_ _)⟩
      case measure => simp [intOf]; omega
    · obtain rfl : j = ld := by omega
      have hR2 := hR.out
      rw [fill_all T j _ HL.out] at hR2
      have HR3 := Lib.hid hR2
      clear hR hR0 hb1 hR2
      go_wp2_with fail
      go_ret
      exact ⟨W0.heap.size, rfl, by omega, HR3.out, hB0.trans (hB.mono hB0.size)⟩

end Go.Proofs.YtfpjhobhmcfpnaaDoor
end
section
/- Claims: plain functions; a new row of spans, over this seat's translation (written by mk_cin.py). -/
namespace Go.Proofs.YtfpjhobhmcfpnaaDoor
set_option linter.unusedVariables false
set_option linter.unusedSimpArgs false
open Go.RowKit Go.Shelf

theorem toList_made2 (z : Value) (n : Nat) : (madeCells #[z, z] n).toList = List.replicate n z := by
  apply List.ext_getElem?
  intro j
  by_cases hj : j < n
  · rcases Nat.mod_two_eq_zero_or_one j with h | h <;> simp [madeCells, hj, h, List.getElem?_replicate]
  · simp [madeCells, hj, List.getElem?_replicate]
theorem RowL.made2 (W : World) (z : Value) (n : Nat) (t : TypeId) : RowL W.heap.size (List.replicate n z) (W.alloc (.cells (madeCells #[z, z] n) t)) := by
  have h := RowL.new W (madeCells #[z, z] n) t
  rwa [toList_made2] at h
theorem infoS : (Tryd.prog.info? 66).map (fun i => (i.zero, i.size, i.bytes)) = some (some (.agg #[.int .i64 0, .int .i64 0]), 2, 16) := by kernel_rfl
theorem run_make_span (t : TypeId) (ht : Tryd.prog.underlying t = some (.slice 66)) (n : Nat) (hn : n ≤ 100000) (w : World) :
    (Instr.makeSlice t (.int .i64 (n : Int)) (.int .i64 (n : Int))).run Tryd.prog w = .ok (.slice (some ⟨w.heap.size, 0, none⟩) n n) (w.alloc (.cells (madeCells #[.int .i64 0, .int .i64 0] (n * 2)) 66)) := by
  obtain ⟨i, hi, hzz⟩ := Option.map_eq_some_iff.1 infoS
  simp only [Prod.mk.injEq] at hzz
  obtain ⟨hz, hs, hb⟩ := hzz
  have h := run_make (P := Tryd.prog) w t 66 i _ ht hi hz .i64 .i64 n n (by omega) (Int.le_refl _) (by rw [hb]; omega) (by omega)
  simp only [Int.toNat_natCast, hs] at h
  exact h
theorem flat2 : ∀ (l : List SpanD) (j : Nat) (x : SpanD), l[j]? = some x → (l.flatMap SpanD.cells)[j * 2]? = some (.int .i64 x.lo) ∧ (l.flatMap SpanD.cells)[j * 2 + 1]? = some (.int .i64 x.hi)
  | [], j, x, h => by simp at h
  | y :: r, 0, x, h => by
    obtain rfl : y = x := by simpa using h
    simp [SpanD.cells]
  | y :: r, j + 1, x, h => by
    have h' : r[j]? = some x := by simpa using h
    obtain ⟨a, b⟩ := flat2 r j x h'
    rw [List.flatMap_cons, show (j + 1) * 2 = (j * 2) + 2 by omega]
    refine ⟨?_, ?_⟩
    · rw [List.getElem?_append_right (by simp [SpanD.cells])]; simpa [SpanD.cells] using a
    · rw [List.getElem?_append_right (by simp [SpanD.cells])]; simpa [SpanD.cells] using b
theorem flat2_len : ∀ l : List SpanD, (l.flatMap SpanD.cells).length = l.length * 2
  | [] => rfl
  | y :: r => by rw [List.flatMap_cons, List.length_append, flat2_len r]; simp [SpanD.cells]; omega
theorem RowL.isS {b : Nat} {zs : List SpanD} {W : World} (h : RowL b (zs.flatMap SpanD.cells) W) {n : Nat} (hn : zs.length = n) : IsT 2 SpanD.cells W (some ⟨b, 0, none⟩) n zs := by
  refine ⟨hn, fun _ => ⟨b, 0, rfl, h.lt, fun j x hx i v hv => ?_⟩⟩
  obtain ⟨f1, f2⟩ := flat2 zs j x hx
  have hi : i = 0 ∨ i = 1 := by
    have := (List.getElem?_eq_some_iff.1 hv).1
    simp [SpanD.cells] at this; omega
  rcases hi with rfl | rfl
  · have hv' : v = .int .i64 x.lo := by simpa [SpanD.cells] using hv.symm
    subst hv'
    rw [show (0 + j * 2 + 0 : Nat) = j * 2 by omega]
    exact h.cell _ _ f1
  · have hv' : v = .int .i64 x.hi := by simpa [SpanD.cells] using hv.symm
    subst hv'
    rw [show (0 + j * 2 + 1 : Nat) = j * 2 + 1 by omega]
    exact h.cell _ _ f2

theorem backL_bd (M : MachD) (C : CurD) (s : Int) : -50000000000000000 ≤ (backL M C s).1 ∧ (backL M C s).1 ≤ 50000000000000000 := by
  unfold backL
  cases hv : validC M C
  · rw [if_neg (by decide)]; dsimp only; omega
  · rw [if_pos rfl]
    have hd := dark_fit (fit2_iff.1 hv)
    unfold exactL
    rw [fit2_iff.2 hd, if_pos rfl]
    split
    · split
      · exact sensP_bd (small_of hd) _
      · dsimp only; omega
    · dsimp only; omega
theorem respL_val {M : MachD} (h : checkC M = 0) {s cell : Int} (hs : wthn s 0 ((M.sensors.length : Int) - 1) = true) (hc : wthn cell 0 (M.grid.nr * M.grid.nz - 1) = true) {x : SensorD} (hx : M.sensors[s.toNat]? = some x) :
    respL M s cell = (sensOne x (cellR M.grid cell) (cellZ M.grid cell), 0) := by
  have hcl : cellL M cell = (cellR M.grid cell, cellZ M.grid cell, 0) := by
    unfold cellL
    rw [if_pos h, if_pos hc]
  have b := wthn_iff.1 hc
  unfold respL
  rw [hcl, if_pos rfl, hs, if_pos rfl, hx]
  dsimp only
  rw [alone_exact h (List.mem_of_getElem? hx) (cell_near h (by omega) (by omega))]
theorem respL_bd (M : MachD) (s cell : Int) : -250000 ≤ (respL M s cell).1 ∧ (respL M s cell).1 ≤ 250000 := by
  by_cases h : checkC M = 0
  · cases hs : wthn s 0 ((M.sensors.length : Int) - 1)
    · unfold respL; rw [hs]; split <;> simp
    · cases hc : wthn cell 0 (M.grid.nr * M.grid.nz - 1)
      · unfold respL cellL; rw [if_pos h, hc]; simp
      · have c := wthn_iff.1 hs
        obtain ⟨x, hx⟩ : ∃ x, M.sensors[s.toNat]? = some x := ⟨_, List.getElem?_eq_getElem (by omega)⟩
        rw [respL_val h hs hc hx]
        exact sensOne_bd _ _ _
  · unfold respL cellL; rw [if_neg h]; simp

/-- The claim of a sensor in a cell. -/
def clF (M : MachD) (bs : List Int) (zs : List SpanD) (cell : Int) (k : Nat) : SpanD :=
  ⟨(allowL (zs.getD k ⟨0, 0⟩).lo (zs.getD k ⟨0, 0⟩).hi (bs.getD k 0) (respL M k cell).1).1, (allowL (zs.getD k ⟨0, 0⟩).lo (zs.getD k ⟨0, 0⟩).hi (bs.getD k 0) (respL M k cell).1).2⟩
/-- The claims of all sensors in a cell. -/
def clL (M : MachD) (bs : List Int) (zs : List SpanD) (cell : Int) : List SpanD := (List.range M.sensors.length).map (clF M bs zs cell)
theorem clL_get {M : MachD} {bs : List Int} {zs : List SpanD} {cell : Int} {k : Nat} (h : k < M.sensors.length) : (clL M bs zs cell)[k]? = some (clF M bs zs cell k) := by
  unfold clL
  simp [h]
theorem clL_len (M : MachD) (bs : List Int) (zs : List SpanD) (cell : Int) : (clL M bs zs cell).length = M.sensors.length := by
  unfold clL; simp

end Go.Proofs.YtfpjhobhmcfpnaaDoor
end
