import Derived.Test.YthggkidiidnaoaaGreatDoorMAE
import Derived.Test.YthggkidiidnaoaaGreatDoorMAR
import Derived.Test.YthggkidiidnaoaaGreatDoorMAT
import Derived.Test.YthggkidiidnaoaaGreatDoorMAV
import Derived.Deep.RegionHeld3
import Derived.Deep.DeepCutAuto
import Derived.Deep.QuietTactic
import Derived.BigQuiet
import Derived.IntWalk
namespace Go.Proofs.YthggkidiidnaoaaGreatDoor
set_option linter.unusedVariables false
set_option linter.unusedSimpArgs false
section
open Go.RowKit
theorem resS {fn : Func} {p : Tmp} (h : fn.results = #[.cell p 67]) (tmps : Array Value) (W : World) (b : Nat) (x y : Value)
    (hp : tmps.getD p undef = .pointer (some ⟨b, 0, none⟩)) (h0 : (W.cell? ⟨b, 0, none⟩).isSome = true) (h1 : (W.cell? ⟨b, 1, none⟩).isSome = true) :
    (results fn tmps).run Tryz.prog ((W.setCell ⟨b, 0, none⟩ x).setCell ⟨b, 1, none⟩ y) = .ok (.agg #[x, y]) ((W.setCell ⟨b, 0, none⟩ x).setCell ⟨b, 1, none⟩ y) := by
  have n1 : (⟨b, 1, none⟩ : Addr) ≠ ⟨b, 0, none⟩ := by simp
  have n0 : (⟨b, 0, none⟩ : Addr) ≠ ⟨b, 1, none⟩ := by simp
  have e1 : ((W.setCell ⟨b, 0, none⟩ x).setCell ⟨b, 1, none⟩ y).cell? ⟨b, 0, none⟩ = some x :=
    (World.cell?_setCell_other _ _ _ _ n1).trans (World.cell?_setCell_same' _ _ _ h0)
  have e2 : ((W.setCell ⟨b, 0, none⟩ x).setCell ⟨b, 1, none⟩ y).cell? ⟨b, 1, none⟩ = some y :=
    World.cell?_setCell_same' _ _ _ (by rw [World.cell?_setCell_other _ _ _ _ n0]; exact h1)
  have hp' : tmps[p]?.getD undef = .pointer (some ⟨b, 0, none⟩) := by simpa using hp
  simp only [results, h]
  simp [Sem.run_bind, Result.andThen, go_sem, hp', e1, e2]
theorem resF {fn : Func} {p : Tmp} (h : fn.results = #[.cell p 67]) (tmps : Array Value) (W : World) (b : Nat) (x y : Value)
    (hp : tmps.getD p undef = .pointer (some ⟨b, 0, none⟩)) (h0 : (W.cell? ⟨b, 0, none⟩).isSome = true) (h1 : (W.cell? ⟨b, 1, none⟩).isSome = true) :
    (results fn tmps).run Tryz.prog ((W.setCell ⟨b, 0, none⟩ x).setCell ⟨b, 1, none⟩ y).drew = .ok (.agg #[x, y]) ((W.setCell ⟨b, 0, none⟩ x).setCell ⟨b, 1, none⟩ y).drew := by
  have n1 : (⟨b, 1, none⟩ : Addr) ≠ ⟨b, 0, none⟩ := by simp
  have n0 : (⟨b, 0, none⟩ : Addr) ≠ ⟨b, 1, none⟩ := by simp
  have e1 : ((W.setCell ⟨b, 0, none⟩ x).setCell ⟨b, 1, none⟩ y).drew.cell? ⟨b, 0, none⟩ = some x := by
    rw [World.cell?_drew]; exact (World.cell?_setCell_other _ _ _ _ n1).trans (World.cell?_setCell_same' _ _ _ h0)
  have e2 : ((W.setCell ⟨b, 0, none⟩ x).setCell ⟨b, 1, none⟩ y).drew.cell? ⟨b, 1, none⟩ = some y := by
    rw [World.cell?_drew]; exact World.cell?_setCell_same' _ _ _ (by rw [World.cell?_setCell_other _ _ _ _ n0]; exact h1)
  have hp' : tmps[p]?.getD undef = .pointer (some ⟨b, 0, none⟩) := by simpa using hp
  simp only [results, h]
  simp [Sem.run_bind, Result.andThen, go_sem, hp', e1, e2]
theorem resP {fn : Func} {p : Tmp} (h : fn.results = #[.cell p 67]) (tmps : Array Value) (W : World) (b : Nat) (x y : Value)
    (hp : tmps.getD p undef = .pointer (some ⟨b, 0, none⟩)) (h0 : W.cell? ⟨b, 0, none⟩ = some x) (h1 : W.cell? ⟨b, 1, none⟩ = some y) :
    (results fn tmps).run Tryz.prog W = .ok (.agg #[x, y]) W := by
  have hp' : tmps[p]?.getD undef = .pointer (some ⟨b, 0, none⟩) := by simpa using hp
  simp only [results, h]
  simp [Sem.run_bind, Result.andThen, go_sem, hp', h0, h1]
abbrev Pr (x : Tri) : Value := .agg #[.int .i64 x.1, .int .i64 x.2.1, .int .i64 x.2.2]
set_option maxHeartbeats 400000 in
theorem swithin_any (n a b : Int) (w : World) :
    Calls Tryz.prog 32 #[.int .i64 n, .int .i64 a, .int .i64 b] w fun e w' => e = .returned (.bool (wthn n a b)) ∧ w = w' := by
  go_enter Tryz.func32, Tryz.ntmps32
  go_wp2
  all_goals go_ret
  all_goals (simp [wthn]; try omega)
set_option maxHeartbeats 1000000 in
theorem validPair_any (v lo hi : Int) (w : World) :
    Calls Tryz.prog 46 #[Pr (v, lo, hi)] w (Ret (.bool (okP (v, lo, hi))) w) := by
  have e : okP (v, lo, hi) = (wthn v (-1000000000000000) 1000000000000000 && vld lo hi) := rfl
  have HE := Lib.hid e
  clear e
  by_cases h : wthn v (-1000000000000000) 1000000000000000 = true
  · go_enter Tryz.func46, Tryz.ntmps46
    go_wp2_with (first | (go_at_call 32; refine (swithin_any _ _ _ _).mono ?_; rintro e w1 ⟨rfl, rfl⟩) | (go_at_call 48; refine (valid_any _ _ _).mono ?_; rintro e w1 ⟨rfl, hb⟩; have hB : Below w.heap.size w w1 := Below.trans (by (repeat first | with_reducible exact Below.refl _ _ | (with_reducible refine Below.alloc ?_ ?_ _; rotate_left; exact (by omega)))) (hb.mono (by (simp; done))); obtain ⟨hc, hf⟩ := bcell hb; have hs := hb.size; clear hb; (try simp only [World.size_alloc, World.size_setCell] at hc hf); (try simp only [World.size_alloc, World.size_setCell] at hs); (try have hs' := Nat.lt_of_succ_le hs); (try have hs0 : w.heap.size < w1.heap.size := by omega); (try have hs1 : w.heap.size + 1 < w1.heap.size := by omega); (try have hs2 : w.heap.size + 1 + 1 < w1.heap.size := by omega); (try have hs3 : w.heap.size + 1 + 1 + 1 < w1.heap.size := by omega); (try have iso : (w1.cell? ⟨w.heap.size, 0, none⟩).isSome = true := by (rw [hc _ _ (by omega)]; (try simp only [isSome_setCell]); first | assumption | go_simp)); (try have iso : (w1.cell? ⟨w.heap.size, 1, none⟩).isSome = true := by (rw [hc _ _ (by omega)]; (try simp only [isSome_setCell]); first | assumption | go_simp)); (try have iso : (w1.cell? ⟨w.heap.size + 1, 0, none⟩).isSome = true := by (rw [hc _ _ (by first | omega | (simp; done) | (simp; omega))]; (try simp only [isSome_setCell]); first | assumption | go_simp)); (try have iso : (w1.cell? ⟨w.heap.size + 1, 1, none⟩).isSome = true := by (rw [hc _ _ (by first | omega | (simp; done) | (simp; omega))]; (try simp only [isSome_setCell]); first | assumption | go_simp)); (try have iso : (w1.cell? ⟨w.heap.size + 1 + 1, 0, none⟩).isSome = true := by (rw [hc _ _ (by first | omega | (simp; done) | (simp; omega))]; (try simp only [isSome_setCell]); first | assumption | go_simp)); (try have iso : (w1.cell? ⟨w.heap.size + 1 + 1, 1, none⟩).isSome = true := by (rw [hc _ _ (by first | omega | (simp; done) | (simp; omega))]; (try simp only [isSome_setCell]); first | assumption | go_simp))))
    go_ret
    exact ⟨by rw [HE.out, h]; simp, by (repeat with_reducible assumption)⟩
  · have h : wthn v (-1000000000000000) 1000000000000000 = false := by simpa using h
    go_enter Tryz.func46, Tryz.ntmps46
    go_wp2_with (go_at_call 32; refine (swithin_any _ _ _ _).mono ?_; rintro e w1 ⟨rfl, rfl⟩)
    go_ret
    exact ⟨by rw [HE.out, h]; simp, by (repeat first | with_reducible exact Below.refl _ _ | (with_reducible refine Below.alloc ?_ ?_ _; rotate_left; exact (by omega)))⟩
set_option maxHeartbeats 400000 in
theorem everyGain_any (w : World) :
    Calls Tryz.prog 85 #[] w (Ret (Sp (-1000000000) 1000000000) w) := by
  go_enter Tryz.func85, Tryz.ntmps85
  go_wp2_with fail
  exact bodyPost_ret (resP Tryz.results85 _ _ _ _ _ rfl (by go_simp) (by go_simp)) rfl ⟨rfl, by (repeat first | with_reducible exact Below.refl _ _ | (with_reducible refine Below.alloc ?_ ?_ _; rotate_left; exact (by omega)))⟩
end
section
open Go.RowKit Go.Shelf
def possL (a b : Int) : Int × Int := (max a 0, min b 1000000)
def allowL (lo hi b n : Int) : Int × Int :=
  if 0 < n then possL (cei (lo - b) n) (flo (hi - b) n) else if n < 0 then possL (cei (hi - b) n) (flo (lo - b) n) else if cont lo hi b = true then possL 0 1000000 else possL 1 0
set_option maxRecDepth 100000 in
set_option maxHeartbeats 8000000 in
theorem possible_any (a b : Int) (w : World) :
    Calls Tryz.prog 82 #[.int .i64 a, .int .i64 b] w (Ret (Sp (possL a b).1 (possL a b).2) w) := by
  unfold possL
  go_enter Tryz.func82, Tryz.ntmps82
  go_wp2
  exact bodyPost_ret (resP Tryz.results82 _ _ _ _ _ rfl (by go_simp) (by go_simp)) rfl ⟨rfl, by (repeat first | with_reducible exact Below.refl _ _ | (with_reducible refine Below.alloc ?_ ?_ _; rotate_left; exact (by omega)))⟩
set_option maxRecDepth 100000 in
set_option maxHeartbeats 8000000 in
theorem allowed_any (lo hi b n : Int) (w : World) (l0 : -1000000000000000 ≤ lo) (l1 : lo ≤ 1000000000000000) (h0 : -1000000000000000 ≤ hi) (h1 : hi ≤ 1000000000000000) (b0 : -50000000000000000 ≤ b) (b1 : b ≤ 50000000000000000) (n0 : -250000 ≤ n) (n1 : n ≤ 250000) :
    Calls Tryz.prog 64 #[Sp lo hi, .int .i64 b, .int .i64 n] w (Ret (Sp (allowL lo hi b n).1 (allowL lo hi b n).2) w) := by
  have v1 : IntKind.i64.wrap (lo - b) = lo - b := IntWalk.i64_in _ (by omega)
  have v2 : IntKind.i64.wrap (hi - b) = hi - b := IntWalk.i64_in _ (by omega)
  unfold allowL
  by_cases c1 : 0 < n
  · rw [if_pos c1]
    have HU := Lib.hid (fun W => up_any (lo - b) n W (by omega) (by omega) (by omega) (by omega) (by omega))
    have HD := Lib.hid (fun W => down_any (hi - b) n W (by omega) (by omega) (by omega) (by omega) (by omega))
    generalize cei (lo - b) n = U at *
    generalize flo (hi - b) n = V at *
    go_enter Tryz.func64, Tryz.ntmps64
    go_upto_region 1 with (fail)
    have Fr : Hid (RowL (w.heap.size) [.int .i64 lo, .int .i64 hi] ((w.alloc (.cells #[.int .i64 lo, .int .i64 hi] 67)).alloc (.cells #[.int .i64 0, .int .i64 0] 67))) := Lib.hid (by have h := RowL.new w #[.int .i64 lo, .int .i64 hi] 67; (try simp only [World.size_alloc] at h); exact (h.alloc _))
    have Ft : Hid (RowL (w.heap.size + 1) [.int .i64 0, .int .i64 0] ((w.alloc (.cells #[.int .i64 lo, .int .i64 hi] 67)).alloc (.cells #[.int .i64 0, .int .i64 0] 67))) := Lib.hid (by have h := RowL.new (w.alloc (.cells #[.int .i64 lo, .int .i64 hi] 67)) #[.int .i64 0, .int .i64 0] 67; (try simp only [World.size_alloc] at h); exact h)
    have hB0 : Below w.heap.size w ((w.alloc (.cells #[.int .i64 lo, .int .i64 hi] 67)).alloc (.cells #[.int .i64 0, .int .i64 0] 67)) := by (repeat first | with_reducible exact Below.refl _ _ | (with_reducible refine Below.alloc ?_ ?_ _; rotate_left; exact (by first | omega | (simp; done))))
    have sW0 : w.heap.size + 1 < ((w.alloc (.cells #[.int .i64 lo, .int .i64 hi] 67)).alloc (.cells #[.int .i64 0, .int .i64 0] 67)).heap.size := by simp only [World.size_alloc]; omega
    obtain ⟨W0, hW0⟩ : ∃ W, ((w.alloc (.cells #[.int .i64 lo, .int .i64 hi] 67)).alloc (.cells #[.int .i64 0, .int .i64 0] 67)) = W := ⟨_, rfl⟩
    rw [hW0] at Fr Ft hB0 sW0 ⊢
    clear hW0
    have r0 := Fr.out.cell 0 (.int .i64 lo) rfl
    have r1 := Fr.out.cell 1 (.int .i64 hi) rfl
    have t0 := Ft.out.cell 0 (.int .i64 0) rfl
    have tf0 := Ft.out.mark 0 (by simp)
    have t1 := Ft.out.cell 1 (.int .i64 0) rfl
    have tf1 := Ft.out.mark 1 (by simp)
    go_quiet (fail)
    go_wp2_with (first | ((with_reducible refine (HU.out _).mono ?_); rintro e w7 ⟨rfl, rfl⟩) | ((with_reducible refine (HD.out _).mono ?_); rintro e w7 ⟨rfl, rfl⟩))
    refine (possible_any _ _ _).mono ?_
    rintro e w8 ⟨rfl, hb8⟩
    have hcw8 : Below W0.heap.size W0 w8 := Below.trans (by (repeat first | with_reducible exact Below.refl _ _ | with_reducible refine Below_drewN ?_ _)) hb8
    clear hb8
    clear r0 r1 t0 tf0 t1 tf1
    have Gr := Lib.hid (Fr.out.below hcw8)
    clear Fr
    have Fr := Lib.hid Gr.out
    clear Gr
    have Gt := Lib.hid (Ft.out.below hcw8)
    clear Ft
    have Ft := Lib.hid Gt.out
    clear Gt
    have r0 := Fr.out.cell 0 (.int .i64 lo) rfl
    have r1 := Fr.out.cell 1 (.int .i64 hi) rfl
    have t0 := Ft.out.cell 0 (.int .i64 0) rfl
    have tf0 := Ft.out.mark 0 (by simp)
    have t1 := Ft.out.cell 1 (.int .i64 0) rfl
    have tf1 := Ft.out.mark 1 (by simp)
    have hBw8 := hB0.trans (hcw8.mono hB0.size)
    have hzw8 : w.heap.size + 1 < w8.heap.size := Nat.lt_of_lt_of_le (by assumption) hcw8.size
    clear hcw8
    go_wp2_with fail
    exact bodyPost_ret (resS Tryz.results64 _ _ _ _ _ rfl (by (try simp only [isSome_setCell]); first | assumption | go_simp) (by (try simp only [isSome_setCell]); first | assumption | go_simp)) rfl ⟨rfl, by (repeat first | with_reducible assumption | (with_reducible refine Below.setCell ?_ ?_ _; rotate_left; exact (by (simp; done))))⟩
  rw [if_neg c1]
  by_cases c2 : n < 0
  · rw [if_pos c2]
    have HU := Lib.hid (fun W => up_any (hi - b) n W (by omega) (by omega) (by omega) (by omega) (by omega))
    have HD := Lib.hid (fun W => down_any (lo - b) n W (by omega) (by omega) (by omega) (by omega) (by omega))
    generalize cei (hi - b) n = U at *
    generalize flo (lo - b) n = V at *
    go_enter Tryz.func64, Tryz.ntmps64
    go_upto_region 1 with (fail)
    have Fr : Hid (RowL (w.heap.size) [.int .i64 lo, .int .i64 hi] ((w.alloc (.cells #[.int .i64 lo, .int .i64 hi] 67)).alloc (.cells #[.int .i64 0, .int .i64 0] 67))) := Lib.hid (by have h := RowL.new w #[.int .i64 lo, .int .i64 hi] 67; (try simp only [World.size_alloc] at h); exact (h.alloc _))
    have Ft : Hid (RowL (w.heap.size + 1) [.int .i64 0, .int .i64 0] ((w.alloc (.cells #[.int .i64 lo, .int .i64 hi] 67)).alloc (.cells #[.int .i64 0, .int .i64 0] 67))) := Lib.hid (by have h := RowL.new (w.alloc (.cells #[.int .i64 lo, .int .i64 hi] 67)) #[.int .i64 0, .int .i64 0] 67; (try simp only [World.size_alloc] at h); exact h)
    have hB0 : Below w.heap.size w ((w.alloc (.cells #[.int .i64 lo, .int .i64 hi] 67)).alloc (.cells #[.int .i64 0, .int .i64 0] 67)) := by (repeat first | with_reducible exact Below.refl _ _ | (with_reducible refine Below.alloc ?_ ?_ _; rotate_left; exact (by first | omega | (simp; done))))
    have sW0 : w.heap.size + 1 < ((w.alloc (.cells #[.int .i64 lo, .int .i64 hi] 67)).alloc (.cells #[.int .i64 0, .int .i64 0] 67)).heap.size := by simp only [World.size_alloc]; omega
    obtain ⟨W0, hW0⟩ : ∃ W, ((w.alloc (.cells #[.int .i64 lo, .int .i64 hi] 67)).alloc (.cells #[.int .i64 0, .int .i64 0] 67)) = W := ⟨_, rfl⟩
    rw [hW0] at Fr Ft hB0 sW0 ⊢
    clear hW0
    have r0 := Fr.out.cell 0 (.int .i64 lo) rfl
    have r1 := Fr.out.cell 1 (.int .i64 hi) rfl
    have t0 := Ft.out.cell 0 (.int .i64 0) rfl
    have tf0 := Ft.out.mark 0 (by simp)
    have t1 := Ft.out.cell 1 (.int .i64 0) rfl
    have tf1 := Ft.out.mark 1 (by simp)
    go_quiet (fail)
    go_wp2_with (first | ((with_reducible refine (HU.out _).mono ?_); rintro e w7 ⟨rfl, rfl⟩) | ((with_reducible refine (HD.out _).mono ?_); rintro e w7 ⟨rfl, rfl⟩))
    refine (possible_any _ _ _).mono ?_
    rintro e w8 ⟨rfl, hb8⟩
    have hcw8 : Below W0.heap.size W0 w8 := Below.trans (by (repeat first | with_reducible exact Below.refl _ _ | with_reducible refine Below_drewN ?_ _)) hb8
    clear hb8
    clear r0 r1 t0 tf0 t1 tf1
    have Gr := Lib.hid (Fr.out.below hcw8)
    clear Fr
    have Fr := Lib.hid Gr.out
    clear Gr
    have Gt := Lib.hid (Ft.out.below hcw8)
    clear Ft
    have Ft := Lib.hid Gt.out
    clear Gt
    have r0 := Fr.out.cell 0 (.int .i64 lo) rfl
    have r1 := Fr.out.cell 1 (.int .i64 hi) rfl
    have t0 := Ft.out.cell 0 (.int .i64 0) rfl
    have tf0 := Ft.out.mark 0 (by simp)
    have t1 := Ft.out.cell 1 (.int .i64 0) rfl
    have tf1 := Ft.out.mark 1 (by simp)
    have hBw8 := hB0.trans (hcw8.mono hB0.size)
    have hzw8 : w.heap.size + 1 < w8.heap.size := Nat.lt_of_lt_of_le (by assumption) hcw8.size
    clear hcw8
    go_wp2_with fail
    exact bodyPost_ret (resS Tryz.results64 _ _ _ _ _ rfl (by (try simp only [isSome_setCell]); first | assumption | go_simp) (by (try simp only [isSome_setCell]); first | assumption | go_simp)) rfl ⟨rfl, by (repeat first | with_reducible assumption | (with_reducible refine Below.setCell ?_ ?_ _; rotate_left; exact (by (simp; done))))⟩
  rw [if_neg c2]
  have HC := Lib.hid (fun W => contains_any lo hi b W)
  have c3 : n = 0 := by omega
  subst c3
  clear c1 c2 n0 n1
  cases cc : cont lo hi b
  · rw [if_neg (by decide)]
    rw [cc] at HC
    clear cc
    go_enter Tryz.func64, Tryz.ntmps64
    go_upto_region 1 with (fail)
    have Fr : Hid (RowL (w.heap.size) [.int .i64 lo, .int .i64 hi] ((w.alloc (.cells #[.int .i64 lo, .int .i64 hi] 67)).alloc (.cells #[.int .i64 0, .int .i64 0] 67))) := Lib.hid (by have h := RowL.new w #[.int .i64 lo, .int .i64 hi] 67; (try simp only [World.size_alloc] at h); exact (h.alloc _))
    have Ft : Hid (RowL (w.heap.size + 1) [.int .i64 0, .int .i64 0] ((w.alloc (.cells #[.int .i64 lo, .int .i64 hi] 67)).alloc (.cells #[.int .i64 0, .int .i64 0] 67))) := Lib.hid (by have h := RowL.new (w.alloc (.cells #[.int .i64 lo, .int .i64 hi] 67)) #[.int .i64 0, .int .i64 0] 67; (try simp only [World.size_alloc] at h); exact h)
    have hB0 : Below w.heap.size w ((w.alloc (.cells #[.int .i64 lo, .int .i64 hi] 67)).alloc (.cells #[.int .i64 0, .int .i64 0] 67)) := by (repeat first | with_reducible exact Below.refl _ _ | (with_reducible refine Below.alloc ?_ ?_ _; rotate_left; exact (by first | omega | (simp; done))))
    have sW0 : w.heap.size + 1 < ((w.alloc (.cells #[.int .i64 lo, .int .i64 hi] 67)).alloc (.cells #[.int .i64 0, .int .i64 0] 67)).heap.size := by simp only [World.size_alloc]; omega
    obtain ⟨W0, hW0⟩ : ∃ W, ((w.alloc (.cells #[.int .i64 lo, .int .i64 hi] 67)).alloc (.cells #[.int .i64 0, .int .i64 0] 67)) = W := ⟨_, rfl⟩
    rw [hW0] at Fr Ft hB0 sW0 ⊢
    clear hW0
    have r0 := Fr.out.cell 0 (.int .i64 lo) rfl
    have r1 := Fr.out.cell 1 (.int .i64 hi) rfl
    have t0 := Ft.out.cell 0 (.int .i64 0) rfl
    have tf0 := Ft.out.mark 0 (by simp)
    have t1 := Ft.out.cell 1 (.int .i64 0) rfl
    have tf1 := Ft.out.mark 1 (by simp)
    go_quiet (fail)
    go_wp2_with fail
    refine (HC.out _).mono ?_
    rintro e w7 ⟨rfl, hb7⟩
    have hcw7 : Below W0.heap.size W0 w7 := Below.trans (by (repeat first | with_reducible exact Below.refl _ _ | with_reducible refine Below_drewN ?_ _)) hb7
    clear hb7
    clear r0 r1 t0 tf0 t1 tf1
    have Gr := Lib.hid (Fr.out.below hcw7)
    clear Fr
    have Fr := Lib.hid Gr.out
    clear Gr
    have Gt := Lib.hid (Ft.out.below hcw7)
    clear Ft
    have Ft := Lib.hid Gt.out
    clear Gt
    have r0 := Fr.out.cell 0 (.int .i64 lo) rfl
    have r1 := Fr.out.cell 1 (.int .i64 hi) rfl
    have t0 := Ft.out.cell 0 (.int .i64 0) rfl
    have tf0 := Ft.out.mark 0 (by simp)
    have t1 := Ft.out.cell 1 (.int .i64 0) rfl
    have tf1 := Ft.out.mark 1 (by simp)
    have hBw7 := hB0.trans (hcw7.mono hB0.size)
    have hzw7 : w.heap.size + 1 < w7.heap.size := Nat.lt_of_lt_of_le (by assumption) hcw7.size
    clear hcw7
    go_wp2_with fail
    refine (possible_any _ _ _).mono ?_
    rintro e w8 ⟨rfl, hb8⟩
    have hcw8 : Below w7.heap.size w7 w8 := Below.trans (by (repeat with_reducible exact Below.refl _ _)) hb8
    clear hb8
    clear r0 r1 t0 tf0 t1 tf1
    have Gr := Lib.hid (Fr.out.below hcw8)
    clear Fr
    have Fr := Lib.hid Gr.out
    clear Gr
    have Gt := Lib.hid (Ft.out.below hcw8)
    clear Ft
    have Ft := Lib.hid Gt.out
    clear Gt
    have r0 := Fr.out.cell 0 (.int .i64 lo) rfl
    have r1 := Fr.out.cell 1 (.int .i64 hi) rfl
    have t0 := Ft.out.cell 0 (.int .i64 0) rfl
    have tf0 := Ft.out.mark 0 (by simp)
    have t1 := Ft.out.cell 1 (.int .i64 0) rfl
    have tf1 := Ft.out.mark 1 (by simp)
    have hBw8 := hBw7.trans (hcw8.mono hBw7.size)
    have hzw8 : w.heap.size + 1 < w8.heap.size := Nat.lt_of_lt_of_le (by assumption) hcw8.size
    clear hcw8
    go_wp2_with fail
    exact bodyPost_ret (resS Tryz.results64 _ _ _ _ _ rfl (by (try simp only [isSome_setCell]); first | assumption | go_simp) (by (try simp only [isSome_setCell]); first | assumption | go_simp)) rfl ⟨rfl, by (repeat first | with_reducible assumption | (with_reducible refine Below.setCell ?_ ?_ _; rotate_left; exact (by (simp; done))))⟩
  · rw [if_pos rfl]
    rw [cc] at HC
    clear cc
    go_enter Tryz.func64, Tryz.ntmps64
    go_upto_region 1 with (fail)
    have Fr : Hid (RowL (w.heap.size) [.int .i64 lo, .int .i64 hi] ((w.alloc (.cells #[.int .i64 lo, .int .i64 hi] 67)).alloc (.cells #[.int .i64 0, .int .i64 0] 67))) := Lib.hid (by have h := RowL.new w #[.int .i64 lo, .int .i64 hi] 67; (try simp only [World.size_alloc] at h); exact (h.alloc _))
    have Ft : Hid (RowL (w.heap.size + 1) [.int .i64 0, .int .i64 0] ((w.alloc (.cells #[.int .i64 lo, .int .i64 hi] 67)).alloc (.cells #[.int .i64 0, .int .i64 0] 67))) := Lib.hid (by have h := RowL.new (w.alloc (.cells #[.int .i64 lo, .int .i64 hi] 67)) #[.int .i64 0, .int .i64 0] 67; (try simp only [World.size_alloc] at h); exact h)
    have hB0 : Below w.heap.size w ((w.alloc (.cells #[.int .i64 lo, .int .i64 hi] 67)).alloc (.cells #[.int .i64 0, .int .i64 0] 67)) := by (repeat first | with_reducible exact Below.refl _ _ | (with_reducible refine Below.alloc ?_ ?_ _; rotate_left; exact (by first | omega | (simp; done))))
    have sW0 : w.heap.size + 1 < ((w.alloc (.cells #[.int .i64 lo, .int .i64 hi] 67)).alloc (.cells #[.int .i64 0, .int .i64 0] 67)).heap.size := by simp only [World.size_alloc]; omega
    obtain ⟨W0, hW0⟩ : ∃ W, ((w.alloc (.cells #[.int .i64 lo, .int .i64 hi] 67)).alloc (.cells #[.int .i64 0, .int .i64 0] 67)) = W := ⟨_, rfl⟩
    rw [hW0] at Fr Ft hB0 sW0 ⊢
    clear hW0
    have r0 := Fr.out.cell 0 (.int .i64 lo) rfl
    have r1 := Fr.out.cell 1 (.int .i64 hi) rfl
    have t0 := Ft.out.cell 0 (.int .i64 0) rfl
    have tf0 := Ft.out.mark 0 (by simp)
    have t1 := Ft.out.cell 1 (.int .i64 0) rfl
    have tf1 := Ft.out.mark 1 (by simp)
    go_quiet (fail)
    go_wp2_with fail
    refine (HC.out _).mono ?_
    rintro e w7 ⟨rfl, hb7⟩
    have hcw7 : Below W0.heap.size W0 w7 := Below.trans (by (repeat first | with_reducible exact Below.refl _ _ | with_reducible refine Below_drewN ?_ _)) hb7
    clear hb7
    clear r0 r1 t0 tf0 t1 tf1
    have Gr := Lib.hid (Fr.out.below hcw7)
    clear Fr
    have Fr := Lib.hid Gr.out
    clear Gr
    have Gt := Lib.hid (Ft.out.below hcw7)
    clear Ft
    have Ft := Lib.hid Gt.out
    clear Gt
    have r0 := Fr.out.cell 0 (.int .i64 lo) rfl
    have r1 := Fr.out.cell 1 (.int .i64 hi) rfl
    have t0 := Ft.out.cell 0 (.int .i64 0) rfl
    have tf0 := Ft.out.mark 0 (by simp)
    have t1 := Ft.out.cell 1 (.int .i64 0) rfl
    have tf1 := Ft.out.mark 1 (by simp)
    have hBw7 := hB0.trans (hcw7.mono hB0.size)
    have hzw7 : w.heap.size + 1 < w7.heap.size := Nat.lt_of_lt_of_le (by assumption) hcw7.size
    clear hcw7
    go_wp2_with fail
    refine (possible_any _ _ _).mono ?_
    rintro e w8 ⟨rfl, hb8⟩
    have hcw8 : Below w7.heap.size w7 w8 := Below.trans (by (repeat with_reducible exact Below.refl _ _)) hb8
    clear hb8
    clear r0 r1 t0 tf0 t1 tf1
    have Gr := Lib.hid (Fr.out.below hcw8)
    clear Fr
    have Fr := Lib.hid Gr.out
    clear Gr
    have Gt := Lib.hid (Ft.out.below hcw8)
    clear Ft
    have Ft := Lib.hid Gt.out
    clear Gt
    have r0 := Fr.out.cell 0 (.int .i64 lo) rfl
    have r1 := Fr.out.cell 1 (.int .i64 hi) rfl
    have t0 := Ft.out.cell 0 (.int .i64 0) rfl
    have tf0 := Ft.out.mark 0 (by simp)
    have t1 := Ft.out.cell 1 (.int .i64 0) rfl
    have tf1 := Ft.out.mark 1 (by simp)
    have hBw8 := hBw7.trans (hcw8.mono hBw7.size)
    have hzw8 : w.heap.size + 1 < w8.heap.size := Nat.lt_of_lt_of_le (by assumption) hcw8.size
    clear hcw8
    go_wp2_with fail
    exact bodyPost_ret (resS Tryz.results64 _ _ _ _ _ rfl (by (try simp only [isSome_setCell]); first | assumption | go_simp) (by (try simp only [isSome_setCell]); first | assumption | go_simp)) rfl ⟨rfl, by (repeat first | with_reducible assumption | (with_reducible refine Below.setCell ?_ ?_ _; rotate_left; exact (by (simp; done))))⟩
end
section
open Go.RowKit Go.Shelf
def bgL (M : MachD) (C : CurD) : List Int := (List.range M.sensors.length).map fun (k : Nat) => (backL M C (k : Int)).1
theorem bgL_get {M : MachD} {C : CurD} {k : Nat} (h : k < M.sensors.length) : (bgL M C)[k]? = some (backL M C (k : Int)).1 := by
  unfold bgL
  simp [h]
set_option maxRecDepth 100000 in
set_option maxHeartbeats 8000000 in
theorem backgrounds_any (R : MachR) (M : MachD) (Qr : CurR) (Cd : CurD) (w : World) (hM : IsM w R M) (hC : IsC w Qr Cd) (hl : R.ld ≤ 1000) :
    Calls Tryz.prog 35 #[.agg (machCells R M), Qr.v] w (MadeAt R.ld ((bgL M Cd).map (Value.int .i64)) w) := by
  obtain ⟨bf, hbf⟩ : ∃ bf : Nat → Int × Int, ∀ k : Nat, backL M Cd (k : Int) = bf k := ⟨fun k => backL M Cd (k : Int), fun _ => rfl⟩
  have HB0 := Lib.hid (fun (k : Nat) (hk : k < R.ld) W (hb : Below w.heap.size w W) => (by have h := background_any R M Qr Cd (k : Int) W (hM.below hb) (hC.below hb) (by omega) (by omega); rw [hbf k] at h; exact h : Calls Tryz.prog 66 #[.agg (machCells R M), Qr.v, .int .i64 (k : Int)] W (Ret (.tuple #[.int .i64 (bf k).1, .int .i64 (bf k).2]) W)))
  have HG : Hid (∀ k : Nat, k < R.ld → ((bgL M Cd).map (Value.int .i64))[k]? = some (.int .i64 (bf k).1)) := Lib.hid (fun k hk => by rw [← hbf k, List.getElem?_map, bgL_get (by rw [hM.sensors.1]; exact hk)]; rfl)
  have HL : Hid (((bgL M Cd).map (Value.int .i64)).length = R.ld) := Lib.hid (by rw [List.length_map]; unfold bgL; rw [List.length_map, List.length_range, hM.sensors.1])
  clear hM hC hbf
  generalize (bgL M Cd).map (Value.int .i64) = T at *
  obtain ⟨A, B, Cl, D, la, ca, lb, cb, lc, cl, ld, cd⟩ := R
  obtain ⟨name, coils, shells, limits, ⟨r, z, nr, nz, step⟩, sensors⟩ := M
  obtain ⟨A1, B1, C1, na, qa, nb, qb, nc, qc⟩ := Qr
  dsimp only [CurR.v] at *
  have hmk := run_make_row' (P := Tryz.prog) 30 3 (.int .i64 0) 8 Tryz.underlying30 infoI rfl .i64 .i64 ld (by omega) (by omega)
  show Calls Tryz.prog 35 #[.agg #[.string name, .slice A la ca, .slice B lb cb, .slice Cl lc cl, .int .i64 r, .int .i64 z, .int .i64 nr, .int .i64 nz, .int .i64 step, .slice D ld cd], .agg #[.slice A1 na qa, .slice B1 nb qb, .slice C1 nc qc]] w _
  go_enter Tryz.func35, Tryz.ntmps35
  go_upto_region 1 with (fail)
  have Fm : Hid (RowL (w.heap.size) [.string name, .slice A la ca, .slice B lb cb, .slice Cl lc cl, .int .i64 r, .int .i64 z, .int .i64 nr, .int .i64 nz, .int .i64 step, .slice D ld cd] ((w.alloc (.cells #[.string name, .slice A la ca, .slice B lb cb, .slice Cl lc cl, .int .i64 r, .int .i64 z, .int .i64 nr, .int .i64 nz, .int .i64 step, .slice D ld cd] 29)).alloc (.cells #[.slice A1 na qa, .slice B1 nb qb, .slice C1 nc qc] 32))) := Lib.hid (by have h := RowL.new w #[.string name, .slice A la ca, .slice B lb cb, .slice Cl lc cl, .int .i64 r, .int .i64 z, .int .i64 nr, .int .i64 nz, .int .i64 step, .slice D ld cd] 29; (try simp only [World.size_alloc] at h); exact (h.alloc _))
  have Fc : Hid (RowL (w.heap.size + 1) [.slice A1 na qa, .slice B1 nb qb, .slice C1 nc qc] ((w.alloc (.cells #[.string name, .slice A la ca, .slice B lb cb, .slice Cl lc cl, .int .i64 r, .int .i64 z, .int .i64 nr, .int .i64 nz, .int .i64 step, .slice D ld cd] 29)).alloc (.cells #[.slice A1 na qa, .slice B1 nb qb, .slice C1 nc qc] 32))) := Lib.hid (by have h := RowL.new (w.alloc (.cells #[.string name, .slice A la ca, .slice B lb cb, .slice Cl lc cl, .int .i64 r, .int .i64 z, .int .i64 nr, .int .i64 nz, .int .i64 step, .slice D ld cd] 29)) #[.slice A1 na qa, .slice B1 nb qb, .slice C1 nc qc] 32; (try simp only [World.size_alloc] at h); exact h)
  have hB0 : Below w.heap.size w ((w.alloc (.cells #[.string name, .slice A la ca, .slice B lb cb, .slice Cl lc cl, .int .i64 r, .int .i64 z, .int .i64 nr, .int .i64 nz, .int .i64 step, .slice D ld cd] 29)).alloc (.cells #[.slice A1 na qa, .slice B1 nb qb, .slice C1 nc qc] 32)) := by (repeat first | with_reducible exact Below.refl _ _ | (with_reducible refine Below.alloc ?_ ?_ _; rotate_left; exact (by first | omega | (simp; done))))
  have sW0 : w.heap.size + 1 < ((w.alloc (.cells #[.string name, .slice A la ca, .slice B lb cb, .slice Cl lc cl, .int .i64 r, .int .i64 z, .int .i64 nr, .int .i64 nz, .int .i64 step, .slice D ld cd] 29)).alloc (.cells #[.slice A1 na qa, .slice B1 nb qb, .slice C1 nc qc] 32)).heap.size := by simp only [World.size_alloc]; omega
  obtain ⟨W0, hW0⟩ : ∃ W, ((w.alloc (.cells #[.string name, .slice A la ca, .slice B lb cb, .slice Cl lc cl, .int .i64 r, .int .i64 z, .int .i64 nr, .int .i64 nz, .int .i64 step, .slice D ld cd] 29)).alloc (.cells #[.slice A1 na qa, .slice B1 nb qb, .slice C1 nc qc] 32)) = W := ⟨_, rfl⟩
  rw [hW0] at Fm Fc hB0 sW0 ⊢
  clear hW0
  have m0 := Fm.out.cell 0 (.string name) rfl
  have m1 := Fm.out.cell 1 (.slice A la ca) rfl
  have m2 := Fm.out.cell 2 (.slice B lb cb) rfl
  have m3 := Fm.out.cell 3 (.slice Cl lc cl) rfl
  have m4 := Fm.out.cell 4 (.int .i64 r) rfl
  have m5 := Fm.out.cell 5 (.int .i64 z) rfl
  have m6 := Fm.out.cell 6 (.int .i64 nr) rfl
  have m7 := Fm.out.cell 7 (.int .i64 nz) rfl
  have m8 := Fm.out.cell 8 (.int .i64 step) rfl
  have m9 := Fm.out.cell 9 (.slice D ld cd) rfl
  have c0 := Fc.out.cell 0 (.slice A1 na qa) rfl
  have c1 := Fc.out.cell 1 (.slice B1 nb qb) rfl
  have c2 := Fc.out.cell 2 (.slice C1 nc qc) rfl
  go_upto_region 2 with (fail)
  have hR0 : Hid (RowL W0.heap.size (T.take 0 ++ List.replicate (ld - 0) (.int .i64 0)) (W0.alloc (.cells (madeCells #[.int .i64 0] ld) 3))) := Lib.hid (by rw [fill_none]; exact (ZeroL.new W0 ld 3 (by omega)).row)
  have hb1 : Below W0.heap.size W0 (W0.alloc (.cells (madeCells #[.int .i64 0] ld) 3)) := by (repeat first | with_reducible exact Below.refl _ _ | (with_reducible refine Below.alloc ?_ ?_ _; rotate_left; exact (by omega)))
  obtain ⟨W1, hW1⟩ : ∃ W, W0.alloc (.cells (madeCells #[.int .i64 0] ld) 3) = W := ⟨_, rfl⟩
  rw [hW1] at hR0 hb1 ⊢
  clear hW1 hmk m0 m1 m2 m3 m4 m5 m6 m7 m8 m9 c0 c1 c2
  go_wp2_with fail
  go_loopw [13] (fun i wr => ∃ j : Nat, j ≤ ld ∧ i = .int .i64 j ∧ Hid (RowL W0.heap.size (T.take j ++ List.replicate (ld - j) (.int .i64 0)) wr) ∧ Below W0.heap.size W0 wr) (fun i _ => ld - (intOf i).toNat)
  case atStart => exact ⟨0, Nat.zero_le _, rfl, hR0, hb1⟩
  case round =>
    obtain ⟨j, hj, rfl, hR, hB⟩ := hrel
    have sz := hB.size
    by_cases hlt : j < ld
    · obtain ⟨x, hx⟩ : ∃ x, (bf j).1 = x := ⟨_, rfl⟩
      obtain ⟨y, hy⟩ : ∃ y, (bf j).2 = y := ⟨_, rfl⟩
      have HT := Lib.hid (HG.out j hlt)
      have HC := Lib.hid (HB0.out j hlt)
      rw [hx] at HT HC
      rw [hy] at HC
      clear hx hy
      have m0 := (Fm.out.below hB).cell 0 (.string name) rfl
      have m1 := (Fm.out.below hB).cell 1 (.slice A la ca) rfl
      have m2 := (Fm.out.below hB).cell 2 (.slice B lb cb) rfl
      have m3 := (Fm.out.below hB).cell 3 (.slice Cl lc cl) rfl
      have m4 := (Fm.out.below hB).cell 4 (.int .i64 r) rfl
      have m5 := (Fm.out.below hB).cell 5 (.int .i64 z) rfl
      have m6 := (Fm.out.below hB).cell 6 (.int .i64 nr) rfl
      have m7 := (Fm.out.below hB).cell 7 (.int .i64 nz) rfl
      have m8 := (Fm.out.below hB).cell 8 (.int .i64 step) rfl
      have m9 := (Fm.out.below hB).cell 9 (.slice D ld cd) rfl
      have c0 := (Fc.out.below hB).cell 0 (.slice A1 na qa) rfl
      have c1 := (Fc.out.below hB).cell 1 (.slice B1 nb qb) rfl
      have c2 := (Fc.out.below hB).cell 2 (.slice C1 nc qc) rfl
      have HC2 := Lib.hid (show ∀ W, Below w.heap.size w W → Calls Tryz.prog 66 #[.agg #[.string name, .slice A la ca, .slice B lb cb, .slice Cl lc cl, .int .i64 r, .int .i64 z, .int .i64 nr, .int .i64 nz, .int .i64 step, .slice D ld cd], .agg #[.slice A1 na qa, .slice B1 nb qb, .slice C1 nc qc], .int .i64 j] W (Ret (.tuple #[.int .i64 x, .int .i64 y]) W) from HC.out)
      have jn : ((j : Int)).toNat = j := by omega
      have j0 : (0 : Int) ≤ j := by omega
      clear HC hR0 hb1
      go_wp2_with fail
      refine (HC2.out _ (hB0.trans (hB.mono hB0.size))).mono ?_
      rintro e w2 ⟨rfl, hb⟩
      have hR2 := hR.out.below hb
      have r0 := hR2.cell j (.int .i64 0) (fill_get T ld j _ HL.out hlt)
      have rf := hR2.mark j (by rw [fill_len T ld j _ HL.out (by omega)]; exact hlt)
      have HR3 := Lib.hid (hR2.fill HL.out hlt HT.out)
      have hB2 := hB.trans (hb.mono hB.size)
      have sz2 := hb.size
      have hbk : W0.heap.size < w2.heap.size := hR2.lt
      clear hR2 hb m0 m1 m2 m3 m4 m5 m6 m7 m8 m9 c0 c1 c2 HC2
      go_wp2_with fail
      go_roundw
      case rel => exact ⟨j + 1, by omega, by go_num, HR3, by (repeat first | with_reducible assumption | (with_reducible refine Below.setCell ?_ ?_ _; rotate_left; exact (by (simp; done))))⟩
      case measure => simp [intOf]; omega
    · obtain rfl : j = ld := by omega
      have hR2 := hR.out
      rw [fill_all T j _ HL.out] at hR2
      have HR3 := Lib.hid hR2
      clear hR hR0 hb1 hR2
      go_wp2_with fail
      go_ret
      exact ⟨W0.heap.size, rfl, by omega, HR3.out, hB0.trans (hB.mono hB0.size)⟩
end
section
open Go.RowKit Go.Shelf
theorem toList_made2 (z : Value) (n : Nat) : (madeCells #[z, z] n).toList = List.replicate n z := by
  apply List.ext_getElem?
  intro j
  by_cases hj : j < n
  · rcases Nat.mod_two_eq_zero_or_one j with h | h <;> simp [madeCells, hj, h, List.getElem?_replicate]
  · simp [madeCells, hj, List.getElem?_replicate]
theorem RowL.made2 (W : World) (z : Value) (n : Nat) (t : TypeId) : RowL W.heap.size (List.replicate n z) (W.alloc (.cells (madeCells #[z, z] n) t)) := by
  have h := RowL.new W (madeCells #[z, z] n) t
  rwa [toList_made2] at h
theorem infoS : (Tryz.prog.info? 67).map (fun i => (i.zero, i.size, i.bytes)) = some (some (.agg #[.int .i64 0, .int .i64 0]), 2, 16) := by kernel_rfl
theorem run_make_span (t : TypeId) (ht : Tryz.prog.underlying t = some (.slice 67)) (n : Nat) (hn : n ≤ 100000) (w : World) :
    (Instr.makeSlice t (.int .i64 (n : Int)) (.int .i64 (n : Int))).run Tryz.prog w = .ok (.slice (some ⟨w.heap.size, 0, none⟩) n n) (w.alloc (.cells (madeCells #[.int .i64 0, .int .i64 0] (n * 2)) 67)) := by
  obtain ⟨i, hi, hzz⟩ := Option.map_eq_some_iff.1 infoS
  simp only [Prod.mk.injEq] at hzz
  obtain ⟨hz, hs, hb⟩ := hzz
  have h := run_make (P := Tryz.prog) w t 67 i _ ht hi hz .i64 .i64 n n (by omega) (Int.le_refl _) (by rw [hb]; omega) (by omega)
  simp only [Int.toNat_natCast, hs] at h
  exact h
theorem flat2 : ∀ (l : List SpanD) (j : Nat) (x : SpanD), l[j]? = some x → (l.flatMap SpanD.cells)[j * 2]? = some (.int .i64 x.lo) ∧ (l.flatMap SpanD.cells)[j * 2 + 1]? = some (.int .i64 x.hi)
  | [], j, x, h => by simp at h
  | y :: r, 0, x, h => by
    obtain rfl : y = x := by simpa using h
    simp [SpanD.cells]
  | y :: r, j + 1, x, h => by
    have h' : r[j]? = some x := by simpa using h
    obtain ⟨a, b⟩ := flat2 r j x h'
    rw [List.flatMap_cons, show (j + 1) * 2 = (j * 2) + 2 by omega]
    refine ⟨?_, ?_⟩
    · rw [List.getElem?_append_right (by simp [SpanD.cells])]; simpa [SpanD.cells] using a
    · rw [List.getElem?_append_right (by simp [SpanD.cells])]; simpa [SpanD.cells] using b
theorem flat2_len : ∀ l : List SpanD, (l.flatMap SpanD.cells).length = l.length * 2
  | [] => rfl
  | y :: r => by rw [List.flatMap_cons, List.length_append, flat2_len r]; simp [SpanD.cells]; omega
theorem backL_bd (M : MachD) (C : CurD) (s : Int) : -50000000000000000 ≤ (backL M C s).1 ∧ (backL M C s).1 ≤ 50000000000000000 := by
  unfold backL
  cases hv : validC M C
  · rw [if_neg (by decide)]; dsimp only; omega
  · rw [if_pos rfl]
    have hd := dark_fit (fit2_iff.1 hv)
    unfold exactL
    rw [fit2_iff.2 hd, if_pos rfl]
    split
    · split
      · exact sensP_bd (small_of hd) _
      · dsimp only; omega
    · dsimp only; omega
theorem respL_val {M : MachD} (h : checkC M = 0) {s cell : Int} (hs : wthn s 0 ((M.sensors.length : Int) - 1) = true) (hc : wthn cell 0 (M.grid.nr * M.grid.nz - 1) = true) {x : SensorD} (hx : M.sensors[s.toNat]? = some x) :
    respL M s cell = (sensOne x (cellR M.grid cell) (cellZ M.grid cell), 0) := by
  have hcl : cellL M cell = (cellR M.grid cell, cellZ M.grid cell, 0) := by
    unfold cellL
    rw [if_pos h, if_pos hc]
  have b := wthn_iff.1 hc
  unfold respL
  rw [hcl, if_pos rfl, hs, if_pos rfl, hx]
  dsimp only
  rw [alone_exact h (List.mem_of_getElem? hx) (cell_near h (by omega) (by omega))]
theorem respL_bd (M : MachD) (s cell : Int) : -250000 ≤ (respL M s cell).1 ∧ (respL M s cell).1 ≤ 250000 := by
  by_cases h : checkC M = 0
  · cases hs : wthn s 0 ((M.sensors.length : Int) - 1)
    · unfold respL; rw [hs]; split <;> simp
    · cases hc : wthn cell 0 (M.grid.nr * M.grid.nz - 1)
      · unfold respL cellL; rw [if_pos h, hc]; simp
      · have c := wthn_iff.1 hs
        obtain ⟨x, hx⟩ : ∃ x, M.sensors[s.toNat]? = some x := ⟨_, List.getElem?_eq_getElem (by omega)⟩
        rw [respL_val h hs hc hx]
        exact sensOne_bd _ _ _
  · unfold respL cellL; rw [if_neg h]; simp
def clF (M : MachD) (bs : List Int) (zs : List SpanD) (cell : Int) (k : Nat) : SpanD :=
  ⟨(allowL (zs.getD k ⟨0, 0⟩).lo (zs.getD k ⟨0, 0⟩).hi (bs.getD k 0) (respL M k cell).1).1, (allowL (zs.getD k ⟨0, 0⟩).lo (zs.getD k ⟨0, 0⟩).hi (bs.getD k 0) (respL M k cell).1).2⟩
def clL (M : MachD) (bs : List Int) (zs : List SpanD) (cell : Int) : List SpanD := (List.range M.sensors.length).map (clF M bs zs cell)
theorem clL_get {M : MachD} {bs : List Int} {zs : List SpanD} {cell : Int} {k : Nat} (h : k < M.sensors.length) : (clL M bs zs cell)[k]? = some (clF M bs zs cell k) := by
  unfold clL
  simp [h]
theorem clL_len (M : MachD) (bs : List Int) (zs : List SpanD) (cell : Int) : (clL M bs zs cell).length = M.sensors.length := by
  unfold clL; simp
end
section
open Go.RowKit Go.Shelf
set_option maxRecDepth 100000 in
set_option maxHeartbeats 8000000 in
theorem claimsIn_any (R : MachR) (M : MachD) (P F : Option Addr) (np cp nf cf : Nat) (bs : List Int) (zs : List SpanD) (cell : Int) (w : World) (hM : IsM w R M) (hB : IsT 1 intCells w P np bs) (hF : IsT 2 SpanD.cells w F nf zs) (hc : checkC M = 0) (hcell : wthn cell 0 (M.grid.nr * M.grid.nz - 1) = true)
    (hnb : np = R.ld) (hnf : nf = R.ld) (hbs : ∀ b ∈ bs, -50000000000000000 ≤ b ∧ b ≤ 50000000000000000) (hzs : ∀ s ∈ zs, vld s.lo s.hi = true) :
    Calls Tryz.prog 34 #[.agg (machCells R M), .slice P np cp, .slice F nf cf, .int .i64 cell] w (MadeAt R.ld ((clL M bs zs cell).flatMap SpanD.cells) w) := by
  have hl := hM.sensors.1
  have hb1 := hB.1
  have hf1 := hF.1
  have hld : R.ld ≤ 1000 := by have := (sound_of hc).sensors.1; omega
  have hlc : 1 ≤ R.lc := by have := hM.limits.1; have := limits_pos hc; omega
  have hcl : cellL M cell = (cellR M.grid cell, cellZ M.grid cell, 0) := by
    unfold cellL
    rw [if_pos hc, if_pos hcell]
  have HCE := Lib.hid (fun W (hb : Below w.heap.size w W) => (by have h := mcell9_any R M cell W (hM.below hb); rw [hcl] at h; exact h : Calls Tryz.prog 63 #[.agg (machCells R M), .int .i64 cell] W (Ret (.tuple #[.agg #[.int .i64 (cellR M.grid cell), .int .i64 (cellZ M.grid cell)], .int .i64 0]) W)))
  obtain ⟨rf, hrf⟩ : ∃ rf : Nat → Int, ∀ k : Nat, (respL M (k : Int) cell).1 = rf k := ⟨fun k => (respL M (k : Int) cell).1, fun _ => rfl⟩
  have HRA := Lib.hid (fun (k : Nat) (hk : k < R.ld) W (hb : Below w.heap.size w W) => (by
    obtain ⟨x, hx⟩ : ∃ x, M.sensors[k]? = some x := ⟨_, List.getElem?_eq_getElem (by omega)⟩
    have h := respAt_any R M k x (cellR M.grid cell) (cellZ M.grid cell) W (hM.below hb) hx hlc
    have e : (exactL (aloneM M x (cellR M.grid cell) (cellZ M.grid cell)) oneC4 0).1 = rf k := by
      have c := wthn_iff.1 hcell
      rw [alone_exact hc (List.mem_of_getElem? hx) (cell_near hc (by omega) (by omega)), ← hrf, respL_val hc (wthn_iff.2 (by omega)) hcell (by simpa using hx)]
    rw [e] at h
    exact h : Calls Tryz.prog 65 #[.agg (machCells R M), .int .i64 (k : Int), .agg #[.int .i64 (cellR M.grid cell), .int .i64 (cellZ M.grid cell)]] W (Ret (.int .i64 (rf k)) W)))
  have HRB : Hid (∀ k : Nat, -250000 ≤ rf k ∧ rf k ≤ 250000) := Lib.hid (fun k => by rw [← hrf]; exact respL_bd M k cell)
  have HT : Hid (∀ (k : Nat) (s : SpanD) (b : Int), zs[k]? = some s → bs[k]? = some b → ((clL M bs zs cell).flatMap SpanD.cells)[k * 2]? = some (.int .i64 (allowL s.lo s.hi b (rf k)).1) ∧ ((clL M bs zs cell).flatMap SpanD.cells)[k * 2 + 1]? = some (.int .i64 (allowL s.lo s.hi b (rf k)).2)) := Lib.hid (fun k s b h1 h2 => by
    have hk : k < M.sensors.length := by have := (List.getElem?_eq_some_iff.1 h1).1; omega
    have h := flat2 _ k _ (clL_get (M := M) (bs := bs) (zs := zs) (cell := cell) hk)
    unfold clF at h
    simp only [List.getD_eq_getElem?_getD, h1, h2, Option.getD_some, hrf] at h
    exact h)
  have HL : Hid (((clL M bs zs cell).flatMap SpanD.cells).length = R.ld * 2) := Lib.hid (by rw [flat2_len, clL_len, hl])
  have HBs := Lib.hid hbs
  have HZs := Lib.hid hzs
  have HIB := Lib.hid hB
  have HIF := Lib.hid hF
  subst hnb hnf
  clear hM hB hF hc hcell hbs hzs hcl hrf hl hlc
  generalize (clL M bs zs cell).flatMap SpanD.cells = T at *
  generalize cellR M.grid cell = X at *
  generalize cellZ M.grid cell = Y at *
  obtain ⟨A, B, Cl, D, la, ca, lb, cb, lc, cl, ld, cd⟩ := R
  obtain ⟨name, coils, shells, limits, ⟨r, z, nr, nz, step⟩, sensors⟩ := M
  dsimp only at *
  have HCE2 := Lib.hid (show ∀ W, Below w.heap.size w W → Calls Tryz.prog 63 #[.agg #[.string name, .slice A la ca, .slice B lb cb, .slice Cl lc cl, .int .i64 r, .int .i64 z, .int .i64 nr, .int .i64 nz, .int .i64 step, .slice D ld cd], .int .i64 cell] W (Ret (.tuple #[.agg #[.int .i64 X, .int .i64 Y], .int .i64 0]) W) from HCE.out)
  have HRA2 := Lib.hid (show ∀ k : Nat, k < ld → ∀ W, Below w.heap.size w W → Calls Tryz.prog 65 #[.agg #[.string name, .slice A la ca, .slice B lb cb, .slice Cl lc cl, .int .i64 r, .int .i64 z, .int .i64 nr, .int .i64 nz, .int .i64 step, .slice D ld cd], .int .i64 k, .agg #[.int .i64 X, .int .i64 Y]] W (Ret (.int .i64 (rf k)) W) from HRA.out)
  clear HCE HRA
  have hmk := run_make_span 81 Tryz.underlying81 ld (by omega)
  show Calls Tryz.prog 34 #[.agg #[.string name, .slice A la ca, .slice B lb cb, .slice Cl lc cl, .int .i64 r, .int .i64 z, .int .i64 nr, .int .i64 nz, .int .i64 step, .slice D ld cd], .slice P ld cp, .slice F ld cf, .int .i64 cell] w _
  go_enter Tryz.func34, Tryz.ntmps34
  go_upto_region 1 with (fail)
  have Fm : Hid (RowL (w.heap.size) [.string name, .slice A la ca, .slice B lb cb, .slice Cl lc cl, .int .i64 r, .int .i64 z, .int .i64 nr, .int .i64 nz, .int .i64 step, .slice D ld cd] (w.alloc (.cells #[.string name, .slice A la ca, .slice B lb cb, .slice Cl lc cl, .int .i64 r, .int .i64 z, .int .i64 nr, .int .i64 nz, .int .i64 step, .slice D ld cd] 29))) := Lib.hid (by have h := RowL.new w #[.string name, .slice A la ca, .slice B lb cb, .slice Cl lc cl, .int .i64 r, .int .i64 z, .int .i64 nr, .int .i64 nz, .int .i64 step, .slice D ld cd] 29; (try simp only [World.size_alloc] at h); exact h)
  have hB0 : Below w.heap.size w (w.alloc (.cells #[.string name, .slice A la ca, .slice B lb cb, .slice Cl lc cl, .int .i64 r, .int .i64 z, .int .i64 nr, .int .i64 nz, .int .i64 step, .slice D ld cd] 29)) := by (with_reducible repeat first | exact Below.refl _ _ | assumption | ((first | refine Below.setCell ?_ ?_ _ | refine Below.alloc ?_ ?_ _); rotate_left; exact (by first | omega | (simp; done) | (simp; omega))) | refine Below.drew ?_ | refine Below_drewN ?_ _)
  have sW0 : w.heap.size < (w.alloc (.cells #[.string name, .slice A la ca, .slice B lb cb, .slice Cl lc cl, .int .i64 r, .int .i64 z, .int .i64 nr, .int .i64 nz, .int .i64 step, .slice D ld cd] 29)).heap.size := by simp only [World.size_alloc]; omega
  obtain ⟨W0, hW0⟩ : ∃ W, (w.alloc (.cells #[.string name, .slice A la ca, .slice B lb cb, .slice Cl lc cl, .int .i64 r, .int .i64 z, .int .i64 nr, .int .i64 nz, .int .i64 step, .slice D ld cd] 29)) = W := ⟨_, rfl⟩
  rw [hW0] at Fm hB0 sW0 ⊢
  clear hW0
  have m0 := Fm.out.cell 0 (.string name) rfl
  have m1 := Fm.out.cell 1 (.slice A la ca) rfl
  have m2 := Fm.out.cell 2 (.slice B lb cb) rfl
  have m3 := Fm.out.cell 3 (.slice Cl lc cl) rfl
  have m4 := Fm.out.cell 4 (.int .i64 r) rfl
  have m5 := Fm.out.cell 5 (.int .i64 z) rfl
  have m6 := Fm.out.cell 6 (.int .i64 nr) rfl
  have m7 := Fm.out.cell 7 (.int .i64 nz) rfl
  have m8 := Fm.out.cell 8 (.int .i64 step) rfl
  have m9 := Fm.out.cell 9 (.slice D ld cd) rfl
  go_wp2_with fail
  refine (HCE2.out _ hB0).mono ?_
  rintro e w1 ⟨rfl, hb⟩
  clear m0 m1 m2 m3 m4 m5 m6 m7 m8 m9
  have Gm := Lib.hid (Fm.out.below hb)
  clear Fm
  have Fm := Lib.hid Gm.out
  clear Gm
  have m0 := Fm.out.cell 0 (.string name) rfl
  have m1 := Fm.out.cell 1 (.slice A la ca) rfl
  have m2 := Fm.out.cell 2 (.slice B lb cb) rfl
  have m3 := Fm.out.cell 3 (.slice Cl lc cl) rfl
  have m4 := Fm.out.cell 4 (.int .i64 r) rfl
  have m5 := Fm.out.cell 5 (.int .i64 z) rfl
  have m6 := Fm.out.cell 6 (.int .i64 nr) rfl
  have m7 := Fm.out.cell 7 (.int .i64 nz) rfl
  have m8 := Fm.out.cell 8 (.int .i64 step) rfl
  have m9 := Fm.out.cell 9 (.slice D ld cd) rfl
  have hB1 := hB0.trans (hb.mono hB0.size)
  have hz1 : w.heap.size < w1.heap.size := Nat.lt_of_lt_of_le sW0 hb.size
  clear hb hB0 sW0 HCE2
  go_upto_region 2 with (fail)
  have Fq : Hid (RowL (w1.heap.size) [.int .i64 X, .int .i64 Y] (w1.alloc (.cells #[.int .i64 X, .int .i64 Y] 76))) := Lib.hid (by have h := RowL.new w1 #[.int .i64 X, .int .i64 Y] 76; (try simp only [World.size_alloc] at h); exact h)
  have hb2 : Below w1.heap.size w1 (w1.alloc (.cells #[.int .i64 X, .int .i64 Y] 76)) := by (with_reducible repeat first | exact Below.refl _ _ | assumption | ((first | refine Below.setCell ?_ ?_ _ | refine Below.alloc ?_ ?_ _); rotate_left; exact (by first | omega | (simp; done) | (simp; omega))) | refine Below.drew ?_ | refine Below_drewN ?_ _)
  have sW2 : w1.heap.size < (w1.alloc (.cells #[.int .i64 X, .int .i64 Y] 76)).heap.size := by simp only [World.size_alloc]; omega
  obtain ⟨W2, hW2⟩ : ∃ W, (w1.alloc (.cells #[.int .i64 X, .int .i64 Y] 76)) = W := ⟨_, rfl⟩
  rw [hW2] at Fq hb2 sW2 ⊢
  clear hW2
  clear m0 m1 m2 m3 m4 m5 m6 m7 m8 m9
  have Gm := Lib.hid (Fm.out.below hb2)
  clear Fm
  have Fm := Lib.hid Gm.out
  clear Gm
  have m0 := Fm.out.cell 0 (.string name) rfl
  have m1 := Fm.out.cell 1 (.slice A la ca) rfl
  have m2 := Fm.out.cell 2 (.slice B lb cb) rfl
  have m3 := Fm.out.cell 3 (.slice Cl lc cl) rfl
  have m4 := Fm.out.cell 4 (.int .i64 r) rfl
  have m5 := Fm.out.cell 5 (.int .i64 z) rfl
  have m6 := Fm.out.cell 6 (.int .i64 nr) rfl
  have m7 := Fm.out.cell 7 (.int .i64 nz) rfl
  have m8 := Fm.out.cell 8 (.int .i64 step) rfl
  have m9 := Fm.out.cell 9 (.slice D ld cd) rfl
  have q0 := Fq.out.cell 0 (.int .i64 X) rfl
  have q1 := Fq.out.cell 1 (.int .i64 Y) rfl
  have hB2 := hB1.trans (hb2.mono hB1.size)
  clear hb2
  have hz2 : w.heap.size < W2.heap.size := by omega
  go_upto_region 3 with (fail)
  have hR0 : Hid (RowL W2.heap.size (T.take (0 * 2) ++ List.replicate (ld * 2 - 0 * 2) (.int .i64 0)) (W2.alloc (.cells (madeCells #[.int .i64 0, .int .i64 0] (ld * 2)) 67))) := Lib.hid (by rw [Nat.zero_mul, fill_none]; exact RowL.made2 W2 _ _ _)
  have hb1 : Below W2.heap.size W2 (W2.alloc (.cells (madeCells #[.int .i64 0, .int .i64 0] (ld * 2)) 67)) := by (with_reducible repeat first | exact Below.refl _ _ | assumption | ((first | refine Below.setCell ?_ ?_ _ | refine Below.alloc ?_ ?_ _); rotate_left; exact (by first | omega | (simp; done) | (simp; omega))) | refine Below.drew ?_ | refine Below_drewN ?_ _)
  obtain ⟨W3, hW3⟩ : ∃ W, W2.alloc (.cells (madeCells #[.int .i64 0, .int .i64 0] (ld * 2)) 67) = W := ⟨_, rfl⟩
  rw [hW3] at hR0 hb1 ⊢
  clear hW3 hmk m0 m1 m2 m3 m4 m5 m6 m7 m8 m9 q0 q1
  go_wp2_with fail
  go_loopw [25] (fun i wr => ∃ j : Nat, j ≤ ld ∧ i = .int .i64 j ∧ Hid (RowL W2.heap.size (T.take (j * 2) ++ List.replicate (ld * 2 - j * 2) (.int .i64 0)) wr) ∧ Below W2.heap.size W2 wr) (fun i _ => ld - (intOf i).toNat)
  case atStart => exact ⟨0, Nat.zero_le _, rfl, hR0, hb1⟩
  case round =>
    obtain ⟨j, hj, rfl, hR, hB⟩ := hrel
    have sz := hB.size
    have hBw := hB2.trans (hB.mono hB2.size)
    by_cases hlt : j < ld
    · obtain ⟨-, hcf⟩ := HIF.out.below hBw
      obtain ⟨bf, of, rfl, hbf, hcf⟩ := hcf (by omega)
      obtain ⟨-, hcb⟩ := HIB.out.below hBw
      obtain ⟨bb, ob, rfl, hbb, hcb⟩ := hcb (by omega)
      have hbf1 : bf < w.heap.size := by obtain ⟨b9, o9, e9, h9, -⟩ := HIF.out.2 (by omega); injection e9 with e9; injection e9 with e9; omega
      have hbb1 : bb < w.heap.size := by obtain ⟨b9, o9, e9, h9, -⟩ := HIB.out.2 (by omega); injection e9 with e9; injection e9 with e9; omega
      obtain ⟨s, hs⟩ : ∃ s, zs[j]? = some s := ⟨_, List.getElem?_eq_getElem (by omega)⟩
      obtain ⟨xb, hx⟩ : ∃ b, bs[j]? = some b := ⟨_, List.getElem?_eq_getElem (by omega)⟩
      have e0 : wr.cell? ⟨bf, of + j * 2, none⟩ = some (.int .i64 s.lo) := by have h := hcf j s hs 0 _ rfl; simpa using h
      have e1 : wr.cell? ⟨bf, of + j * 2 + 1, none⟩ = some (.int .i64 s.hi) := by have h := hcf j s hs 1 _ rfl; simpa using h
      have e2 : wr.cell? ⟨bb, ob + j, none⟩ = some (.int .i64 xb) := by have h := hcb j xb hx 0 _ rfl; simpa using h
      have hT := HT.out j s xb hs hx
      have hv := vld_iff.1 (HZs.out s (List.mem_of_getElem? hs))
      have hxb := HBs.out xb (List.mem_of_getElem? hx)
      have hr := HRB.out j
      have HR1 := Lib.hid (HRA2.out j hlt)
      obtain ⟨xl, xh⟩ := s
      dsimp only at e0 e1 hT hv
      have HA := Lib.hid (fun W => allowed_any xl xh xb (rf j) W (by omega) (by omega) (by omega) (by omega) (by omega) (by omega) (by omega) (by omega))
      generalize rf j = G at *
      generalize allowL xl xh xb G = U at *
      obtain ⟨u, v⟩ := U
      have HTj := Lib.hid hT
      clear hcf hcb hs hx hT hv hxb hr
      dsimp only at HA HTj
      have r0 := hR.out.cell (j * 2) (.int .i64 0) (fill_get T (ld * 2) (j * 2) _ HL.out (by omega))
      have rf0 := hR.out.mark (j * 2) (by rw [fill_len T (ld * 2) (j * 2) _ HL.out (by omega)]; omega)
      have r1 : wr.cell? ⟨W2.heap.size, j * 2 + 1, none⟩ = some (.int .i64 0) := hR.out.cell (j * 2 + 1) (.int .i64 0) (by
        have h1 : (T.take (j * 2)).length = j * 2 := by rw [List.length_take, HL.out]; omega
        rw [List.getElem?_append_right (by omega), h1, List.getElem?_replicate, if_pos (by omega)])
      have rf1 := hR.out.mark (j * 2 + 1) (by rw [fill_len T (ld * 2) (j * 2) _ HL.out (by omega)]; omega)
      have hpl := hR.out.lt
      have m0 := (Fm.out.below hB).cell 0 (.string name) rfl
      have m1 := (Fm.out.below hB).cell 1 (.slice A la ca) rfl
      have m2 := (Fm.out.below hB).cell 2 (.slice B lb cb) rfl
      have m3 := (Fm.out.below hB).cell 3 (.slice Cl lc cl) rfl
      have m4 := (Fm.out.below hB).cell 4 (.int .i64 r) rfl
      have m5 := (Fm.out.below hB).cell 5 (.int .i64 z) rfl
      have m6 := (Fm.out.below hB).cell 6 (.int .i64 nr) rfl
      have m7 := (Fm.out.below hB).cell 7 (.int .i64 nz) rfl
      have m8 := (Fm.out.below hB).cell 8 (.int .i64 step) rfl
      have m9 := (Fm.out.below hB).cell 9 (.slice D ld cd) rfl
      have q0 := (Fq.out.below hB).cell 0 (.int .i64 X) rfl
      have q1 := (Fq.out.below hB).cell 1 (.int .i64 Y) rfl
      have jn : ((j : Int)).toNat = j := by omega
      have j0 : (0 : Int) ≤ j := by omega
      have g1 : w1.heap.size < W2.heap.size := sW2
      clear hR0 hb1
      go_wp2_with fail
      have HS : Hid (∀ w' : World, Reg (W2.heap.size) (wr) w' → (Reg (W2.heap.size) (wr) w' ∧ w'.cell? ⟨w.heap.size, 0, none⟩ = some (.string name) ∧ w'.cell? ⟨w.heap.size, 1, none⟩ = some (.slice A la ca) ∧ w'.cell? ⟨w.heap.size, 2, none⟩ = some (.slice B lb cb) ∧ w'.cell? ⟨w.heap.size, 3, none⟩ = some (.slice Cl lc cl) ∧ w'.cell? ⟨w.heap.size, 4, none⟩ = some (.int .i64 r) ∧ w'.cell? ⟨w.heap.size, 5, none⟩ = some (.int .i64 z) ∧ w'.cell? ⟨w.heap.size, 6, none⟩ = some (.int .i64 nr) ∧ w'.cell? ⟨w.heap.size, 7, none⟩ = some (.int .i64 nz) ∧ w'.cell? ⟨w.heap.size, 8, none⟩ = some (.int .i64 step) ∧ w'.cell? ⟨w.heap.size, 9, none⟩ = some (.slice D ld cd) ∧ w'.cell? ⟨w1.heap.size, 0, none⟩ = some (.int .i64 X) ∧ w'.cell? ⟨w1.heap.size, 1, none⟩ = some (.int .i64 Y) ∧ w'.cell? ⟨bf, of + j * 2, none⟩ = some (.int .i64 xl) ∧ w'.cell? ⟨bf, of + j * 2 + 1, none⟩ = some (.int .i64 xh) ∧ w'.cell? ⟨bb, ob + j, none⟩ = some (.int .i64 xb) ∧ w'.cell? ⟨W2.heap.size, j * 2, none⟩ = some (cur w' ⟨W2.heap.size, j * 2, none⟩) ∧ w'.frozen? ⟨W2.heap.size, j * 2, none⟩ = false ∧ w'.cell? ⟨W2.heap.size, j * 2 + 1, none⟩ = some (cur w' ⟨W2.heap.size, j * 2 + 1, none⟩) ∧ w'.frozen? ⟨W2.heap.size, j * 2 + 1, none⟩ = false)) := (fun w' h => by (have hc := h.cells; have hs := h.some; have hf := h.frozen; refine ⟨h, ?_⟩; (try simp only [World.size_alloc, World.size_setCell, size_drew, size_drewN] at hc hs hf); first | (simp (disch := omega) only [hc, hs, hf, cur_iff]; (try go_simp); done) | (simp (disch := first | omega | (simp; done)) only [hc, hs, hf, cur_iff]; (try go_simp); done) | (simp (maxDischargeDepth := 4) [hc, hs, hf, cur_iff, go_sem]; done) | (go_simp; done) | (simp (maxDischargeDepth := 4) [hc, hs, hf, cur_iff, go_sem]; go_simp))); go_region_held3 (fun w' => Reg (W2.heap.size) (wr) w' ∧ w'.cell? ⟨w.heap.size, 0, none⟩ = some (.string name) ∧ w'.cell? ⟨w.heap.size, 1, none⟩ = some (.slice A la ca) ∧ w'.cell? ⟨w.heap.size, 2, none⟩ = some (.slice B lb cb) ∧ w'.cell? ⟨w.heap.size, 3, none⟩ = some (.slice Cl lc cl) ∧ w'.cell? ⟨w.heap.size, 4, none⟩ = some (.int .i64 r) ∧ w'.cell? ⟨w.heap.size, 5, none⟩ = some (.int .i64 z) ∧ w'.cell? ⟨w.heap.size, 6, none⟩ = some (.int .i64 nr) ∧ w'.cell? ⟨w.heap.size, 7, none⟩ = some (.int .i64 nz) ∧ w'.cell? ⟨w.heap.size, 8, none⟩ = some (.int .i64 step) ∧ w'.cell? ⟨w.heap.size, 9, none⟩ = some (.slice D ld cd) ∧ w'.cell? ⟨w1.heap.size, 0, none⟩ = some (.int .i64 X) ∧ w'.cell? ⟨w1.heap.size, 1, none⟩ = some (.int .i64 Y) ∧ w'.cell? ⟨bf, of + j * 2, none⟩ = some (.int .i64 xl) ∧ w'.cell? ⟨bf, of + j * 2 + 1, none⟩ = some (.int .i64 xh) ∧ w'.cell? ⟨bb, ob + j, none⟩ = some (.int .i64 xb) ∧ w'.cell? ⟨W2.heap.size, j * 2, none⟩ = some (cur w' ⟨W2.heap.size, j * 2, none⟩) ∧ w'.frozen? ⟨W2.heap.size, j * 2, none⟩ = false ∧ w'.cell? ⟨W2.heap.size, j * 2 + 1, none⟩ = some (cur w' ⟨W2.heap.size, j * 2 + 1, none⟩) ∧ w'.frozen? ⟨W2.heap.size, j * 2 + 1, none⟩ = false) (exact HS.out _ (by (repeat first | with_reducible exact Reg.refl _ _ | with_reducible exact Reg.drewN2 _ _ _ _ | with_reducible exact (‹Reg _ _ _ ∧ _›).1 | (with_reducible refine Reg.setCell ?_ ?_ _; rotate_left; exact (by first | omega | ((try simp only [World.size_alloc, World.size_setCell, size_drew, size_drewN]); omega) | (simp; done) | (simp; omega))) | with_reducible refine Reg.alloc ?_ _ | with_reducible refine Reg.drew ?_ | with_reducible refine Reg.drewN ?_ _ | (with_reducible apply Reg.call; rotate_left; with_reducible assumption)))) (first | (go_at_call 65; (with_reducible refine (HR1.out _ (Reg.out (‹Reg _ _ _ ∧ _›).1 hBw (by first | omega | (simp; done) | (simp; omega)))).mono ?_); rintro e w8 ⟨rfl, hb8⟩; have hb := hb8; (first | (with_reducible have hk := Nat.lt_of_lt_of_le (size_alloc_lt _ _) hb.size) | (with_reducible have hk := Nat.lt_of_lt_of_le (size_alloc_drew_lt _ _) hb.size) | (with_reducible have hk := Nat.lt_of_lt_of_le hk hb.size) | skip); (try simp only [World.size_alloc, World.size_setCell, size_drew, size_drewN] at hk); obtain ⟨hc, hf⟩ := bcell hb; have hs := hb.size; (try simp only [World.size_alloc, World.size_setCell, size_drew, size_drewN] at hs); clear hb) | (go_at_call 64; (with_reducible refine (HA.out _).mono ?_); rintro e w9 ⟨rfl, hb9⟩; have hb := hb9; (first | (with_reducible have hk := Nat.lt_of_lt_of_le (size_alloc_lt _ _) hb.size) | (with_reducible have hk := Nat.lt_of_lt_of_le (size_alloc_drew_lt _ _) hb.size) | (with_reducible have hk := Nat.lt_of_lt_of_le hk hb.size) | skip); (try simp only [World.size_alloc, World.size_setCell, size_drew, size_drewN] at hk); obtain ⟨hc, hf⟩ := bcell hb; have hs := hb.size; (try simp only [World.size_alloc, World.size_setCell, size_drew, size_drewN] at hs); clear hb))
      all_goals go_wp2_with fail
      have h8 : Below W2.heap.size W2 w8 := Below.trans (by (with_reducible repeat first | exact Below.refl _ _ | assumption | ((first | refine Below.setCell ?_ ?_ _ | refine Below.alloc ?_ ?_ _); rotate_left; exact (by first | omega | (simp; done) | (simp; omega))) | refine Below.drew ?_ | refine Below_drewN ?_ _)) (hb8.mono (by first | omega | ((try simp only [World.size_alloc, World.size_setCell, size_drew, size_drewN]); omega) | (simp; done) | (simp; omega)))
      have h9 : Below W2.heap.size W2 w9 := Below.trans (by (with_reducible repeat first | exact Below.refl _ _ | assumption | ((first | refine Below.setCell ?_ ?_ _ | refine Below.alloc ?_ ?_ _); rotate_left; exact (by first | omega | (simp; done) | (simp; omega))) | refine Below.drew ?_ | refine Below_drewN ?_ _)) (hb9.mono (by first | omega | ((try simp only [World.size_alloc, World.size_setCell, size_drew, size_drewN]); omega) | (simp; done) | (simp; omega)))
      have hR9 : RowL W2.heap.size (T.take (j * 2) ++ List.replicate (ld * 2 - j * 2) (.int .i64 0)) w9 := by
        refine RowL.below ?_ hb9
        repeat refine RowL.drew ?_
        refine RowL.below ?_ hb8
        repeat refine RowL.drew ?_
        exact hR.out
      have HR9 := Lib.hid ((hR9.fill HL.out (by omega) HTj.out.1).fill HL.out (by omega) HTj.out.2)
      clear hR9
      go_roundw
      case rel => exact ⟨j + 1, by omega, by go_num, by rw [show (j + 1) * 2 = j * 2 + 1 + 1 by omega]; exact HR9, by (with_reducible repeat first | exact Below.refl _ _ | assumption | ((first | refine Below.setCell ?_ ?_ _ | refine Below.alloc ?_ ?_ _); rotate_left; exact (by first | omega | (simp; done) | (simp; omega))) | refine Below.drew ?_ | refine Below_drewN ?_ _)⟩
      case measure => simp [intOf]; omega
    · obtain rfl : j = ld := by omega
      have hR2 := hR.out
      rw [fill_all T (j * 2) _ HL.out] at hR2
      have HR3 := Lib.hid hR2
      clear hR hR0 hb1 hR2
      go_wp2_with fail
      go_ret
      exact ⟨W2.heap.size, rfl, by omega, HR3.out, hBw⟩
end
end Go.Proofs.YthggkidiidnaoaaGreatDoor
