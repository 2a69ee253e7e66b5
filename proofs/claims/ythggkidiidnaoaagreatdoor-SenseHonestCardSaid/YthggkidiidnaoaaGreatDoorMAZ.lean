import Derived.Test.YthggkidiidnaoaaGreatDoorMAB
import Derived.Test.YthggkidiidnaoaaGreatDoorMAR
import Derived.Test.YthggkidiidnaoaaGreatDoorMAW
import Derived.Test.YthggkidiidnaoaaGreatDoorMAY
namespace Go.Proofs.YthggkidiidnaoaaGreatDoor
set_option linter.unusedVariables false
set_option linter.unusedSimpArgs false
section
open Go.RowKit Go.Shelf
theorem res3p {fn : Func} {p u : Tmp} (h : fn.results = #[.cell p 67, .tmp u]) (tmps : Array Value) (W : World) (b : Nat) (x y z : Value)
    (hp : tmps.getD p undef = .pointer (some ⟨b, 0, none⟩)) (hu : tmps.getD u undef = z) (h0 : W.cell? ⟨b, 0, none⟩ = some x) (h1 : W.cell? ⟨b, 1, none⟩ = some y) :
    (results fn tmps).run Tryz.prog W = .ok (.tuple #[.agg #[x, y], z]) W := by
  rw [results_cell_tmp h, hp, hu]
  simp [go_sem, h0, h1]
def gainL (x : Tri) : Int × Int × Int :=
  if okP x = true then if gHi x < gLo x then (0, 0, 8) else if vld (gLo x) (gHi x) = true then (gLo x, gHi x, 0) else (0, 0, 9) else (0, 0, 1)
set_option maxHeartbeats 2000000 in
theorem gain_any (v lo hi : Int) (w : World) : Calls Tryz.prog 18 #[Pr (v, lo, hi)] w (Ret (.tuple #[.agg #[.int .i64 (gainL (v, lo, hi)).1, .int .i64 (gainL (v, lo, hi)).2.1], .int .i64 (gainL (v, lo, hi)).2.2]) w) := by
  have HV := Lib.hid (fun W => validPair_any v lo hi W)
  by_cases hk : okP (v, lo, hi) = true
  · have HG := Lib.hid (fun W => gains_any v lo hi W hk)
    rw [hk] at HV
    by_cases h8 : gHi (v, lo, hi) < gLo (v, lo, hi)
    · rw [show gainL (v, lo, hi) = (0, 0, 8) by unfold gainL; rw [if_pos hk, if_pos h8]]
      generalize gHi (v, lo, hi) = b at *
      generalize gLo (v, lo, hi) = a at *
      clear hk
      go_enter Tryz.func18, Tryz.ntmps18
      go_wp2_with (first | (go_at_call 46; refine (HV.out _).mono ?_; rintro e w1 ⟨rfl, hb⟩; have hB : Below w.heap.size w w1 := Below.trans (by (repeat first | with_reducible exact Below.refl _ _ | (with_reducible refine Below.alloc ?_ ?_ _; rotate_left; exact (by first | omega | (simp; done))))) (hb.mono (by (simp; omega))); obtain ⟨hc, hf⟩ := bcell hb; have hs := hb.size; clear hb; (try simp only [World.size_alloc, World.size_setCell] at hc hf); (try simp only [World.size_alloc, World.size_setCell] at hs); (try have hs' := Nat.lt_of_succ_le hs); (try have hs0 : w.heap.size < w1.heap.size := by omega); (try have hs1 : w.heap.size + 1 < w1.heap.size := by omega); (try have hs2 : w.heap.size + 1 + 1 < w1.heap.size := by omega); (try have hs3 : w.heap.size + 1 + 1 + 1 < w1.heap.size := by omega); (try have iso : (w1.cell? ⟨w.heap.size, 0, none⟩).isSome = true := by (rw [hc _ _ (by omega)]; (try simp only [isSome_setCell]); first | assumption | go_simp)); (try have iso : (w1.cell? ⟨w.heap.size, 1, none⟩).isSome = true := by (rw [hc _ _ (by omega)]; (try simp only [isSome_setCell]); first | assumption | go_simp)); (try have iso : (w1.cell? ⟨w.heap.size + 1, 0, none⟩).isSome = true := by (rw [hc _ _ (by omega)]; (try simp only [isSome_setCell]); first | assumption | go_simp)); (try have iso : (w1.cell? ⟨w.heap.size + 1, 1, none⟩).isSome = true := by (rw [hc _ _ (by omega)]; (try simp only [isSome_setCell]); first | assumption | go_simp)); (try have iso : (w1.cell? ⟨w.heap.size + 1 + 1, 0, none⟩).isSome = true := by (rw [hc _ _ (by first | omega | (simp; done) | (simp; omega))]; (try simp only [isSome_setCell]); first | assumption | go_simp)); (try have iso : (w1.cell? ⟨w.heap.size + 1 + 1, 1, none⟩).isSome = true := by (rw [hc _ _ (by first | omega | (simp; done) | (simp; omega))]; (try simp only [isSome_setCell]); first | assumption | go_simp))) | (go_at_call 47; refine (HG.out _).mono ?_; rintro e w1 ⟨rfl, hb⟩; have hB : Below w.heap.size w w1 := Below.trans (by (repeat with_reducible assumption)) (hb.mono (by omega)); obtain ⟨hc, hf⟩ := bcell hb; have hs := hb.size; clear hb; (try simp only [World.size_alloc, World.size_setCell] at hc hf); (try simp only [World.size_alloc, World.size_setCell] at hs); (try have hs' := Nat.lt_of_succ_le hs); (try have hs0 : w.heap.size < w1.heap.size := by omega); (try have hs1 : w.heap.size + 1 < w1.heap.size := by omega); (try have hs2 : w.heap.size + 1 + 1 < w1.heap.size := by omega); (try have hs3 : w.heap.size + 1 + 1 + 1 < w1.heap.size := by omega); (try have iso : (w1.cell? ⟨w.heap.size, 0, none⟩).isSome = true := by (rw [hc _ _ (by omega)]; (try simp only [isSome_setCell]); first | assumption | go_simp)); (try have iso : (w1.cell? ⟨w.heap.size, 1, none⟩).isSome = true := by (rw [hc _ _ (by omega)]; (try simp only [isSome_setCell]); first | assumption | go_simp)); (try have iso : (w1.cell? ⟨w.heap.size + 1, 0, none⟩).isSome = true := by (rw [hc _ _ (by omega)]; (try simp only [isSome_setCell]); first | assumption | go_simp)); (try have iso : (w1.cell? ⟨w.heap.size + 1, 1, none⟩).isSome = true := by (rw [hc _ _ (by omega)]; (try simp only [isSome_setCell]); first | assumption | go_simp)); (try have iso : (w1.cell? ⟨w.heap.size + 1 + 1, 0, none⟩).isSome = true := by (rw [hc _ _ (by first | omega | (simp; done) | (simp; omega))]; (try simp only [isSome_setCell]); first | assumption | go_simp)); (try have iso : (w1.cell? ⟨w.heap.size + 1 + 1, 1, none⟩).isSome = true := by (rw [hc _ _ (by first | omega | (simp; done) | (simp; omega))]; (try simp only [isSome_setCell]); first | assumption | go_simp))))
      exact bodyPost_ret (res3p Tryz.results18 _ _ _ _ _ _ rfl rfl (by go_simp) (by go_simp)) rfl ⟨rfl, by (repeat first | with_reducible assumption | (with_reducible refine Below.setCell ?_ ?_ _; rotate_left; exact (by (simp; done))) | (with_reducible refine Below.alloc ?_ ?_ _; rotate_left; exact (by (simp; omega))))⟩
    · by_cases hv : vld (gLo (v, lo, hi)) (gHi (v, lo, hi)) = true
      · rw [show gainL (v, lo, hi) = (gLo (v, lo, hi), gHi (v, lo, hi), 0) by unfold gainL; rw [if_pos hk, if_neg h8, if_pos hv]]
        generalize gHi (v, lo, hi) = b at *
        generalize gLo (v, lo, hi) = a at *
        clear hk
        go_enter Tryz.func18, Tryz.ntmps18
        go_wp2_with (first | (go_at_call 46; refine (HV.out _).mono ?_; rintro e w1 ⟨rfl, hb⟩; have hB : Below w.heap.size w w1 := Below.trans (by (repeat first | with_reducible exact Below.refl _ _ | (with_reducible refine Below.alloc ?_ ?_ _; rotate_left; exact (by first | omega | (simp; done))))) (hb.mono (by (simp; omega))); obtain ⟨hc, hf⟩ := bcell hb; have hs := hb.size; clear hb; (try simp only [World.size_alloc, World.size_setCell] at hc hf); (try simp only [World.size_alloc, World.size_setCell] at hs); (try have hs' := Nat.lt_of_succ_le hs); (try have hs0 : w.heap.size < w1.heap.size := by omega); (try have hs1 : w.heap.size + 1 < w1.heap.size := by omega); (try have hs2 : w.heap.size + 1 + 1 < w1.heap.size := by omega); (try have hs3 : w.heap.size + 1 + 1 + 1 < w1.heap.size := by omega); (try have iso : (w1.cell? ⟨w.heap.size, 0, none⟩).isSome = true := by (rw [hc _ _ (by omega)]; (try simp only [isSome_setCell]); first | assumption | go_simp)); (try have iso : (w1.cell? ⟨w.heap.size, 1, none⟩).isSome = true := by (rw [hc _ _ (by omega)]; (try simp only [isSome_setCell]); first | assumption | go_simp)); (try have iso : (w1.cell? ⟨w.heap.size + 1, 0, none⟩).isSome = true := by (rw [hc _ _ (by omega)]; (try simp only [isSome_setCell]); first | assumption | go_simp)); (try have iso : (w1.cell? ⟨w.heap.size + 1, 1, none⟩).isSome = true := by (rw [hc _ _ (by omega)]; (try simp only [isSome_setCell]); first | assumption | go_simp)); (try have iso : (w1.cell? ⟨w.heap.size + 1 + 1, 0, none⟩).isSome = true := by (rw [hc _ _ (by first | omega | (simp; done) | (simp; omega))]; (try simp only [isSome_setCell]); first | assumption | go_simp)); (try have iso : (w1.cell? ⟨w.heap.size + 1 + 1, 1, none⟩).isSome = true := by (rw [hc _ _ (by first | omega | (simp; done) | (simp; omega))]; (try simp only [isSome_setCell]); first | assumption | go_simp))) | (go_at_call 47; refine (HG.out _).mono ?_; rintro e w1 ⟨rfl, hb⟩; have hB : Below w.heap.size w w1 := Below.trans (by (repeat with_reducible assumption)) (hb.mono (by omega)); obtain ⟨hc, hf⟩ := bcell hb; have hs := hb.size; clear hb; (try simp only [World.size_alloc, World.size_setCell] at hc hf); (try simp only [World.size_alloc, World.size_setCell] at hs); (try have hs' := Nat.lt_of_succ_le hs); (try have hs0 : w.heap.size < w1.heap.size := by omega); (try have hs1 : w.heap.size + 1 < w1.heap.size := by omega); (try have hs2 : w.heap.size + 1 + 1 < w1.heap.size := by omega); (try have hs3 : w.heap.size + 1 + 1 + 1 < w1.heap.size := by omega); (try have iso : (w1.cell? ⟨w.heap.size, 0, none⟩).isSome = true := by (rw [hc _ _ (by omega)]; (try simp only [isSome_setCell]); first | assumption | go_simp)); (try have iso : (w1.cell? ⟨w.heap.size, 1, none⟩).isSome = true := by (rw [hc _ _ (by omega)]; (try simp only [isSome_setCell]); first | assumption | go_simp)); (try have iso : (w1.cell? ⟨w.heap.size + 1, 0, none⟩).isSome = true := by (rw [hc _ _ (by omega)]; (try simp only [isSome_setCell]); first | assumption | go_simp)); (try have iso : (w1.cell? ⟨w.heap.size + 1, 1, none⟩).isSome = true := by (rw [hc _ _ (by omega)]; (try simp only [isSome_setCell]); first | assumption | go_simp)); (try have iso : (w1.cell? ⟨w.heap.size + 1 + 1, 0, none⟩).isSome = true := by (rw [hc _ _ (by first | omega | (simp; done) | (simp; omega))]; (try simp only [isSome_setCell]); first | assumption | go_simp)); (try have iso : (w1.cell? ⟨w.heap.size + 1 + 1, 1, none⟩).isSome = true := by (rw [hc _ _ (by first | omega | (simp; done) | (simp; omega))]; (try simp only [isSome_setCell]); first | assumption | go_simp))) | (go_at_call 48; refine (valid_any _ _ _).mono ?_; rintro e w1 ⟨rfl, hb⟩; have hB : Below w.heap.size w w1 := Below.trans (by (repeat first | with_reducible assumption | (with_reducible refine Below.alloc ?_ ?_ _; rotate_left; exact (by omega)))) (hb.mono (by (simp; omega))); obtain ⟨hc, hf⟩ := bcell hb; have hs := hb.size; clear hb; (try simp only [World.size_alloc, World.size_setCell] at hc hf); (try simp only [World.size_alloc, World.size_setCell] at hs); (try have hs' := Nat.lt_of_succ_le hs); (try have hs0 : w.heap.size < w1.heap.size := by omega); (try have hs1 : w.heap.size + 1 < w1.heap.size := by omega); (try have hs2 : w.heap.size + 1 + 1 < w1.heap.size := by omega); (try have hs3 : w.heap.size + 1 + 1 + 1 < w1.heap.size := by omega); (try have iso : (w1.cell? ⟨w.heap.size, 0, none⟩).isSome = true := by (rw [hc _ _ (by omega)]; (try simp only [isSome_setCell]); first | assumption | go_simp)); (try have iso : (w1.cell? ⟨w.heap.size, 1, none⟩).isSome = true := by (rw [hc _ _ (by omega)]; (try simp only [isSome_setCell]); first | assumption | go_simp)); (try have iso : (w1.cell? ⟨w.heap.size + 1, 0, none⟩).isSome = true := by (rw [hc _ _ (by omega)]; (try simp only [isSome_setCell]); first | assumption | go_simp)); (try have iso : (w1.cell? ⟨w.heap.size + 1, 1, none⟩).isSome = true := by (rw [hc _ _ (by omega)]; (try simp only [isSome_setCell]); first | assumption | go_simp)); (try have iso : (w1.cell? ⟨w.heap.size + 1 + 1, 0, none⟩).isSome = true := by (rw [hc _ _ (by omega)]; (try simp only [isSome_setCell]); first | assumption | go_simp)); (try have iso : (w1.cell? ⟨w.heap.size + 1 + 1, 1, none⟩).isSome = true := by (rw [hc _ _ (by omega)]; (try simp only [isSome_setCell]); first | assumption | go_simp))))
        exact bodyPost_ret (res3p Tryz.results18 _ _ _ _ _ _ rfl rfl (by go_simp) (by go_simp)) rfl ⟨rfl, by (repeat first | with_reducible assumption | (with_reducible refine Below.setCell ?_ ?_ _; rotate_left; exact (by (simp; done))))⟩
      · rw [show gainL (v, lo, hi) = (0, 0, 9) by unfold gainL; rw [if_pos hk, if_neg h8, if_neg hv]]
        have hv : vld (gLo (v, lo, hi)) (gHi (v, lo, hi)) = false := by simpa using hv
        generalize gHi (v, lo, hi) = b at *
        generalize gLo (v, lo, hi) = a at *
        clear hk
        go_enter Tryz.func18, Tryz.ntmps18
        go_wp2_with (first | (go_at_call 46; refine (HV.out _).mono ?_; rintro e w1 ⟨rfl, hb⟩; have hB : Below w.heap.size w w1 := Below.trans (by (repeat first | with_reducible exact Below.refl _ _ | (with_reducible refine Below.alloc ?_ ?_ _; rotate_left; exact (by first | omega | (simp; done))))) (hb.mono (by (simp; omega))); obtain ⟨hc, hf⟩ := bcell hb; have hs := hb.size; clear hb; (try simp only [World.size_alloc, World.size_setCell] at hc hf); (try simp only [World.size_alloc, World.size_setCell] at hs); (try have hs' := Nat.lt_of_succ_le hs); (try have hs0 : w.heap.size < w1.heap.size := by omega); (try have hs1 : w.heap.size + 1 < w1.heap.size := by omega); (try have hs2 : w.heap.size + 1 + 1 < w1.heap.size := by omega); (try have hs3 : w.heap.size + 1 + 1 + 1 < w1.heap.size := by omega); (try have iso : (w1.cell? ⟨w.heap.size, 0, none⟩).isSome = true := by (rw [hc _ _ (by omega)]; (try simp only [isSome_setCell]); first | assumption | go_simp)); (try have iso : (w1.cell? ⟨w.heap.size, 1, none⟩).isSome = true := by (rw [hc _ _ (by omega)]; (try simp only [isSome_setCell]); first | assumption | go_simp)); (try have iso : (w1.cell? ⟨w.heap.size + 1, 0, none⟩).isSome = true := by (rw [hc _ _ (by omega)]; (try simp only [isSome_setCell]); first | assumption | go_simp)); (try have iso : (w1.cell? ⟨w.heap.size + 1, 1, none⟩).isSome = true := by (rw [hc _ _ (by omega)]; (try simp only [isSome_setCell]); first | assumption | go_simp)); (try have iso : (w1.cell? ⟨w.heap.size + 1 + 1, 0, none⟩).isSome = true := by (rw [hc _ _ (by first | omega | (simp; done) | (simp; omega))]; (try simp only [isSome_setCell]); first | assumption | go_simp)); (try have iso : (w1.cell? ⟨w.heap.size + 1 + 1, 1, none⟩).isSome = true := by (rw [hc _ _ (by first | omega | (simp; done) | (simp; omega))]; (try simp only [isSome_setCell]); first | assumption | go_simp))) | (go_at_call 47; refine (HG.out _).mono ?_; rintro e w1 ⟨rfl, hb⟩; have hB : Below w.heap.size w w1 := Below.trans (by (repeat with_reducible assumption)) (hb.mono (by omega)); obtain ⟨hc, hf⟩ := bcell hb; have hs := hb.size; clear hb; (try simp only [World.size_alloc, World.size_setCell] at hc hf); (try simp only [World.size_alloc, World.size_setCell] at hs); (try have hs' := Nat.lt_of_succ_le hs); (try have hs0 : w.heap.size < w1.heap.size := by omega); (try have hs1 : w.heap.size + 1 < w1.heap.size := by omega); (try have hs2 : w.heap.size + 1 + 1 < w1.heap.size := by omega); (try have hs3 : w.heap.size + 1 + 1 + 1 < w1.heap.size := by omega); (try have iso : (w1.cell? ⟨w.heap.size, 0, none⟩).isSome = true := by (rw [hc _ _ (by omega)]; (try simp only [isSome_setCell]); first | assumption | go_simp)); (try have iso : (w1.cell? ⟨w.heap.size, 1, none⟩).isSome = true := by (rw [hc _ _ (by omega)]; (try simp only [isSome_setCell]); first | assumption | go_simp)); (try have iso : (w1.cell? ⟨w.heap.size + 1, 0, none⟩).isSome = true := by (rw [hc _ _ (by omega)]; (try simp only [isSome_setCell]); first | assumption | go_simp)); (try have iso : (w1.cell? ⟨w.heap.size + 1, 1, none⟩).isSome = true := by (rw [hc _ _ (by omega)]; (try simp only [isSome_setCell]); first | assumption | go_simp)); (try have iso : (w1.cell? ⟨w.heap.size + 1 + 1, 0, none⟩).isSome = true := by (rw [hc _ _ (by first | omega | (simp; done) | (simp; omega))]; (try simp only [isSome_setCell]); first | assumption | go_simp)); (try have iso : (w1.cell? ⟨w.heap.size + 1 + 1, 1, none⟩).isSome = true := by (rw [hc _ _ (by first | omega | (simp; done) | (simp; omega))]; (try simp only [isSome_setCell]); first | assumption | go_simp))) | (go_at_call 48; refine (valid_any _ _ _).mono ?_; rintro e w1 ⟨rfl, hb⟩; have hB : Below w.heap.size w w1 := Below.trans (by (repeat first | with_reducible assumption | (with_reducible refine Below.alloc ?_ ?_ _; rotate_left; exact (by omega)))) (hb.mono (by (simp; omega))); obtain ⟨hc, hf⟩ := bcell hb; have hs := hb.size; clear hb; (try simp only [World.size_alloc, World.size_setCell] at hc hf); (try simp only [World.size_alloc, World.size_setCell] at hs); (try have hs' := Nat.lt_of_succ_le hs); (try have hs0 : w.heap.size < w1.heap.size := by omega); (try have hs1 : w.heap.size + 1 < w1.heap.size := by omega); (try have hs2 : w.heap.size + 1 + 1 < w1.heap.size := by omega); (try have hs3 : w.heap.size + 1 + 1 + 1 < w1.heap.size := by omega); (try have iso : (w1.cell? ⟨w.heap.size, 0, none⟩).isSome = true := by (rw [hc _ _ (by omega)]; (try simp only [isSome_setCell]); first | assumption | go_simp)); (try have iso : (w1.cell? ⟨w.heap.size, 1, none⟩).isSome = true := by (rw [hc _ _ (by omega)]; (try simp only [isSome_setCell]); first | assumption | go_simp)); (try have iso : (w1.cell? ⟨w.heap.size + 1, 0, none⟩).isSome = true := by (rw [hc _ _ (by omega)]; (try simp only [isSome_setCell]); first | assumption | go_simp)); (try have iso : (w1.cell? ⟨w.heap.size + 1, 1, none⟩).isSome = true := by (rw [hc _ _ (by omega)]; (try simp only [isSome_setCell]); first | assumption | go_simp)); (try have iso : (w1.cell? ⟨w.heap.size + 1 + 1, 0, none⟩).isSome = true := by (rw [hc _ _ (by omega)]; (try simp only [isSome_setCell]); first | assumption | go_simp)); (try have iso : (w1.cell? ⟨w.heap.size + 1 + 1, 1, none⟩).isSome = true := by (rw [hc _ _ (by omega)]; (try simp only [isSome_setCell]); first | assumption | go_simp))))
        exact bodyPost_ret (res3p Tryz.results18 _ _ _ _ _ _ rfl rfl (by go_simp) (by go_simp)) rfl ⟨rfl, by (repeat first | with_reducible assumption | (with_reducible refine Below.setCell ?_ ?_ _; rotate_left; exact (by (simp; done))))⟩
  · rw [show gainL (v, lo, hi) = (0, 0, 1) by unfold gainL; rw [if_neg hk]]
    have hk : okP (v, lo, hi) = false := by simpa using hk
    rw [hk] at HV
    clear hk
    go_enter Tryz.func18, Tryz.ntmps18
    go_wp2_with (go_at_call 46; refine (HV.out _).mono ?_; rintro e w1 ⟨rfl, hb⟩; have hB : Below w.heap.size w w1 := Below.trans (by (repeat first | with_reducible exact Below.refl _ _ | (with_reducible refine Below.alloc ?_ ?_ _; rotate_left; exact (by first | omega | (simp; done))))) (hb.mono (by (simp; omega))); obtain ⟨hc, hf⟩ := bcell hb; have hs := hb.size; clear hb; (try simp only [World.size_alloc, World.size_setCell] at hc hf); (try simp only [World.size_alloc, World.size_setCell] at hs); (try have hs' := Nat.lt_of_succ_le hs); (try have hs0 : w.heap.size < w1.heap.size := by omega); (try have hs1 : w.heap.size + 1 < w1.heap.size := by omega); (try have hs2 : w.heap.size + 1 + 1 < w1.heap.size := by omega); (try have hs3 : w.heap.size + 1 + 1 + 1 < w1.heap.size := by omega); (try have iso : (w1.cell? ⟨w.heap.size, 0, none⟩).isSome = true := by (rw [hc _ _ (by omega)]; (try simp only [isSome_setCell]); first | assumption | go_simp)); (try have iso : (w1.cell? ⟨w.heap.size, 1, none⟩).isSome = true := by (rw [hc _ _ (by omega)]; (try simp only [isSome_setCell]); first | assumption | go_simp)); (try have iso : (w1.cell? ⟨w.heap.size + 1, 0, none⟩).isSome = true := by (rw [hc _ _ (by omega)]; (try simp only [isSome_setCell]); first | assumption | go_simp)); (try have iso : (w1.cell? ⟨w.heap.size + 1, 1, none⟩).isSome = true := by (rw [hc _ _ (by omega)]; (try simp only [isSome_setCell]); first | assumption | go_simp)); (try have iso : (w1.cell? ⟨w.heap.size + 1 + 1, 0, none⟩).isSome = true := by (rw [hc _ _ (by first | omega | (simp; done) | (simp; omega))]; (try simp only [isSome_setCell]); first | assumption | go_simp)); (try have iso : (w1.cell? ⟨w.heap.size + 1 + 1, 1, none⟩).isSome = true := by (rw [hc _ _ (by first | omega | (simp; done) | (simp; omega))]; (try simp only [isSome_setCell]); first | assumption | go_simp)))
    exact bodyPost_ret (res3 Tryz.results18 _ _ _ _ _ _ rfl rfl (by (try simp only [isSome_setCell]); first | assumption | go_simp) (by (try simp only [isSome_setCell]); first | assumption | go_simp)) rfl ⟨rfl, by (repeat first | with_reducible assumption | (with_reducible refine Below.setCell ?_ ?_ _; rotate_left; exact (by (simp; done))))⟩
theorem isT_one {α : Type} {n : Nat} {enc : α → List Value} {W : World} {b : Nat} {x : α} (hb : b < W.heap.size) (h : ∀ (i : Nat) (v : Value), (enc x)[i]? = some v → W.cell? ⟨b, i, none⟩ = some v) : IsT n enc W (some ⟨b, 0, none⟩) 1 [x] :=
  ⟨rfl, fun _ => ⟨b, 0, rfl, hb, fun j y hy i v hv => by
    rcases j with _ | j
    · obtain rfl : x = y := by simpa using hy
      have := h i v hv
      simpa using this
    · simp at hy⟩⟩
theorem isM_ex {W : World} {x y : Nat} (hx : x < W.heap.size) (hy : y < W.heap.size) (x0 : W.cell? ⟨x, 0, none⟩ = some (.int .i64 9)) (x1 : W.cell? ⟨x, 1, none⟩ = some (.int .i64 0))
    (y0 : W.cell? ⟨y, 0, none⟩ = some (.string ⟨#[115]⟩)) (y1 : W.cell? ⟨y, 1, none⟩ = some (.int .i64 1)) (y2 : W.cell? ⟨y, 2, none⟩ = some (.int .i64 0)) (y3 : W.cell? ⟨y, 3, none⟩ = some (.int .i64 0)) (y4 : W.cell? ⟨y, 4, none⟩ = some (.int .i64 0)) :
    IsM W ⟨none, none, some ⟨x, 0, none⟩, some ⟨y, 0, none⟩, 0, 0, 0, 0, 1, 1, 1, 1⟩ exM := by
  refine ⟨IsT.nil _ _ _ _, IsT.nil _ _ _ _, isT_one hx fun i v hv => ?_, isT_one hy fun i v hv => ?_, Nat.le_refl _, Nat.le_refl _, Nat.le_refl _, Nat.le_refl _, by dsimp only; omega, by dsimp only; omega, by dsimp only; omega, by dsimp only; omega, by dsimp only; omega, by dsimp only; omega, by dsimp only; omega, by dsimp only; omega⟩
  · rcases i with _ | _ | i
    · injection hv with hv; rw [← hv]; exact x0
    · injection hv with hv; rw [← hv]; exact x1
    · cases hv
  · rcases i with _ | _ | _ | _ | _ | i
    · injection hv with hv; rw [← hv]; exact y0
    · injection hv with hv; rw [← hv]; exact y1
    · injection hv with hv; rw [← hv]; exact y2
    · injection hv with hv; rw [← hv]; exact y3
    · injection hv with hv; rw [← hv]; exact y4
    · cases hv
theorem isC_ex {W : World} {z : Nat} (hz : z < W.heap.size) (z0 : W.cell? ⟨z, 0, none⟩ = some (.int .i64 2)) : IsC W ⟨none, none, some ⟨z, 0, none⟩, 0, 0, 0, 0, 1, 1⟩ exC := by
  refine ⟨IsT.nil _ _ _ _, IsT.nil _ _ _ _, isT_one hz fun i v hv => ?_, Nat.le_refl _, Nat.le_refl _, Nat.le_refl _, by dsimp only; omega, by dsimp only; omega, by dsimp only; omega, by dsimp only; omega, by dsimp only; omega, by dsimp only; omega⟩
  rcases i with _ | i
  · injection hv with hv; rw [← hv]; exact z0
  · cases hv
theorem gain_ex (w : World) : Calls Tryz.prog 18 #[.agg #[.int .i64 500, .int .i64 490, .int .i64 520]] w (Ret (.tuple #[.agg #[.int .i64 980, .int .i64 1040], .int .i64 0]) w) := by
  have h := gain_any 500 490 520 w
  rwa [show gainL (500, 490, 520) = (980, 1040, 0) by decide +kernel] at h
set_option maxRecDepth 100000 in
set_option maxHeartbeats 4000000 in
theorem awake_any (w : World) : Calls Tryz.prog 7 #[] w (Ret (.bool true) w) := by
  go_enter Tryz.func7, Tryz.ntmps7
  go_wp2_with (first | (go_at_call 18; refine (gain_ex _).mono ?_; rintro e w1 ⟨rfl, hb1⟩) | (go_at_call 16; refine (read_ex (w1.heap.size + 1) (w1.heap.size + 1 + 1) (w1.heap.size + 1 + 1 + 1 + 1) _ (isM_ex (by simp) (by simp) (by go_simp) (by go_simp) (by go_simp) (by go_simp) (by go_simp) (by go_simp) (by go_simp)) (isC_ex (by simp) (by go_simp))).mono ?_; rintro e w2 ⟨b, rfl, hb0, hb2, v0, v1, hb⟩; have d0 : w2.cell? ⟨w1.heap.size, 0, none⟩ = some (.int .i64 980) := (by rw [hb.cell (by simp only [World.size_alloc]; omega)]; go_simp); have d1 : w2.cell? ⟨w1.heap.size, 1, none⟩ = some (.int .i64 1040) := (by rw [hb.cell (by simp only [World.size_alloc]; omega)]; go_simp)))
  have hs1 := hb1.size
  go_ret
  exact ⟨rfl, Below.trans (by (repeat first | with_reducible assumption | (with_reducible refine Below.alloc ?_ ?_ _; rotate_left; exact (by first | omega | (simp; omega))))) (hb.mono (by simp only [World.size_alloc]; omega))⟩
end
section
open Go.RowKit Go.Shelf
def commGo : Int → Int → List SpanD → Int × Int × Bool
  | lo, hi, [] => (lo, hi, true)
  | lo, hi, a :: r => if (meetL lo hi a.lo a.hi).2.2 = 0 then commGo (meetL lo hi a.lo a.hi).1 (meetL lo hi a.lo a.hi).2.1 r else (0, 0, false)
def commL (l : List SpanD) : Int × Int × Bool := commGo 0 1000000 l
theorem commGo_drop {l : List SpanD} {k : Nat} {x : SpanD} (h : l[k]? = some x) (lo hi : Int) : commGo lo hi (l.drop k) = if (meetL lo hi x.lo x.hi).2.2 = 0 then commGo (meetL lo hi x.lo x.hi).1 (meetL lo hi x.lo x.hi).2.1 (l.drop (k + 1)) else (0, 0, false) := by
  obtain ⟨hk, rfl⟩ := List.getElem?_eq_some_iff.1 h
  rw [List.drop_eq_getElem_cons hk]; rfl
set_option maxRecDepth 100000 in
set_option maxHeartbeats 8000000 in
theorem common_any (F : Option Addr) (n cf : Nat) (zs : List SpanD) (w : World) (hF : IsT 2 SpanD.cells w F n zs) (hn : n ≤ 100000) :
    Calls Tryz.prog 45 #[.slice F n cf] w (Ret (.tuple #[.agg #[.int .i64 (commL zs).1, .int .i64 (commL zs).2.1], .bool (commL zs).2.2]) w) := by
  have HI := Lib.hid hF
  have hl := hF.1
  have HG : Hid (commGo 0 1000000 (zs.drop 0) = commL zs) := Lib.hid rfl
  clear hF
  generalize commL zs = G at *
  obtain ⟨g1, g2, g3⟩ := G
  dsimp only
  go_enter Tryz.func45, Tryz.ntmps45
  go_upto_region 1 with (fail)
  have Ft : Hid (RowL (w.heap.size) [.int .i64 0, .int .i64 0] (w.alloc (.cells #[.int .i64 0, .int .i64 0] 67))) := Lib.hid (by have h := RowL.new w #[.int .i64 0, .int .i64 0] 67; (try simp only [World.size_alloc] at h); exact h)
  have hB0 : Below w.heap.size w (w.alloc (.cells #[.int .i64 0, .int .i64 0] 67)) := by (repeat first | with_reducible exact Below.refl _ _ | (with_reducible refine Below.alloc ?_ ?_ _; rotate_left; exact (by omega)))
  have sW0 : w.heap.size < (w.alloc (.cells #[.int .i64 0, .int .i64 0] 67)).heap.size := by simp only [World.size_alloc]; omega
  obtain ⟨W0, hW0⟩ : ∃ W, (w.alloc (.cells #[.int .i64 0, .int .i64 0] 67)) = W := ⟨_, rfl⟩
  rw [hW0] at Ft hB0 sW0 ⊢
  clear hW0
  have t0 := Ft.out.cell 0 (.int .i64 0) rfl
  have tf0 := Ft.out.mark 0 (by simp)
  have t1 := Ft.out.cell 1 (.int .i64 0) rfl
  have tf1 := Ft.out.mark 1 (by simp)
  go_wp2_with fail
  refine (possible_any _ _ _).mono ?_
  rintro e w1 ⟨rfl, hb⟩
  clear t0 tf0 t1 tf1
  have Gt := Lib.hid (Ft.out.below hb)
  clear Ft
  have Ft := Lib.hid Gt.out
  clear Gt
  have t0 := Ft.out.cell 0 (.int .i64 0) rfl
  have tf0 := Ft.out.mark 0 (by simp)
  have t1 := Ft.out.cell 1 (.int .i64 0) rfl
  have tf1 := Ft.out.mark 1 (by simp)
  have hB1 := hB0.trans (hb.mono hB0.size)
  have hz1 : w.heap.size < w1.heap.size := Nat.lt_of_lt_of_le sW0 hb.size
  clear hb hB0 sW0
  rw [show possL 0 1000000 = (0, 1000000) from rfl]
  go_upto_region 2 with (fail)
  have Fa : Hid (RowL (w1.heap.size) [.int .i64 0, .int .i64 1000000] (w1.alloc (.cells #[.int .i64 0, .int .i64 1000000] 67))) := Lib.hid (by have h := RowL.new w1 #[.int .i64 0, .int .i64 1000000] 67; (try simp only [World.size_alloc] at h); exact h)
  have hb2 : Below w1.heap.size w1 (w1.alloc (.cells #[.int .i64 0, .int .i64 1000000] 67)) := by (repeat first | with_reducible exact Below.refl _ _ | (with_reducible refine Below.alloc ?_ ?_ _; rotate_left; exact (by omega)))
  have sW2 : w1.heap.size < (w1.alloc (.cells #[.int .i64 0, .int .i64 1000000] 67)).heap.size := by simp only [World.size_alloc]; omega
  obtain ⟨W2, hW2⟩ : ∃ W, (w1.alloc (.cells #[.int .i64 0, .int .i64 1000000] 67)) = W := ⟨_, rfl⟩
  rw [hW2] at Fa hb2 sW2 ⊢
  clear hW2
  clear t0 tf0 t1 tf1
  have Gt := Lib.hid (Ft.out.below hb2)
  clear Ft
  have Ft := Lib.hid Gt.out
  clear Gt
  have t0 := Ft.out.cell 0 (.int .i64 0) rfl
  have tf0 := Ft.out.mark 0 (by simp)
  have t1 := Ft.out.cell 1 (.int .i64 0) rfl
  have tf1 := Ft.out.mark 1 (by simp)
  clear t0 tf0 t1 tf1
  have hB2 := hB1.trans (hb2.mono hB1.size)
  clear hb2
  go_wp2_with fail
  go_loopw [12] (fun i wr => ∃ (j : Nat) (lo hi : Int), j ≤ n ∧ i = .int .i64 j ∧ Hid (commGo lo hi (zs.drop j) = (g1, g2, g3)) ∧ RowL w.heap.size [.int .i64 0, .int .i64 0] wr ∧ RowL w1.heap.size [.int .i64 lo, .int .i64 hi] wr ∧ Below w.heap.size w wr) (fun i _ => n - (intOf i).toNat)
  case atStart => exact ⟨0, 0, 1000000, Nat.zero_le _, rfl, HG, Ft.out, Fa.out, hB2⟩
  case round =>
    obtain ⟨j, lo, hi, hj, rfl, hG, hRt, hRa, hB⟩ := hrel
    have sz := hB.size
    have a0 := hRa.cell 0 (.int .i64 lo) rfl
    have a1 := hRa.cell 1 (.int .i64 hi) rfl
    have t0 := hRt.cell 0 (.int .i64 0) rfl
    have t1 := hRt.cell 1 (.int .i64 0) rfl
    have af0 := hRa.mark 0 (by simp)
    have af1 := hRa.mark 1 (by simp)
    have tf0 := hRt.mark 0 (by simp)
    have tf1 := hRt.mark 1 (by simp)
    have al := hRa.lt
    have hzr : w.heap.size < wr.heap.size := by omega
    have HRt := Lib.hid hRt
    have HRa := Lib.hid hRa
    clear hRt hRa
    by_cases hlt : j < n
    · obtain ⟨-, hcf⟩ := HI.out.below hB
      obtain ⟨bf, of, rfl, hbf, hcf⟩ := hcf (by omega)
      obtain ⟨s, hs⟩ : ∃ s, zs[j]? = some s := ⟨_, List.getElem?_eq_getElem (by omega)⟩
      have e0 : wr.cell? ⟨bf, of + j * 2, none⟩ = some (.int .i64 s.lo) := by have h := hcf j s hs 0 _ rfl; simpa using h
      have e1 : wr.cell? ⟨bf, of + j * 2 + 1, none⟩ = some (.int .i64 s.hi) := by have h := hcf j s hs 1 _ rfl; simpa using h
      have HS := Lib.hid ((commGo_drop hs lo hi).symm.trans hG.out)
      have HM := Lib.hid (fun W => meet9_any lo hi s.lo s.hi W)
      obtain ⟨xl, xh⟩ := s
      dsimp only at e0 e1 HS HM
      generalize meetL lo hi xl xh = T at *
      obtain ⟨m1, m2, m3⟩ := T
      dsimp only at HS HM
      have jn : ((j : Int)).toNat = j := by omega
      have j0 : (0 : Int) ≤ j := by omega
      clear hcf hs hG
      go_wp2_with fail
      refine (HM.out _).mono ?_
      rintro e w2 ⟨rfl, hb⟩
      have hbr : Below wr.heap.size wr w2 := Below.trans (by (repeat first | with_reducible exact Below.refl _ _ | (with_reducible refine Below.alloc ?_ ?_ _; rotate_left; exact (by omega)))) (hb.mono (by ((try simp only [World.size_alloc, World.size_setCell, size_drew, size_drewN]); omega)))
      have hB2 := hB.trans (hbr.mono hB.size)
      have hRt2 := HRt.out.below hbr
      have hRa2 := HRa.out.below hbr
      clear a0 a1 t0 t1 af0 af1 tf0 tf1 e0 e1
      have a0 := hRa2.cell 0 (.int .i64 lo) rfl
      have a1 := hRa2.cell 1 (.int .i64 hi) rfl
      have t0 := hRt2.cell 0 (.int .i64 0) rfl
      have t1 := hRt2.cell 1 (.int .i64 0) rfl
      have af0 := hRa2.mark 0 (by simp)
      have af1 := hRa2.mark 1 (by simp)
      have tf0 := hRt2.mark 0 (by simp)
      have tf1 := hRt2.mark 1 (by simp)
      have al2 := hRa2.lt
      have sz2 := hB2.size
      have hz2 : w.heap.size < w2.heap.size := by omega
      have HRt2 := Lib.hid hRt2
      have HRa2 := Lib.hid hRa2
      clear hRt2 hRa2 hb hbr HRt HRa HM
      by_cases hm : m3 = 0
      · subst hm
        have HN := Lib.hid (HS.out)
        rw [if_pos rfl] at HN
        clear HS
        go_wp2_with fail
        go_roundw
        case rel => exact ⟨j + 1, m1, m2, by omega, by go_num, HN, by first | exact (((HRt2.out.alloc _).far (by dsimp only; omega) _).far (by dsimp only; omega) _) | exact (((HRt2.out.far (by dsimp only; omega) _).far (by dsimp only; omega) _).alloc _), by first | exact ((HRa2.out.alloc _).put 0 _ (by simp)).put 1 _ (by simp) | exact ((HRa2.out.put 0 _ (by simp)).put 1 _ (by simp)).alloc _, by (repeat first | with_reducible assumption | (with_reducible refine Below.setCell ?_ ?_ _; rotate_left; exact (by (simp; omega))) | (with_reducible refine Below.alloc ?_ ?_ _; rotate_left; exact (by (simp; omega))))⟩
        case measure => simp [intOf]; omega
      · have hmb : (m3 != 0) = true := by rw [bne_iff_ne]; exact hm
        have HN := Lib.hid HS.out
        rw [if_neg hm] at HN
        have hN := HN.out
        obtain ⟨rfl, h2⟩ := Prod.mk.inj hN
        obtain ⟨rfl, rfl⟩ := Prod.mk.inj h2
        clear HS HN hN h2 hm
        go_wp2_with fail
        exact bodyPost_ret (res3p Tryz.results45 _ _ _ _ _ _ rfl rfl (by go_simp) (by go_simp)) rfl ⟨rfl, by (repeat first | with_reducible assumption | (with_reducible refine Below.setCell ?_ ?_ _; rotate_left; exact (by (simp; done))) | (with_reducible refine Below.alloc ?_ ?_ _; rotate_left; exact (by (simp; omega))))⟩
    · have hN := hG.out
      rw [List.drop_of_length_le (by omega)] at hN
      obtain ⟨rfl, h2⟩ := Prod.mk.inj hN
      obtain ⟨rfl, rfl⟩ := Prod.mk.inj h2
      clear hN h2 hG
      go_wp2_with fail
      exact bodyPost_ret (res3 Tryz.results45 _ _ _ _ _ _ rfl rfl (by (try simp only [isSome_setCell]); first | assumption | go_simp) (by (try simp only [isSome_setCell]); first | assumption | go_simp)) rfl ⟨rfl, by (repeat first | with_reducible assumption | (with_reducible refine Below.setCell ?_ ?_ _; rotate_left; exact (by (simp; done))))⟩
end
section
open Go.RowKit Go.Shelf
theorem blk_new {w : World} {g : Nat} {o : Obj} (h : g = w.heap.size) : (w.alloc o).heap[g]? = some o := by
  rw [h]; exact heap_alloc_new w o
theorem ZeroL.newAt {b n : Nat} {W : World} {t : TypeId} (h : b = W.heap.size) (hn : n ≤ 1000000000000) : ZeroL b n (W.alloc (.cells (madeCells #[.int .i64 0] n) t)) := by
  rw [h]; exact ZeroL.new W n t hn
theorem blk_alloc {w : World} {g : Nat} {o : Obj} (h : w.heap[g]? = some o) (c : Obj) : (w.alloc c).heap[g]? = some o :=
  (((Below.refl _ w).alloc (Nat.le_refl _) c).block g (Array.getElem?_eq_some_iff.1 h).1).trans h
theorem blk_drew {w : World} {g : Nat} {o : Obj} (h : w.heap[g]? = some o) : w.drew.heap[g]? = some o := h
theorem blk_below {w w' : World} {g : Nat} {o : Obj} (h : w.heap[g]? = some o) (hb : Below w.heap.size w w') : w'.heap[g]? = some o :=
  (hb.block g (Array.getElem?_eq_some_iff.1 h).1).trans h
set_option maxRecDepth 100000 in
set_option maxHeartbeats 8000000 in
theorem rdark_any (R : MachR) (M : MachD) (A1 B1 C1 : Option Addr) (na qa nb qb nc qc : Nat) (z1 z2 : List Int) (w : World) (h1 : IsT 1 intCells w A1 na z1) (h2 : IsT 1 intCells w B1 nb z2) (l1 : na ≤ 1000) (l2 : nb ≤ 1000) (l3 : nc ≤ 1000) :
    Calls Tryz.prog 39 #[.agg (machCells R M), .agg #[.slice A1 na qa, .slice B1 nb qb, .slice C1 nc qc]] w (Dark na nb nc z1 z2 w) := by
  have HI1 := Lib.hid (fun W (hb : Below w.heap.size w W) => h1.below hb)
  have HI2 := Lib.hid (fun W (hb : Below w.heap.size w W) => h2.below hb)
  clear h1 h2
  have hmk := run_make_row' (P := Tryz.prog) 30 3 (.int .i64 0) 8 Tryz.underlying30 infoI rfl .i64 .i64 nc (by omega) (by omega)
  obtain ⟨A, B, Cl, D, la, ca, lb, cb, lc, cl, ld, cd⟩ := R
  obtain ⟨name, coils, shells, limits, ⟨r, z, nr, nz, step⟩, sensors⟩ := M
  show Calls Tryz.prog 39 #[.agg #[.string name, .slice A la ca, .slice B lb cb, .slice Cl lc cl, .int .i64 r, .int .i64 z, .int .i64 nr, .int .i64 nz, .int .i64 step, .slice D ld cd], .agg #[.slice A1 na qa, .slice B1 nb qb, .slice C1 nc qc]] w _
  go_enter Tryz.func39, Tryz.ntmps39
  go_upto_region 1 with (fail)
  have Fm : Hid (RowL (w.heap.size) [.string name, .slice A la ca, .slice B lb cb, .slice Cl lc cl, .int .i64 r, .int .i64 z, .int .i64 nr, .int .i64 nz, .int .i64 step, .slice D ld cd] (((w.alloc (.cells #[.string name, .slice A la ca, .slice B lb cb, .slice Cl lc cl, .int .i64 r, .int .i64 z, .int .i64 nr, .int .i64 nz, .int .i64 step, .slice D ld cd] 29)).alloc (.cells #[.slice A1 na qa, .slice B1 nb qb, .slice C1 nc qc] 32)).alloc (.cells #[.slice none 0 0, .slice none 0 0, .slice none 0 0] 32))) := Lib.hid (by have h := RowL.new w #[.string name, .slice A la ca, .slice B lb cb, .slice Cl lc cl, .int .i64 r, .int .i64 z, .int .i64 nr, .int .i64 nz, .int .i64 step, .slice D ld cd] 29; (try simp only [World.size_alloc] at h); exact ((h.alloc _).alloc _))
  have Fc : Hid (RowL (w.heap.size + 1) [.slice A1 na qa, .slice B1 nb qb, .slice C1 nc qc] (((w.alloc (.cells #[.string name, .slice A la ca, .slice B lb cb, .slice Cl lc cl, .int .i64 r, .int .i64 z, .int .i64 nr, .int .i64 nz, .int .i64 step, .slice D ld cd] 29)).alloc (.cells #[.slice A1 na qa, .slice B1 nb qb, .slice C1 nc qc] 32)).alloc (.cells #[.slice none 0 0, .slice none 0 0, .slice none 0 0] 32))) := Lib.hid (by have h := RowL.new (w.alloc (.cells #[.string name, .slice A la ca, .slice B lb cb, .slice Cl lc cl, .int .i64 r, .int .i64 z, .int .i64 nr, .int .i64 nz, .int .i64 step, .slice D ld cd] 29)) #[.slice A1 na qa, .slice B1 nb qb, .slice C1 nc qc] 32; (try simp only [World.size_alloc] at h); exact (h.alloc _))
  have Ft : Hid (RowL (w.heap.size + 1 + 1) [.slice none 0 0, .slice none 0 0, .slice none 0 0] (((w.alloc (.cells #[.string name, .slice A la ca, .slice B lb cb, .slice Cl lc cl, .int .i64 r, .int .i64 z, .int .i64 nr, .int .i64 nz, .int .i64 step, .slice D ld cd] 29)).alloc (.cells #[.slice A1 na qa, .slice B1 nb qb, .slice C1 nc qc] 32)).alloc (.cells #[.slice none 0 0, .slice none 0 0, .slice none 0 0] 32))) := Lib.hid (by have h := RowL.new ((w.alloc (.cells #[.string name, .slice A la ca, .slice B lb cb, .slice Cl lc cl, .int .i64 r, .int .i64 z, .int .i64 nr, .int .i64 nz, .int .i64 step, .slice D ld cd] 29)).alloc (.cells #[.slice A1 na qa, .slice B1 nb qb, .slice C1 nc qc] 32)) #[.slice none 0 0, .slice none 0 0, .slice none 0 0] 32; (try simp only [World.size_alloc] at h); exact h)
  have hB0 : Below w.heap.size w (((w.alloc (.cells #[.string name, .slice A la ca, .slice B lb cb, .slice Cl lc cl, .int .i64 r, .int .i64 z, .int .i64 nr, .int .i64 nz, .int .i64 step, .slice D ld cd] 29)).alloc (.cells #[.slice A1 na qa, .slice B1 nb qb, .slice C1 nc qc] 32)).alloc (.cells #[.slice none 0 0, .slice none 0 0, .slice none 0 0] 32)) := by (with_reducible repeat first | exact Below.refl _ _ | assumption | ((first | refine Below.setCell ?_ ?_ _ | refine Below.alloc ?_ ?_ _); rotate_left; exact (by first | omega | (simp; done) | (simp; omega))) | refine Below.drew ?_ | refine Below_drewN ?_ _)
  have sW0 : w.heap.size + 1 + 1 < (((w.alloc (.cells #[.string name, .slice A la ca, .slice B lb cb, .slice Cl lc cl, .int .i64 r, .int .i64 z, .int .i64 nr, .int .i64 nz, .int .i64 step, .slice D ld cd] 29)).alloc (.cells #[.slice A1 na qa, .slice B1 nb qb, .slice C1 nc qc] 32)).alloc (.cells #[.slice none 0 0, .slice none 0 0, .slice none 0 0] 32)).heap.size := by simp only [World.size_alloc]; omega
  obtain ⟨W0, hW0⟩ : ∃ W, (((w.alloc (.cells #[.string name, .slice A la ca, .slice B lb cb, .slice Cl lc cl, .int .i64 r, .int .i64 z, .int .i64 nr, .int .i64 nz, .int .i64 step, .slice D ld cd] 29)).alloc (.cells #[.slice A1 na qa, .slice B1 nb qb, .slice C1 nc qc] 32)).alloc (.cells #[.slice none 0 0, .slice none 0 0, .slice none 0 0] 32)) = W := ⟨_, rfl⟩
  rw [hW0] at Fm Fc Ft hB0 sW0 ⊢
  clear hW0
  have m0 := Fm.out.cell 0 (.string name) rfl
  have m1 := Fm.out.cell 1 (.slice A la ca) rfl
  have m2 := Fm.out.cell 2 (.slice B lb cb) rfl
  have m3 := Fm.out.cell 3 (.slice Cl lc cl) rfl
  have m4 := Fm.out.cell 4 (.int .i64 r) rfl
  have m5 := Fm.out.cell 5 (.int .i64 z) rfl
  have m6 := Fm.out.cell 6 (.int .i64 nr) rfl
  have m7 := Fm.out.cell 7 (.int .i64 nz) rfl
  have m8 := Fm.out.cell 8 (.int .i64 step) rfl
  have m9 := Fm.out.cell 9 (.slice D ld cd) rfl
  have c0 := Fc.out.cell 0 (.slice A1 na qa) rfl
  have c1 := Fc.out.cell 1 (.slice B1 nb qb) rfl
  have c2 := Fc.out.cell 2 (.slice C1 nc qc) rfl
  have t0 := Ft.out.cell 0 (.slice none 0 0) rfl
  have tf0 := Ft.out.mark 0 (by simp)
  have t1 := Ft.out.cell 1 (.slice none 0 0) rfl
  have tf1 := Ft.out.mark 1 (by simp)
  have t2 := Ft.out.cell 2 (.slice none 0 0) rfl
  have tf2 := Ft.out.mark 2 (by simp)
  clear Fm Fc m0 m1 m2 m3 m4 m5 m6 m7 m8 m9
  have HS : Hid (∀ w' : World, Reg (w.heap.size + 1 + 1) (W0) w' → (Reg (w.heap.size + 1 + 1) (W0) w' ∧ w'.cell? ⟨w.heap.size + 1, 0, none⟩ = some (.slice A1 na qa) ∧ w'.cell? ⟨w.heap.size + 1, 1, none⟩ = some (.slice B1 nb qb) ∧ w'.cell? ⟨w.heap.size + 1, 2, none⟩ = some (.slice C1 nc qc) ∧ w'.cell? ⟨w.heap.size + 1 + 1, 0, none⟩ = some (cur w' ⟨w.heap.size + 1 + 1, 0, none⟩) ∧ w'.frozen? ⟨w.heap.size + 1 + 1, 0, none⟩ = false ∧ w'.cell? ⟨w.heap.size + 1 + 1, 1, none⟩ = some (cur w' ⟨w.heap.size + 1 + 1, 1, none⟩) ∧ w'.frozen? ⟨w.heap.size + 1 + 1, 1, none⟩ = false ∧ w'.cell? ⟨w.heap.size + 1 + 1, 2, none⟩ = some (cur w' ⟨w.heap.size + 1 + 1, 2, none⟩) ∧ w'.frozen? ⟨w.heap.size + 1 + 1, 2, none⟩ = false)) := (fun w' h => by (have hc := h.cells; have hs := h.some; have hf := h.frozen; refine ⟨h, ?_⟩; (try simp only [World.size_alloc, World.size_setCell, size_drew, size_drewN] at hc hs hf); first | (simp (disch := omega) only [hc, hs, hf, cur_iff]; (try go_simp); done) | (simp (disch := first | omega | (simp; done)) only [hc, hs, hf, cur_iff]; (try go_simp); done) | (simp (maxDischargeDepth := 4) [hc, hs, hf, cur_iff, go_sem]; done) | (go_simp; done) | (simp (maxDischargeDepth := 4) [hc, hs, hf, cur_iff, go_sem]; go_simp))); go_region_held3 (fun w' => Reg (w.heap.size + 1 + 1) (W0) w' ∧ w'.cell? ⟨w.heap.size + 1, 0, none⟩ = some (.slice A1 na qa) ∧ w'.cell? ⟨w.heap.size + 1, 1, none⟩ = some (.slice B1 nb qb) ∧ w'.cell? ⟨w.heap.size + 1, 2, none⟩ = some (.slice C1 nc qc) ∧ w'.cell? ⟨w.heap.size + 1 + 1, 0, none⟩ = some (cur w' ⟨w.heap.size + 1 + 1, 0, none⟩) ∧ w'.frozen? ⟨w.heap.size + 1 + 1, 0, none⟩ = false ∧ w'.cell? ⟨w.heap.size + 1 + 1, 1, none⟩ = some (cur w' ⟨w.heap.size + 1 + 1, 1, none⟩) ∧ w'.frozen? ⟨w.heap.size + 1 + 1, 1, none⟩ = false ∧ w'.cell? ⟨w.heap.size + 1 + 1, 2, none⟩ = some (cur w' ⟨w.heap.size + 1 + 1, 2, none⟩) ∧ w'.frozen? ⟨w.heap.size + 1 + 1, 2, none⟩ = false) (exact HS.out _ (by (repeat first | with_reducible exact Reg.refl _ _ | with_reducible exact Reg.drewN2 _ _ _ _ | with_reducible exact (‹Reg _ _ _ ∧ _›).1 | (with_reducible refine Reg.setCell ?_ ?_ _; rotate_left; exact (by first | omega | ((try simp only [World.size_alloc, World.size_setCell, size_drew, size_drewN]); omega) | (simp; done) | (simp; omega))) | with_reducible refine Reg.alloc ?_ _ | with_reducible refine Reg.drew ?_ | with_reducible refine Reg.drewN ?_ _ | (with_reducible apply Reg.call; rotate_left; with_reducible assumption)))) (first | (refine push_new W0.heap.size rfl (Operand.tmp 5) (Operand.tmp 7) rfl _ rfl (by (repeat first | exact blk_new (by first | omega | ((try simp only [World.size_alloc, World.size_setCell, size_drew, size_drewN]); omega) | (simp; done) | (simp; omega)) | with_reducible refine blk_alloc ?_ _ | with_reducible refine blk_drew ?_ | (with_reducible apply blk_below; rotate_left; with_reducible assumption))) A1 na qa z1 rfl (HI1.out _ (Reg.out (x := w.heap.size + 1 + 1) (by (repeat first | with_reducible exact Reg.refl _ _ | with_reducible exact Reg.drewN2 _ _ _ _ | with_reducible exact (‹Reg _ _ _ ∧ _›).1 | (with_reducible refine Reg.setCell ?_ ?_ _; rotate_left; exact (by first | omega | ((try simp only [World.size_alloc, World.size_setCell, size_drew, size_drewN]); omega) | (simp; done) | (simp; omega))) | with_reducible refine Reg.alloc ?_ _ | with_reducible refine Reg.drew ?_ | with_reducible refine Reg.drewN ?_ _ | (with_reducible apply Reg.call; rotate_left; with_reducible assumption))) hB0 (by first | omega | (simp; done) | (simp; omega)))) (by omega) (by (try simp only [World.size_alloc, World.size_setCell, size_drew, size_drewN]); omega) (by (try simp only [World.size_alloc, World.size_setCell, size_drew, size_drewN]); omega) ?_; intro Ac cac w8 hnc hac hbc; have hb := hbc; (first | (with_reducible have hk := Nat.lt_of_lt_of_le (size_alloc_lt _ _) hb.size) | (with_reducible have hk := Nat.lt_of_lt_of_le (size_alloc_drew_lt _ _) hb.size) | (with_reducible have hk := Nat.lt_of_lt_of_le hk hb.size) | skip); (try simp only [World.size_alloc, World.size_setCell, size_drew, size_drewN] at hk); obtain ⟨hc, hf⟩ := bcell hb; have hs := hb.size; (try simp only [World.size_alloc, World.size_setCell, size_drew, size_drewN] at hs); clear hb) | (refine push_new W0.heap.size rfl (Operand.tmp 9) (Operand.tmp 11) rfl _ rfl (by (repeat first | exact blk_new (by first | omega | ((try simp only [World.size_alloc, World.size_setCell, size_drew, size_drewN]); omega) | (simp; done) | (simp; omega)) | with_reducible refine blk_alloc ?_ _ | with_reducible refine blk_drew ?_ | (with_reducible apply blk_below; rotate_left; with_reducible assumption))) B1 nb qb z2 rfl (HI2.out _ (Reg.out (x := w.heap.size + 1 + 1) (by (repeat first | with_reducible exact Reg.refl _ _ | with_reducible exact Reg.drewN2 _ _ _ _ | with_reducible exact (‹Reg _ _ _ ∧ _›).1 | (with_reducible refine Reg.setCell ?_ ?_ _; rotate_left; exact (by first | omega | ((try simp only [World.size_alloc, World.size_setCell, size_drew, size_drewN]); omega) | (simp; done) | (simp; omega))) | with_reducible refine Reg.alloc ?_ _ | with_reducible refine Reg.drew ?_ | with_reducible refine Reg.drewN ?_ _ | (with_reducible apply Reg.call; rotate_left; with_reducible assumption))) hB0 (by first | omega | (simp; done) | (simp; omega)))) (by omega) (by (try simp only [World.size_alloc, World.size_setCell, size_drew, size_drewN]); omega) (by (try simp only [World.size_alloc, World.size_setCell, size_drew, size_drewN]); omega) ?_; intro As cas w9 hns has hbs; have hb := hbs; (first | (with_reducible have hk := Nat.lt_of_lt_of_le (size_alloc_lt _ _) hb.size) | (with_reducible have hk := Nat.lt_of_lt_of_le (size_alloc_drew_lt _ _) hb.size) | (with_reducible have hk := Nat.lt_of_lt_of_le hk hb.size) | skip); (try simp only [World.size_alloc, World.size_setCell, size_drew, size_drewN] at hk); obtain ⟨hc, hf⟩ := bcell hb; have hs := hb.size; (try simp only [World.size_alloc, World.size_setCell, size_drew, size_drewN] at hs); clear hb))
  all_goals go_wp2_with fail
  all_goals (have zz1 := hbc.size; have zz2 := hbs.size; (try simp only [World.size_alloc, World.size_setCell, size_drew, size_drewN] at zz1 zz2))
  all_goals (have q1 := hnc.new; have q2 := hnc.lt; have q3 := hns.new; have q4 := hns.lt; (try simp only [World.size_alloc, World.size_setCell, size_drew, size_drewN] at q1 q2 q3 q4 hac has))
  all_goals (have hnc0 := hnc.mono (B' := w.heap.size) (by (try simp only [World.size_alloc, World.size_setCell, size_drew, size_drewN]); omega); have hns0 := hns.mono (B' := w.heap.size) (by (try simp only [World.size_alloc, World.size_setCell, size_drew, size_drewN]); omega))
  all_goals exact bodyPost_ret (resC3 Tryz.results39 _ _ _ _ _ _ rfl ((Reg.some (x := w.heap.size + 1 + 1) (W := W0) (by (repeat first | with_reducible exact Reg.refl _ _ | with_reducible exact Reg.drewN2 _ _ _ _ | with_reducible exact (‹Reg _ _ _ ∧ _›).1 | (with_reducible refine Reg.setCell ?_ ?_ _; rotate_left; exact (by first | omega | ((try simp only [World.size_alloc, World.size_setCell, size_drew, size_drewN]); omega) | (simp; done) | (simp; omega))) | with_reducible refine Reg.alloc ?_ _ | with_reducible refine Reg.drew ?_ | with_reducible refine Reg.drewN ?_ _ | (with_reducible apply Reg.call; rotate_left; with_reducible assumption))) (w.heap.size + 1 + 1) 0 (by omega)).trans (by rw [t0]; rfl)) ((Reg.some (x := w.heap.size + 1 + 1) (W := W0) (by (repeat first | with_reducible exact Reg.refl _ _ | with_reducible exact Reg.drewN2 _ _ _ _ | with_reducible exact (‹Reg _ _ _ ∧ _›).1 | (with_reducible refine Reg.setCell ?_ ?_ _; rotate_left; exact (by first | omega | ((try simp only [World.size_alloc, World.size_setCell, size_drew, size_drewN]); omega) | (simp; done) | (simp; omega))) | with_reducible refine Reg.alloc ?_ _ | with_reducible refine Reg.drew ?_ | with_reducible refine Reg.drewN ?_ _ | (with_reducible apply Reg.call; rotate_left; with_reducible assumption))) (w.heap.size + 1 + 1) 1 (by omega)).trans (by rw [t1]; rfl)) ((Reg.some (x := w.heap.size + 1 + 1) (W := W0) (by (repeat first | with_reducible exact Reg.refl _ _ | with_reducible exact Reg.drewN2 _ _ _ _ | with_reducible exact (‹Reg _ _ _ ∧ _›).1 | (with_reducible refine Reg.setCell ?_ ?_ _; rotate_left; exact (by first | omega | ((try simp only [World.size_alloc, World.size_setCell, size_drew, size_drewN]); omega) | (simp; done) | (simp; omega))) | with_reducible refine Reg.alloc ?_ _ | with_reducible refine Reg.drew ?_ | with_reducible refine Reg.drewN ?_ _ | (with_reducible apply Reg.call; rotate_left; with_reducible assumption))) (w.heap.size + 1 + 1) 2 (by omega)).trans (by rw [t2]; rfl))) rfl ⟨_, _, _, _, _, rfl, ⟨(by (repeat first | with_reducible assumption | (with_reducible refine NewI.setCell ?_ (fun a ha => (by have h9 := q1 a ha; dsimp only; omega)) _) | with_reducible refine NewI.alloc ?_ _ | with_reducible refine NewI.drew ?_ | (with_reducible apply NewI.below; rotate_left; with_reducible assumption))), (by (repeat first | with_reducible assumption | (with_reducible refine NewI.setCell ?_ (fun a ha => (by have h9 := q3 a ha; dsimp only; omega)) _) | with_reducible refine NewI.alloc ?_ _ | with_reducible refine NewI.drew ?_ | (with_reducible apply NewI.below; rotate_left; with_reducible assumption))), (by (try simp only [World.size_alloc, World.size_setCell, size_drew, size_drewN]); omega), by (simp; try omega), ⟨fun a ha => (by have h9 := q1 a ha; have h8 := q2 a ha; have h7 := hac a ha; (try simp only [World.size_alloc, World.size_setCell, size_drew, size_drewN]); omega), fun a ha => (by have h9 := q3 a ha; have h8 := q4 a ha; have h7 := has a ha; (try simp only [World.size_alloc, World.size_setCell, size_drew, size_drewN]); omega)⟩, by (repeat first | with_reducible assumption | (with_reducible refine ZeroL.newAt ?_ ?_; exact (by first | omega | ((try simp only [World.size_alloc, World.size_setCell, size_drew, size_drewN]); omega) | (simp; done) | (simp; omega)); omega) | (with_reducible refine ZeroL.setCell ?_ (by dsimp only; omega) _) | with_reducible refine ZeroL.alloc ?_ _ | with_reducible refine ZeroL.drew ?_ | (with_reducible apply ZeroL.below; rotate_left; with_reducible assumption))⟩, Reg.out (x := w.heap.size + 1 + 1) (by (repeat first | with_reducible exact Reg.refl _ _ | with_reducible exact Reg.drewN2 _ _ _ _ | with_reducible exact (‹Reg _ _ _ ∧ _›).1 | (with_reducible refine Reg.setCell ?_ ?_ _; rotate_left; exact (by first | omega | ((try simp only [World.size_alloc, World.size_setCell, size_drew, size_drewN]); omega) | (simp; done) | (simp; omega))) | with_reducible refine Reg.alloc ?_ _ | with_reducible refine Reg.drew ?_ | with_reducible refine Reg.drewN ?_ _ | (with_reducible apply Reg.call; rotate_left; with_reducible assumption))) hB0 (by omega)⟩
end
end Go.Proofs.YthggkidiidnaoaaGreatDoor
