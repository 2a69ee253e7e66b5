import Derived.Test.YtapldonpflgnfaaDoorMAA
import Derived.Test.YtapldonpflgnfaaDoorMAG
import Derived.Test.YtapldonpflgnfaaDoorMBC
import Derived.Test.YtapldonpflgnfaaDoorMBD
import Derived.Test.YtapldonpflgnfaaDoorRows
import Derived.KernelRfl
import Derived.Laws.StructEq
import Derived.ProofKit
import Derived.OpenShut
import Derived.Lib.SmallJoins
import Derived.Deep.Slices
import Derived.Carry
namespace Go.Proofs.YtapldonpflgnfaaDoor
set_option linter.unusedVariables false
set_option linter.unusedSimpArgs false
section
open Go.RowKit Go.Shelf
theorem res3p {fn : Func} {p u : Tmp} (h : fn.results = #[.cell p 49, .tmp u]) (tmps : Array Value) (W : World) (b : Nat) (x y z : Value)
    (hp : tmps.getD p undef = .pointer (some ⟨b, 0, none⟩)) (hu : tmps.getD u undef = z) (h0 : W.cell? ⟨b, 0, none⟩ = some x) (h1 : W.cell? ⟨b, 1, none⟩ = some y) :
    (results fn tmps).run Tryd.prog W = .ok (.tuple #[.agg #[x, y], z]) W := by
  rw [results_cell_tmp h, hp, hu]
  simp [go_sem, h0, h1]
def gainL (x : Tri) : Int × Int × Int :=
  if okP x = true then if gHi x < gLo x then (0, 0, 8) else if vld (gLo x) (gHi x) = true then (gLo x, gHi x, 0) else (0, 0, 9) else (0, 0, 1)
set_option maxHeartbeats 2000000 in
theorem gain_any (v lo hi : Int) (w : World) : Calls Tryd.prog 9 #[Pr (v, lo, hi)] w (Ret (.tuple #[.agg #[.int .i64 (gainL (v, lo, hi)).1, .int .i64 (gainL (v, lo, hi)).2.1], .int .i64 (gainL (v, lo, hi)).2.2]) w) := by
  have HV := Lib.hid (fun W => validPair_any v lo hi W)
  by_cases hk : okP (v, lo, hi) = true
  · have HG := Lib.hid (fun W => gains_any v lo hi W hk)
    rw [hk] at HV
    by_cases h8 : gHi (v, lo, hi) < gLo (v, lo, hi)
    · rw [show gainL (v, lo, hi) = (0, 0, 8) by unfold gainL; rw [if_pos hk, if_pos h8]]
      generalize gHi (v, lo, hi) = b at *
      generalize gLo (v, lo, hi) = a at *
      clear hk
      go_enter Tryd.func9, Tryd.ntmps9
      go_wp2_with (first | (go_at_call 22; refine (HV.out _).mono ?_; rintro e w1 ⟨rfl, hb⟩; have hB : Below w.heap.size w w1 := Below.trans (by (repeat first | with_reducible exact Below.refl _ _ | (with_reducible refine Below.alloc ?_ ?_ _; rotate_left; exact (by first | omega | (simp; done))))) (hb.mono (by (simp; omega))); obtain ⟨hc, hf⟩ := bcell hb; have hs := hb.size; clear hb; (try simp only [World.size_alloc, World.size_setCell] at hc hf); (try simp only [World.size_alloc, World.size_setCell] at hs); (try have hs' := Nat.lt_of_succ_le hs); (try have hs0 : w.heap.size < w1.heap.size := by omega); (try have hs1 : w.heap.size + 1 < w1.heap.size := by omega); (try have hs2 : w.heap.size + 1 + 1 < w1.heap.size := by omega); (try have hs3 : w.heap.size + 1 + 1 + 1 < w1.heap.size := by omega); (try have iso : (w1.cell? ⟨w.heap.size, 0, none⟩).isSome = true := by (rw [hc _ _ (by omega)]; (try simp only [isSome_setCell]); first | assumption | go_simp)); (try have iso : (w1.cell? ⟨w.heap.size, 1, none⟩).isSome = true := by (rw [hc _ _ (by omega)]; (try simp only [isSome_setCell]); first | assumption | go_simp)); (try have iso : (w1.cell? ⟨w.heap.size + 1, 0, none⟩).isSome = true := by (rw [hc _ _ (by omega)]; (try simp only [isSome_setCell]); first | assumption | go_simp)); (try have iso : (w1.cell? ⟨w.heap.size + 1, 1, none⟩).isSome = true := by (rw [hc _ _ (by omega)]; (try simp only [isSome_setCell]); first | assumption | go_simp)); (try have iso : (w1.cell? ⟨w.heap.size + 1 + 1, 0, none⟩).isSome = true := by (rw [hc _ _ (by first | omega | (simp; done) | (simp; omega))]; (try simp only [isSome_setCell]); first | assumption | go_simp)); (try have iso : (w1.cell? ⟨w.heap.size + 1 + 1, 1, none⟩).isSome = true := by (rw [hc _ _ (by first | omega | (simp; done) | (simp; omega))]; (try simp only [isSome_setCell]); first | assumption | go_simp))) | (go_at_call 23; refine (HG.out _).mono ?_; rintro e w1 ⟨rfl, hb⟩; have hB : Below w.heap.size w w1 := Below.trans (by (repeat with_reducible assumption)) (hb.mono (by omega)); obtain ⟨hc, hf⟩ := bcell hb; have hs := hb.size; clear hb; (try simp only [World.size_alloc, World.size_setCell] at hc hf); (try simp only [World.size_alloc, World.size_setCell] at hs); (try have hs' := Nat.lt_of_succ_le hs); (try have hs0 : w.heap.size < w1.heap.size := by omega); (try have hs1 : w.heap.size + 1 < w1.heap.size := by omega); (try have hs2 : w.heap.size + 1 + 1 < w1.heap.size := by omega); (try have hs3 : w.heap.size + 1 + 1 + 1 < w1.heap.size := by omega); (try have iso : (w1.cell? ⟨w.heap.size, 0, none⟩).isSome = true := by (rw [hc _ _ (by omega)]; (try simp only [isSome_setCell]); first | assumption | go_simp)); (try have iso : (w1.cell? ⟨w.heap.size, 1, none⟩).isSome = true := by (rw [hc _ _ (by omega)]; (try simp only [isSome_setCell]); first | assumption | go_simp)); (try have iso : (w1.cell? ⟨w.heap.size + 1, 0, none⟩).isSome = true := by (rw [hc _ _ (by omega)]; (try simp only [isSome_setCell]); first | assumption | go_simp)); (try have iso : (w1.cell? ⟨w.heap.size + 1, 1, none⟩).isSome = true := by (rw [hc _ _ (by omega)]; (try simp only [isSome_setCell]); first | assumption | go_simp)); (try have iso : (w1.cell? ⟨w.heap.size + 1 + 1, 0, none⟩).isSome = true := by (rw [hc _ _ (by first | omega | (simp; done) | (simp; omega))]; (try simp only [isSome_setCell]); first | assumption | go_simp)); (try have iso : (w1.cell? ⟨w.heap.size + 1 + 1, 1, none⟩).isSome = true := by (rw [hc _ _ (by first | omega | (simp; done) | (simp; omega))]; (try simp only [isSome_setCell]); first | assumption | go_simp))))
      exact bodyPost_ret (res3p Tryd.results9 _ _ _ _ _ _ rfl rfl (by go_simp) (by go_simp)) rfl ⟨rfl, by (repeat first | with_reducible assumption | (with_reducible refine Below.setCell ?_ ?_ _; rotate_left; exact (by (simp; done))) | (with_reducible refine Below.alloc ?_ ?_ _; rotate_left; exact (by (simp; omega))))⟩
    · by_cases hv : vld (gLo (v, lo, hi)) (gHi (v, lo, hi)) = true
      · rw [show gainL (v, lo, hi) = (gLo (v, lo, hi), gHi (v, lo, hi), 0) by unfold gainL; rw [if_pos hk, if_neg h8, if_pos hv]]
        generalize gHi (v, lo, hi) = b at *
        generalize gLo (v, lo, hi) = a at *
        clear hk
        go_enter Tryd.func9, Tryd.ntmps9
        go_wp2_with (first | (go_at_call 22; refine (HV.out _).mono ?_; rintro e w1 ⟨rfl, hb⟩; have hB : Below w.heap.size w w1 := Below.trans (by (repeat first | with_reducible exact Below.refl _ _ | (with_reducible refine Below.alloc ?_ ?_ _; rotate_left; exact (by first | omega | (simp; done))))) (hb.mono (by (simp; omega))); obtain ⟨hc, hf⟩ := bcell hb; have hs := hb.size; clear hb; (try simp only [World.size_alloc, World.size_setCell] at hc hf); (try simp only [World.size_alloc, World.size_setCell] at hs); (try have hs' := Nat.lt_of_succ_le hs); (try have hs0 : w.heap.size < w1.heap.size := by omega); (try have hs1 : w.heap.size + 1 < w1.heap.size := by omega); (try have hs2 : w.heap.size + 1 + 1 < w1.heap.size := by omega); (try have hs3 : w.heap.size + 1 + 1 + 1 < w1.heap.size := by omega); (try have iso : (w1.cell? ⟨w.heap.size, 0, none⟩).isSome = true := by (rw [hc _ _ (by omega)]; (try simp only [isSome_setCell]); first | assumption | go_simp)); (try have iso : (w1.cell? ⟨w.heap.size, 1, none⟩).isSome = true := by (rw [hc _ _ (by omega)]; (try simp only [isSome_setCell]); first | assumption | go_simp)); (try have iso : (w1.cell? ⟨w.heap.size + 1, 0, none⟩).isSome = true := by (rw [hc _ _ (by omega)]; (try simp only [isSome_setCell]); first | assumption | go_simp)); (try have iso : (w1.cell? ⟨w.heap.size + 1, 1, none⟩).isSome = true := by (rw [hc _ _ (by omega)]; (try simp only [isSome_setCell]); first | assumption | go_simp)); (try have iso : (w1.cell? ⟨w.heap.size + 1 + 1, 0, none⟩).isSome = true := by (rw [hc _ _ (by first | omega | (simp; done) | (simp; omega))]; (try simp only [isSome_setCell]); first | assumption | go_simp)); (try have iso : (w1.cell? ⟨w.heap.size + 1 + 1, 1, none⟩).isSome = true := by (rw [hc _ _ (by first | omega | (simp; done) | (simp; omega))]; (try simp only [isSome_setCell]); first | assumption | go_simp))) | (go_at_call 23; refine (HG.out _).mono ?_; rintro e w1 ⟨rfl, hb⟩; have hB : Below w.heap.size w w1 := Below.trans (by (repeat with_reducible assumption)) (hb.mono (by omega)); obtain ⟨hc, hf⟩ := bcell hb; have hs := hb.size; clear hb; (try simp only [World.size_alloc, World.size_setCell] at hc hf); (try simp only [World.size_alloc, World.size_setCell] at hs); (try have hs' := Nat.lt_of_succ_le hs); (try have hs0 : w.heap.size < w1.heap.size := by omega); (try have hs1 : w.heap.size + 1 < w1.heap.size := by omega); (try have hs2 : w.heap.size + 1 + 1 < w1.heap.size := by omega); (try have hs3 : w.heap.size + 1 + 1 + 1 < w1.heap.size := by omega); (try have iso : (w1.cell? ⟨w.heap.size, 0, none⟩).isSome = true := by (rw [hc _ _ (by omega)]; (try simp only [isSome_setCell]); first | assumption | go_simp)); (try have iso : (w1.cell? ⟨w.heap.size, 1, none⟩).isSome = true := by (rw [hc _ _ (by omega)]; (try simp only [isSome_setCell]); first | assumption | go_simp)); (try have iso : (w1.cell? ⟨w.heap.size + 1, 0, none⟩).isSome = true := by (rw [hc _ _ (by omega)]; (try simp only [isSome_setCell]); first | assumption | go_simp)); (try have iso : (w1.cell? ⟨w.heap.size + 1, 1, none⟩).isSome = true := by (rw [hc _ _ (by omega)]; (try simp only [isSome_setCell]); first | assumption | go_simp)); (try have iso : (w1.cell? ⟨w.heap.size + 1 + 1, 0, none⟩).isSome = true := by (rw [hc _ _ (by first | omega | (simp; done) | (simp; omega))]; (try simp only [isSome_setCell]); first | assumption | go_simp)); (try have iso : (w1.cell? ⟨w.heap.size + 1 + 1, 1, none⟩).isSome = true := by (rw [hc _ _ (by first | omega | (simp; done) | (simp; omega))]; (try simp only [isSome_setCell]); first | assumption | go_simp))) | (go_at_call 24; refine (valid_any _ _ _).mono ?_; rintro e w1 ⟨rfl, hb⟩; have hB : Below w.heap.size w w1 := Below.trans (by (repeat first | with_reducible assumption | (with_reducible refine Below.alloc ?_ ?_ _; rotate_left; exact (by omega)))) (hb.mono (by (simp; omega))); obtain ⟨hc, hf⟩ := bcell hb; have hs := hb.size; clear hb; (try simp only [World.size_alloc, World.size_setCell] at hc hf); (try simp only [World.size_alloc, World.size_setCell] at hs); (try have hs' := Nat.lt_of_succ_le hs); (try have hs0 : w.heap.size < w1.heap.size := by omega); (try have hs1 : w.heap.size + 1 < w1.heap.size := by omega); (try have hs2 : w.heap.size + 1 + 1 < w1.heap.size := by omega); (try have hs3 : w.heap.size + 1 + 1 + 1 < w1.heap.size := by omega); (try have iso : (w1.cell? ⟨w.heap.size, 0, none⟩).isSome = true := by (rw [hc _ _ (by omega)]; (try simp only [isSome_setCell]); first | assumption | go_simp)); (try have iso : (w1.cell? ⟨w.heap.size, 1, none⟩).isSome = true := by (rw [hc _ _ (by omega)]; (try simp only [isSome_setCell]); first | assumption | go_simp)); (try have iso : (w1.cell? ⟨w.heap.size + 1, 0, none⟩).isSome = true := by (rw [hc _ _ (by omega)]; (try simp only [isSome_setCell]); first | assumption | go_simp)); (try have iso : (w1.cell? ⟨w.heap.size + 1, 1, none⟩).isSome = true := by (rw [hc _ _ (by omega)]; (try simp only [isSome_setCell]); first | assumption | go_simp)); (try have iso : (w1.cell? ⟨w.heap.size + 1 + 1, 0, none⟩).isSome = true := by (rw [hc _ _ (by omega)]; (try simp only [isSome_setCell]); first | assumption | go_simp)); (try have iso : (w1.cell? ⟨w.heap.size + 1 + 1, 1, none⟩).isSome = true := by (rw [hc _ _ (by omega)]; (try simp only [isSome_setCell]); first | assumption | go_simp))))
        exact bodyPost_ret (res3p Tryd.results9 _ _ _ _ _ _ rfl rfl (by go_simp) (by go_simp)) rfl ⟨rfl, by (repeat first | with_reducible assumption | (with_reducible refine Below.setCell ?_ ?_ _; rotate_left; exact (by (simp; done))))⟩
      · rw [show gainL (v, lo, hi) = (0, 0, 9) by unfold gainL; rw [if_pos hk, if_neg h8, if_neg hv]]
        have hv : vld (gLo (v, lo, hi)) (gHi (v, lo, hi)) = false := by simpa using hv
        generalize gHi (v, lo, hi) = b at *
        generalize gLo (v, lo, hi) = a at *
        clear hk
        go_enter Tryd.func9, Tryd.ntmps9
        go_wp2_with (first | (go_at_call 22; refine (HV.out _).mono ?_; rintro e w1 ⟨rfl, hb⟩; have hB : Below w.heap.size w w1 := Below.trans (by (repeat first | with_reducible exact Below.refl _ _ | (with_reducible refine Below.alloc ?_ ?_ _; rotate_left; exact (by first | omega | (simp; done))))) (hb.mono (by (simp; omega))); obtain ⟨hc, hf⟩ := bcell hb; have hs := hb.size; clear hb; (try simp only [World.size_alloc, World.size_setCell] at hc hf); (try simp only [World.size_alloc, World.size_setCell] at hs); (try have hs' := Nat.lt_of_succ_le hs); (try have hs0 : w.heap.size < w1.heap.size := by omega); (try have hs1 : w.heap.size + 1 < w1.heap.size := by omega); (try have hs2 : w.heap.size + 1 + 1 < w1.heap.size := by omega); (try have hs3 : w.heap.size + 1 + 1 + 1 < w1.heap.size := by omega); (try have iso : (w1.cell? ⟨w.heap.size, 0, none⟩).isSome = true := by (rw [hc _ _ (by omega)]; (try simp only [isSome_setCell]); first | assumption | go_simp)); (try have iso : (w1.cell? ⟨w.heap.size, 1, none⟩).isSome = true := by (rw [hc _ _ (by omega)]; (try simp only [isSome_setCell]); first | assumption | go_simp)); (try have iso : (w1.cell? ⟨w.heap.size + 1, 0, none⟩).isSome = true := by (rw [hc _ _ (by omega)]; (try simp only [isSome_setCell]); first | assumption | go_simp)); (try have iso : (w1.cell? ⟨w.heap.size + 1, 1, none⟩).isSome = true := by (rw [hc _ _ (by omega)]; (try simp only [isSome_setCell]); first | assumption | go_simp)); (try have iso : (w1.cell? ⟨w.heap.size + 1 + 1, 0, none⟩).isSome = true := by (rw [hc _ _ (by first | omega | (simp; done) | (simp; omega))]; (try simp only [isSome_setCell]); first | assumption | go_simp)); (try have iso : (w1.cell? ⟨w.heap.size + 1 + 1, 1, none⟩).isSome = true := by (rw [hc _ _ (by first | omega | (simp; done) | (simp; omega))]; (try simp only [isSome_setCell]); first | assumption | go_simp))) | (go_at_call 23; refine (HG.out _).mono ?_; rintro e w1 ⟨rfl, hb⟩; have hB : Below w.heap.size w w1 := Below.trans (by (repeat with_reducible assumption)) (hb.mono (by omega)); obtain ⟨hc, hf⟩ := bcell hb; have hs := hb.size; clear hb; (try simp only [World.size_alloc, World.size_setCell] at hc hf); (try simp only [World.size_alloc, World.size_setCell] at hs); (try have hs' := Nat.lt_of_succ_le hs); (try have hs0 : w.heap.size < w1.heap.size := by omega); (try have hs1 : w.heap.size + 1 < w1.heap.size := by omega); (try have hs2 : w.heap.size + 1 + 1 < w1.heap.size := by omega); (try have hs3 : w.heap.size + 1 + 1 + 1 < w1.heap.size := by omega); (try have iso : (w1.cell? ⟨w.heap.size, 0, none⟩).isSome = true := by (rw [hc _ _ (by omega)]; (try simp only [isSome_setCell]); first | assumption | go_simp)); (try have iso : (w1.cell? ⟨w.heap.size, 1, none⟩).isSome = true := by (rw [hc _ _ (by omega)]; (try simp only [isSome_setCell]); first | assumption | go_simp)); (try have iso : (w1.cell? ⟨w.heap.size + 1, 0, none⟩).isSome = true := by (rw [hc _ _ (by omega)]; (try simp only [isSome_setCell]); first | assumption | go_simp)); (try have iso : (w1.cell? ⟨w.heap.size + 1, 1, none⟩).isSome = true := by (rw [hc _ _ (by omega)]; (try simp only [isSome_setCell]); first | assumption | go_simp)); (try have iso : (w1.cell? ⟨w.heap.size + 1 + 1, 0, none⟩).isSome = true := by (rw [hc _ _ (by first | omega | (simp; done) | (simp; omega))]; (try simp only [isSome_setCell]); first | assumption | go_simp)); (try have iso : (w1.cell? ⟨w.heap.size + 1 + 1, 1, none⟩).isSome = true := by (rw [hc _ _ (by first | omega | (simp; done) | (simp; omega))]; (try simp only [isSome_setCell]); first | assumption | go_simp))) | (go_at_call 24; refine (valid_any _ _ _).mono ?_; rintro e w1 ⟨rfl, hb⟩; have hB : Below w.heap.size w w1 := Below.trans (by (repeat first | with_reducible assumption | (with_reducible refine Below.alloc ?_ ?_ _; rotate_left; exact (by omega)))) (hb.mono (by (simp; omega))); obtain ⟨hc, hf⟩ := bcell hb; have hs := hb.size; clear hb; (try simp only [World.size_alloc, World.size_setCell] at hc hf); (try simp only [World.size_alloc, World.size_setCell] at hs); (try have hs' := Nat.lt_of_succ_le hs); (try have hs0 : w.heap.size < w1.heap.size := by omega); (try have hs1 : w.heap.size + 1 < w1.heap.size := by omega); (try have hs2 : w.heap.size + 1 + 1 < w1.heap.size := by omega); (try have hs3 : w.heap.size + 1 + 1 + 1 < w1.heap.size := by omega); (try have iso : (w1.cell? ⟨w.heap.size, 0, none⟩).isSome = true := by (rw [hc _ _ (by omega)]; (try simp only [isSome_setCell]); first | assumption | go_simp)); (try have iso : (w1.cell? ⟨w.heap.size, 1, none⟩).isSome = true := by (rw [hc _ _ (by omega)]; (try simp only [isSome_setCell]); first | assumption | go_simp)); (try have iso : (w1.cell? ⟨w.heap.size + 1, 0, none⟩).isSome = true := by (rw [hc _ _ (by omega)]; (try simp only [isSome_setCell]); first | assumption | go_simp)); (try have iso : (w1.cell? ⟨w.heap.size + 1, 1, none⟩).isSome = true := by (rw [hc _ _ (by omega)]; (try simp only [isSome_setCell]); first | assumption | go_simp)); (try have iso : (w1.cell? ⟨w.heap.size + 1 + 1, 0, none⟩).isSome = true := by (rw [hc _ _ (by omega)]; (try simp only [isSome_setCell]); first | assumption | go_simp)); (try have iso : (w1.cell? ⟨w.heap.size + 1 + 1, 1, none⟩).isSome = true := by (rw [hc _ _ (by omega)]; (try simp only [isSome_setCell]); first | assumption | go_simp))))
        exact bodyPost_ret (res3p Tryd.results9 _ _ _ _ _ _ rfl rfl (by go_simp) (by go_simp)) rfl ⟨rfl, by (repeat first | with_reducible assumption | (with_reducible refine Below.setCell ?_ ?_ _; rotate_left; exact (by (simp; done))))⟩
  · rw [show gainL (v, lo, hi) = (0, 0, 1) by unfold gainL; rw [if_neg hk]]
    have hk : okP (v, lo, hi) = false := by simpa using hk
    rw [hk] at HV
    clear hk
    go_enter Tryd.func9, Tryd.ntmps9
    go_wp2_with (go_at_call 22; refine (HV.out _).mono ?_; rintro e w1 ⟨rfl, hb⟩; have hB : Below w.heap.size w w1 := Below.trans (by (repeat first | with_reducible exact Below.refl _ _ | (with_reducible refine Below.alloc ?_ ?_ _; rotate_left; exact (by first | omega | (simp; done))))) (hb.mono (by (simp; omega))); obtain ⟨hc, hf⟩ := bcell hb; have hs := hb.size; clear hb; (try simp only [World.size_alloc, World.size_setCell] at hc hf); (try simp only [World.size_alloc, World.size_setCell] at hs); (try have hs' := Nat.lt_of_succ_le hs); (try have hs0 : w.heap.size < w1.heap.size := by omega); (try have hs1 : w.heap.size + 1 < w1.heap.size := by omega); (try have hs2 : w.heap.size + 1 + 1 < w1.heap.size := by omega); (try have hs3 : w.heap.size + 1 + 1 + 1 < w1.heap.size := by omega); (try have iso : (w1.cell? ⟨w.heap.size, 0, none⟩).isSome = true := by (rw [hc _ _ (by omega)]; (try simp only [isSome_setCell]); first | assumption | go_simp)); (try have iso : (w1.cell? ⟨w.heap.size, 1, none⟩).isSome = true := by (rw [hc _ _ (by omega)]; (try simp only [isSome_setCell]); first | assumption | go_simp)); (try have iso : (w1.cell? ⟨w.heap.size + 1, 0, none⟩).isSome = true := by (rw [hc _ _ (by omega)]; (try simp only [isSome_setCell]); first | assumption | go_simp)); (try have iso : (w1.cell? ⟨w.heap.size + 1, 1, none⟩).isSome = true := by (rw [hc _ _ (by omega)]; (try simp only [isSome_setCell]); first | assumption | go_simp)); (try have iso : (w1.cell? ⟨w.heap.size + 1 + 1, 0, none⟩).isSome = true := by (rw [hc _ _ (by first | omega | (simp; done) | (simp; omega))]; (try simp only [isSome_setCell]); first | assumption | go_simp)); (try have iso : (w1.cell? ⟨w.heap.size + 1 + 1, 1, none⟩).isSome = true := by (rw [hc _ _ (by first | omega | (simp; done) | (simp; omega))]; (try simp only [isSome_setCell]); first | assumption | go_simp)))
    exact bodyPost_ret (res3 Tryd.results9 _ _ _ _ _ _ rfl rfl (by (try simp only [isSome_setCell]); first | assumption | go_simp) (by (try simp only [isSome_setCell]); first | assumption | go_simp)) rfl ⟨rfl, by (repeat first | with_reducible assumption | (with_reducible refine Below.setCell ?_ ?_ _; rotate_left; exact (by (simp; done))))⟩
theorem isT_one {α : Type} {n : Nat} {enc : α → List Value} {W : World} {b : Nat} {x : α} (hb : b < W.heap.size) (h : ∀ (i : Nat) (v : Value), (enc x)[i]? = some v → W.cell? ⟨b, i, none⟩ = some v) : IsT n enc W (some ⟨b, 0, none⟩) 1 [x] :=
  ⟨rfl, fun _ => ⟨b, 0, rfl, hb, fun j y hy i v hv => by
    rcases j with _ | j
    · obtain rfl : x = y := by simpa using hy
      have := h i v hv
      simpa using this
    · simp at hy⟩⟩
theorem isM_ex {W : World} {x y : Nat} (hx : x < W.heap.size) (hy : y < W.heap.size) (x0 : W.cell? ⟨x, 0, none⟩ = some (.int .i64 9)) (x1 : W.cell? ⟨x, 1, none⟩ = some (.int .i64 0))
    (y0 : W.cell? ⟨y, 0, none⟩ = some (.string ⟨#[115]⟩)) (y1 : W.cell? ⟨y, 1, none⟩ = some (.int .i64 1)) (y2 : W.cell? ⟨y, 2, none⟩ = some (.int .i64 0)) (y3 : W.cell? ⟨y, 3, none⟩ = some (.int .i64 0)) (y4 : W.cell? ⟨y, 4, none⟩ = some (.int .i64 0)) :
    IsM W ⟨none, none, some ⟨x, 0, none⟩, some ⟨y, 0, none⟩, 0, 0, 0, 0, 1, 1, 1, 1⟩ exM := by
  refine ⟨IsT.nil _ _ _ _, IsT.nil _ _ _ _, isT_one hx fun i v hv => ?_, isT_one hy fun i v hv => ?_, Nat.le_refl _, Nat.le_refl _, Nat.le_refl _, Nat.le_refl _, by dsimp only; omega, by dsimp only; omega, by dsimp only; omega, by dsimp only; omega, by dsimp only; omega, by dsimp only; omega, by dsimp only; omega, by dsimp only; omega⟩
  · rcases i with _ | _ | i
    · injection hv with hv; rw [← hv]; exact x0
    · injection hv with hv; rw [← hv]; exact x1
    · cases hv
  · rcases i with _ | _ | _ | _ | _ | i
    · injection hv with hv; rw [← hv]; exact y0
    · injection hv with hv; rw [← hv]; exact y1
    · injection hv with hv; rw [← hv]; exact y2
    · injection hv with hv; rw [← hv]; exact y3
    · injection hv with hv; rw [← hv]; exact y4
    · cases hv
theorem isC_ex {W : World} {z : Nat} (hz : z < W.heap.size) (z0 : W.cell? ⟨z, 0, none⟩ = some (.int .i64 2)) : IsC W ⟨none, none, some ⟨z, 0, none⟩, 0, 0, 0, 0, 1, 1⟩ exC := by
  refine ⟨IsT.nil _ _ _ _, IsT.nil _ _ _ _, isT_one hz fun i v hv => ?_, Nat.le_refl _, Nat.le_refl _, Nat.le_refl _, by dsimp only; omega, by dsimp only; omega, by dsimp only; omega, by dsimp only; omega, by dsimp only; omega, by dsimp only; omega⟩
  rcases i with _ | i
  · injection hv with hv; rw [← hv]; exact z0
  · cases hv
theorem gain_ex (w : World) : Calls Tryd.prog 9 #[.agg #[.int .i64 500, .int .i64 490, .int .i64 520]] w (Ret (.tuple #[.agg #[.int .i64 980, .int .i64 1040], .int .i64 0]) w) := by
  have h := gain_any 500 490 520 w
  rwa [show gainL (500, 490, 520) = (980, 1040, 0) by decide +kernel] at h
set_option maxRecDepth 100000 in
set_option maxHeartbeats 4000000 in
theorem awake_any (w : World) : Calls Tryd.prog 5 #[] w (Ret (.bool true) w) := by
  go_enter Tryd.func5, Tryd.ntmps5
  go_wp2_with (first | (go_at_call 9; refine (gain_ex _).mono ?_; rintro e w1 ⟨rfl, hb1⟩) | (go_at_call 6; refine (read_ex (w1.heap.size + 1) (w1.heap.size + 1 + 1) (w1.heap.size + 1 + 1 + 1 + 1) _ (isM_ex (by simp) (by simp) (by go_simp) (by go_simp) (by go_simp) (by go_simp) (by go_simp) (by go_simp) (by go_simp)) (isC_ex (by simp) (by go_simp))).mono ?_; rintro e w2 ⟨b, rfl, hb0, hb2, v0, v1, hb⟩; have d0 : w2.cell? ⟨w1.heap.size, 0, none⟩ = some (.int .i64 980) := (by rw [hb.cell (by simp only [World.size_alloc]; omega)]; go_simp); have d1 : w2.cell? ⟨w1.heap.size, 1, none⟩ = some (.int .i64 1040) := (by rw [hb.cell (by simp only [World.size_alloc]; omega)]; go_simp)))
  have hs1 := hb1.size
  go_ret
  exact ⟨rfl, Below.trans (by (repeat first | with_reducible assumption | (with_reducible refine Below.alloc ?_ ?_ _; rotate_left; exact (by first | omega | (simp; omega))))) (hb.mono (by simp only [World.size_alloc]; omega))⟩
end
section
open Go.RowKit
def rdE (M : MachD) (C : CurD) (zs : List FaultD) (t : Int) : Int := if validC M C = true ∧ faultsB M zs = true then (if wthn t 0 1000000000 = true then 0 else 7) else 1
def rdZ (M : MachD) (C : CurD) (zs : List FaultD) (sd : Nat) (t : Int) : List SpanD := if validC M C = true ∧ faultsB M zs = true then (if wthn t 0 1000000000 = true then rdL M C zs sd t.toNat else []) else []
theorem rdZ_len (M : MachD) (C : CurD) (zs : List FaultD) (sd : Nat) (t : Int) : (rdZ M C zs sd t).length ≤ M.sensors.length := by
  unfold rdZ; split
  · split
    · rw [rdL_len]; exact Nat.le_refl _
    · simp
  · simp
theorem not_both {a b : Bool} (h : ¬ (a = true ∧ b = true)) : a = false ∨ b = false := by cases a <;> cases b <;> simp_all
theorem cread_any (R : MachR) (M : MachD) (Q : CurR) (C : CurD) (F P : Option Addr) (nf cf np cp sd : Nat) (zs : List FaultD) (t : Int) (w : World) (hM : IsM w R M) (hC : IsC w Q C) (hF : IsT 4 FaultD.cells w F nf zs) (hn : nf ≤ 1000000000000000) (hK : Kinds w) (hsd : sd < 4294967296) : Calls Tryd.prog 6 #[.agg (machCells R M), Q.v, .agg #[.int .u32 ((sd : Nat) : Int), .slice F nf cf, .slice P np cp], .int .i64 t] w (OutT 2 SpanD.cells w (rdE M C zs t) (rdZ M C zs sd t)) := by
  unfold rdE rdZ
  by_cases hb : validC M C = true ∧ faultsB M zs = true
  · rw [if_pos hb, if_pos hb]
    by_cases ht : wthn t 0 1000000000 = true
    · rw [if_pos ht, if_pos ht]
      have h2 := wthn_iff.1 ht
      have h3 := cread_ok R M Q C F P nf cf np cp sd zs t.toNat w hM hC hF hn hK (fit2_iff.1 hb.1) hb.2 (by omega) hsd
      rw [Int.toNat_of_nonneg h2.1] at h3; exact h3
    · rw [if_neg ht, if_neg ht]; exact cread_far R M Q C F P nf cf np cp sd zs t w hM hC hF hn hK hb.1 hb.2 (by simpa using ht)
  · rw [if_neg hb, if_neg hb]; exact cread_bad R M Q C F P nf cf np cp sd zs t w hM hC hF hn hK (not_both hb)
theorem rread_any (R : MachR) (M : MachD) (Q : CurR) (C : CurD) (F P : Option Addr) (nf cf np cp sd : Nat) (zs : List FaultD) (t : Int) (w : World) (hM : IsM w R M) (hC : IsC w Q C) (hF : IsT 4 FaultD.cells w F nf zs) (hn : nf ≤ 1000000000000000) (hsd : sd < 4294967296) : Calls Tryd.prog 7 #[.agg (machCells R M), Q.v, .agg #[.int .u32 ((sd : Nat) : Int), .slice F nf cf, .slice P np cp], .int .i64 t] w (OutT 2 SpanD.cells w (rdE M C zs t) (rdZ M C zs sd t)) := by
  unfold rdE rdZ
  by_cases hb : validC M C = true ∧ faultsB M zs = true
  · rw [if_pos hb, if_pos hb]
    by_cases ht : wthn t 0 1000000000 = true
    · rw [if_pos ht, if_pos ht]
      have h2 := wthn_iff.1 ht
      have h3 := rread_ok R M Q C F P nf cf np cp sd zs t.toNat w hM hC hF hn (fit2_iff.1 hb.1) hb.2 (by omega) hsd
      rw [Int.toNat_of_nonneg h2.1] at h3; exact h3
    · rw [if_neg ht, if_neg ht]; exact rread_far R M Q C F P nf cf np cp sd zs t w hM hC hF hn hb.1 hb.2 (by simpa using ht)
  · rw [if_neg hb, if_neg hb]; exact rread_bad R M Q C F P nf cf np cp sd zs t w hM hC hF hn (not_both hb)
set_option maxRecDepth 100000 in
theorem srd_eq_neq_apiSpan (a0 b0 : Int) (a1 b1 : Int) : ∀ w, (binOp .neq 49 (.agg #[.int .i64 a0, .int .i64 a1]) (.agg #[.int .i64 b0, .int .i64 b1])).run Tryd.prog w = .ok (.bool (!decide (a0 = b0 ∧ a1 = b1))) w := by
  intro w
  have e : binOp .neq 49 (.agg #[.int .i64 a0, .int .i64 a1]) (.agg #[.int .i64 b0, .int .i64 b1]) = (do pure (.bool (!(← Op.equal 49 (.agg #[.int .i64 a0, .int .i64 a1]) (.agg #[.int .i64 b0, .int .i64 b1])))) : Sem Value) := rfl
  have h : ∀ w, (Op.equal 49 (.agg #[.int .i64 a0, .int .i64 a1]) (.agg #[.int .i64 b0, .int .i64 b1])).run Tryd.prog w = .ok (decide (a0 = b0 ∧ a1 = b1)) w := by
    intro w
    show (Op.equalIn 10000 49 _ _).run _ w = _
    rw [run_equalIn_struct w 9999 49 _ _ (by kernel_rfl) (by kernel_rfl)]
    simp [Program.fieldsOf, Tryd.underlying49, Op.eqFields, go_sem, Tryd.underlying3, Tryd.isAgg3, Tryd.sizeOf3, str_eq]
    by_cases h0 : a0 = b0 <;> by_cases h1 : a1 = b1 <;> simp [h0, h1]
  rw [e]; simp [h]
set_option maxRecDepth 100000 in
theorem rsameSp_any (A B : Option Addr) (la ca lb cb : Nat) (zs : List SpanD) (w : World) (hp1 : IsT 2 SpanD.cells w A la zs) (hp2 : IsT 2 SpanD.cells w B lb zs) (l1 : la ≤ 1000000) : Calls Tryd.prog 8 #[(.slice A la ca), (.slice B lb cb)] w (Ret (.bool true) w) := by
  have e1 := hp1.1
  have e2 := hp2.1
  have hnn : la = lb := by omega
  refine calls_ax (vs := [(.slice A la ca), (.slice B lb cb)]) Tryd.func8 rfl rfl ?_
  refine ac_seq (ac_region ?_)
  refine al_p (q_assign rfl) (al_end (aq_then ?_))
  refine ac_seq (ac_seq (ac_region ?_))
  refine al_p (q_move rfl) (al_p (q_lenS rfl Tryd.runUnderlying42) (al_p (q_move rfl) (al_p (q_lenS rfl Tryd.runUnderlying42) ?_)))
  refine al_p (q_same (v' := .bool false) (q_neq rfl rfl) (by simp [hnn])) (al_end (aq_then ?_))
  refine ac_condF rfl (ac_skip (aq_then (ac_seq (ac_seq (ac_region ?_)))))
  refine al_p (q_assign rfl) (al_end (aq_then ?_))
  refine ac_block ?_
  refine ac_loop (β := Nat) (fun k => k ≤ la) (fun k => [(0, (.slice A la ca)), (1, (.slice B lb cb)), (4, (.bool false)), (5, (.int .i64 (k : Int)))]) (fun _ => _) (fun k => []) (fun k => la - k) 0 (by omega) ⟨rfl, rfl, rfl, rfl, trivial⟩ (fun w9 hs => hs) (fun k hF1 => ?_)
  refine ac_seq (ac_seq (ac_region ?_))
  refine al_p (q_move rfl) (al_p (q_move rfl) (al_p (q_lenS rfl Tryd.runUnderlying42) (al_p (q_lss rfl rfl) (al_end (aq_then ?_)))))
  refine ac_cond rfl (fun h1 => ?_) (fun h1 => ?_)
  · have hkn : k < la := by have := of_decide_eq_true h1; omega
    obtain ⟨b11, o11, hA1, hlt1, hget1⟩ := hp1.2 (by omega)
    have hx1 := getD_get (l := zs) (d := ⟨0, 0⟩) (k := k) (by omega)
    obtain ⟨b21, o21, hA2, hlt2, hget2⟩ := hp2.2 (by omega)
    have hx2 := getD_get (l := zs) (d := ⟨0, 0⟩) (k := k) (by omega)
    refine ac_skip (aq_then (ac_seq (ac_block (ac_seq ?_))))
    refine ac_draw 8 (by kernel_rfl) (by kernel_rfl) ?_
    refine ah_t 0 (fun w9 hs => hs) rfl rfl (by kernel_rfl) (q_move rfl) (ah_t 1 (fun w9 hs => hs) rfl rfl (by kernel_rfl) (q_move rfl) ?_)
    refine ah_t 2 (fun w9 hs => hs) rfl rfl (by kernel_rfl) (q_indexAddrA (i := k) (o11 + k * 2 + 0) hA1 rfl rfl rfl (by omega) Tryd.runUnderlying42 Tryd.sizeOf49 rfl) (ah_t 3 (fun w9 hs => hs) rfl rfl (by kernel_rfl) (q_loadXs (SpanD.cells (zs.getD k ⟨0, 0⟩)) rfl Tryd.isAgg49 Tryd.sizeOf49 (fun w9 hs j9 v9 h9 => by rw [addr_add]; exact (hs.below.cell (p := ⟨_, _, none⟩) hlt1).trans ((hget1 k _ hx1) j9 v9 h9)) rfl) (ah_t 4 (fun w9 hs => hs) rfl rfl (by kernel_rfl) (q_move rfl) (ah_t 5 (fun w9 hs => hs) rfl rfl (by kernel_rfl) (q_move rfl) ?_)))
    refine ah_t 6 (fun w9 hs => hs) rfl rfl (by kernel_rfl) (q_indexAddrA (i := k) (o21 + k * 2 + 0) hA2 rfl rfl rfl (by omega) Tryd.runUnderlying42 Tryd.sizeOf49 rfl) (ah_t 7 (fun w9 hs => hs) rfl rfl (by kernel_rfl) (q_loadXs (SpanD.cells (zs.getD k ⟨0, 0⟩)) rfl Tryd.isAgg49 Tryd.sizeOf49 (fun w9 hs j9 v9 h9 => by rw [addr_add]; exact (hs.below.cell (p := ⟨_, _, none⟩) hlt2).trans ((hget2 k _ hx2) j9 v9 h9)) rfl) ?_)
    refine ah_t 8 (fun w9 hs => hs) rfl rfl (by kernel_rfl) (q_same (v' := .bool false) (q_cmpS rfl rfl (by kernel_rfl) (srd_eq_neq_apiSpan _ _ _ _)) (by simp)) (ah_done (by kernel_rfl) ?_)
    refine aq_then (ac_condF rfl (ac_skip (aq_inN (aq_then ?_))))
    refine ac_region (al_p (q_move rfl) ?_)
    refine al_p (q_add rfl rfl (by omega)) (al_p (q_assign rfl) (al_end (aq_then ?_)))
    skip
    refine aq_round (k + 1) (by omega) (by omega) ⟨rfl, rfl, rfl, rfl, trivial⟩ (fun w9 hs => hs)
  · skip
    refine ac_exit (aq_thenE (aq_thenE (aq_hit (aq_then ?_))))
    refine ac_seq (ac_region ?_)
    refine al_p (q_assign rfl) (al_end (aq_then ?_))
    refine ac_ret (ret1 Tryd.results8 rfl (fun w9 hs => ?_))
    exact ⟨rfl, hs.below⟩
set_option maxRecDepth 100000 in
theorem reads_walk (R : MachR) (M : MachD) (Q : CurR) (C : CurD) (F P : Option Addr) (nf cf np cp sd : Nat) (zs : List FaultD) (t : Int) (w : World) (hM0 : R.la ≤ 1000000000000000 → R.lb ≤ 1000000000000000 → R.lc ≤ 1000000000000000 → R.ld ≤ 1000000000000000 → IsM w R M) (hC0 : Q.la ≤ 1000000000000000 → Q.lb ≤ 1000000000000000 → Q.lc ≤ 1000000000000000 → IsC w Q C) (hF : IsT 4 FaultD.cells w F nf zs) (hK : Kinds w) (hsd : sd < 4294967296) : Calls Tryd.prog 3 #[(.agg (machCells R M)), Q.v, (.agg #[.int .u32 ((sd : Nat) : Int), .slice F nf cf, .slice P np cp, .int .i64 t])] w (Ret (.bool true) w) := by
  refine calls_ax (vs := [(.agg (machCells R M)), Q.v, (.agg #[.int .u32 ((sd : Nat) : Int), .slice F nf cf, .slice P np cp, .int .i64 t])]) Tryd.func3 rfl rfl ?_
  refine ac_seq (ac_region ?_)
  refine al_new (fun b => .pointer (some ⟨b, 0, none⟩)) (r_box rfl rfl) rfl rfl rfl ?_
  intro b1
  refine al_new (fun b => .pointer (some ⟨b, 0, none⟩)) (r_box rfl rfl) rfl rfl rfl ?_
  intro b2
  refine al_new (fun b => .pointer (some ⟨b, 0, none⟩)) (r_box rfl rfl) rfl rfl rfl ?_
  intro b3
  refine al_p (q_assign rfl) (al_end (aq_then ?_))
  refine ac_seq (ac_seq (ac_region ?_))
  refine al_p (q_loadAll (i := 2) rfl rfl Tryd.isAgg29 Tryd.sizeOf29 rfl) (al_p (q_loadAll (i := 1) rfl rfl Tryd.isAgg32 Tryd.sizeOf32 rfl) (al_call Tryd.call4 (.cons rfl (.cons rfl (.cons rfl .nil))) rfl rfl (fun w1 hs1 => ?_)))
  refine (brief_any M.name R.A R.B R.C R.D R.la R.ca R.lb R.cb R.lc R.cc R.ld R.cd M.grid.r M.grid.z M.grid.nr M.grid.nz M.grid.step Q.A Q.B Q.C none Q.la Q.ca Q.lb Q.cb Q.lc Q.cc 0 0 _).mono ?_
  rintro e u1 ⟨rfl, hb_1⟩
  refine ⟨_, rfl, hb_1, ?_⟩
  clear hs1
  refine al_p (q_not rfl) (al_p (q_move rfl) ?_)
  refine aq_split 15 rfl (fun hb1 => ?_) (fun hb1 => ?_)
  · skip
    refine al_skip rfl rfl rfl (al_skip rfl rfl rfl (al_skip rfl rfl rfl (al_skip rfl rfl rfl (al_skip rfl rfl rfl ?_))))
    refine al_p (q_pickT rfl rfl) (al_end (aq_then ?_))
    refine ac_condT rfl (ac_seq (ac_region ?_))
    refine al_call Tryd.call5 .nil rfl rfl (fun w2 hs2 => ?_)
    refine (awake_any _).mono ?_
    rintro e u2 ⟨rfl, hb_2⟩
    refine ⟨_, rfl, hb_2, ?_⟩
    clear hs2
    refine al_p (q_assign rfl) (al_end (aq_then ?_))
    refine ac_ret (aq_thenR (ret1 Tryd.results3 rfl (fun w9 hs => ?_)))
    exact ⟨rfl, hs.below⟩
  · obtain ⟨u1, u2, u3, u4, u5, u6, u7, u8⟩ := brief_bd (show briefB R.la R.lb R.lc R.ld Q.la Q.lb Q.lc 0 = true by simpa using hb1)
    have hM := hM0 (by omega) (by omega) (by omega) (by omega)
    have hC := hC0 (by omega) (by omega) (by omega)
    refine al_p (q_fieldAddr 0 rfl Tryd.runUnderlying39 rfl Tryd.sizeOf37 (by decide) rfl) ?_
    refine al_p (q_fieldAddr 1 rfl Tryd.runUnderlying37 rfl Tryd.sizeOf34 (by decide) rfl) (al_p (q_load (i := 0) rfl rfl rfl Tryd.isAgg34) (al_p (q_lenS rfl Tryd.runUnderlying34) (al_p (q_gtr rfl rfl) (al_p (q_pickF rfl rfl) ?_))))
    refine al_end (aq_then ?_)
    refine ac_cond rfl (fun h1 => ?_) (fun h1 => ?_)
    · skip
      refine ac_seq (ac_region ?_)
      refine al_call Tryd.call5 .nil rfl rfl (fun w3 hs3 => ?_)
      refine (awake_any _).mono ?_
      rintro e u3 ⟨rfl, hb_3⟩
      refine ⟨_, rfl, hb_3, ?_⟩
      clear hs3
      refine al_p (q_assign rfl) (al_end (aq_then ?_))
      refine ac_ret (aq_thenR (ret1 Tryd.results3 rfl (fun w9 hs => ?_)))
      exact ⟨rfl, hs.below⟩
    · have hn : nf ≤ 1000000000000000 := by have := of_decide_eq_false h1; omega
      refine ac_skip (aq_then (ac_seq (ac_region ?_)))
      refine al_p (q_loadAll (i := 2) rfl rfl Tryd.isAgg29 Tryd.sizeOf29 rfl) (al_p (q_loadAll (i := 1) rfl rfl Tryd.isAgg32 Tryd.sizeOf32 rfl) ?_)
      refine al_p (q_fieldAddr 0 rfl Tryd.runUnderlying39 rfl Tryd.sizeOf37 (by decide) rfl) (al_p (q_loadSub (i := 0) rfl rfl Tryd.isAgg37 Tryd.sizeOf37 .k0 .k3) ?_)
      refine al_p (q_fieldAddr 3 rfl Tryd.runUnderlying39 rfl Tryd.sizeOf3 (by decide) rfl) (al_p (q_load (i := 0) rfl rfl rfl Tryd.isAgg3) (al_call Tryd.call6 (.cons rfl (.cons rfl (.cons rfl (.cons rfl .nil)))) rfl rfl (fun w4 hs4 => ?_)))
      refine (cread_any R M Q C F P nf cf np cp sd zs t _ (hM.below hs4.below) (hC.below hs4.below) (hF.below hs4.below) hn (hK.below hs4.below) hsd).mono ?_
      rintro e u4 ⟨A_a, n_a, c_a, rfl, N_a, hb_4⟩
      refine ⟨_, rfl, hb_4, ?_⟩
      clear hs4
      refine al_p (q_move rfl) (al_p (q_extract rfl rfl) (al_p (q_extract rfl rfl) (al_p (q_assign rfl) (al_p (q_assign rfl) ?_))))
      refine al_end (aq_then ?_)
      refine ac_seq (ac_region ?_)
      refine al_p (q_loadAll (i := 2) rfl rfl Tryd.isAgg29 Tryd.sizeOf29 rfl) (al_p (q_loadAll (i := 1) rfl rfl Tryd.isAgg32 Tryd.sizeOf32 rfl) ?_)
      refine al_p (q_fieldAddr 0 rfl Tryd.runUnderlying39 rfl Tryd.sizeOf37 (by decide) rfl) (al_p (q_loadSub (i := 0) rfl rfl Tryd.isAgg37 Tryd.sizeOf37 .k0 .k3) ?_)
      refine al_p (q_fieldAddr 3 rfl Tryd.runUnderlying39 rfl Tryd.sizeOf3 (by decide) rfl) (al_p (q_load (i := 0) rfl rfl rfl Tryd.isAgg3) (al_call Tryd.call7 (.cons rfl (.cons rfl (.cons rfl (.cons rfl .nil)))) rfl rfl (fun w5 hs5 => ?_)))
      refine (rread_any R M Q C F P nf cf np cp sd zs t _ (hM.below hs5.below) (hC.below hs5.below) (hF.below hs5.below) hn hsd).mono ?_
      rintro e u5 ⟨A_b, n_b, c_b, rfl, N_b, hb_5⟩
      refine ⟨_, rfl, hb_5, ?_⟩
      clear hs5
      refine al_p (q_move rfl) (al_p (q_extract rfl rfl) (al_p (q_extract rfl rfl) (al_p (q_assign rfl) (al_p (q_assign rfl) ?_))))
      refine al_end (aq_then ?_)
      refine ac_seq (ac_region ?_)
      refine al_p (q_move rfl) (al_p (q_move rfl) ?_)
      refine al_p (q_same (v' := .bool true) (q_eql rfl rfl) (by simp)) (al_p (q_move rfl) (al_p (q_move rfl) (al_p (q_move rfl) (al_call Tryd.call8 (.cons rfl (.cons rfl .nil)) rfl rfl (fun w6 hs6 => ?_)))))
      have hia := (hs6.newT (.tail _ (.head _)) N_a)
      have hib := (hs6.newT (.head _) N_b)
      have hl1 := rdZ_len M C zs sd t
      have hl2 := hia.1
      have hl3 := hib.1
      have hl4 := hM.sensors.1
      refine (rsameSp_any A_a A_b n_a c_a n_b c_b (rdZ M C zs sd t) _ hia hib (by omega)).mono ?_
      rintro e u6 ⟨rfl, hb_6⟩
      refine ⟨_, rfl, hb_6, ?_⟩
      clear hs6
      refine al_p (q_pickT rfl rfl) (al_p (q_move rfl) (al_call Tryd.call5 .nil rfl rfl (fun w7 hs7 => ?_)))
      refine (awake_any _).mono ?_
      rintro e u7 ⟨rfl, hb_7⟩
      refine ⟨_, rfl, hb_7, ?_⟩
      clear hs7
      refine al_p (q_pickT rfl rfl) (al_p (q_assign rfl) (al_end (aq_then ?_)))
      refine ac_ret (ret1 Tryd.results3 rfl (fun w9 hs => ?_))
      exact ⟨rfl, hs.below⟩
end
section
set_option maxRecDepth 100000
open Go.ChangeShapes Go.WideShapes Go.ChangeAt Go.RowKit Go.Joins
theorem own : ownKnob Tryd.prog.godebug = none := by kernel_rfl
theorem cells_int : Tryd.prog.cellsOf 3 = 1 := by kernel_rfl
section
variable {H : Type} {enc : TypeId × Value → H}
end
end
section
set_option maxRecDepth 100000
open Go.ChangeShapes Go.WideShapes Go.ChangeAt Go.RowKit Go.Joins Go.Deep
section
variable {H : Type} {enc : TypeId × Value → H}
theorem open_isT {α : Type} {E : α → List Value} {n : Nat} (h0 : ∀ x, (E x).length = n) {t e : TypeId} {W : World} {b0 : Nat} {r : Reach} {v : Value} {d : DataW H} {p : List MemPlace}
    (ht : Tryd.prog.underlying t = some (.slice e)) (hc : Tryd.prog.cellsOf e = n) (hn : 0 < n)
    (dec : ∀ (fuel : Nat) (cs : List Value) (y : DataW H × List MemPlace), DataW.trod enc Tryd.prog W 0 (fun _ => true) true fuel e cs = some y → ∃ x : α, cs = E x)
    (hv : Value.okWide Tryd.prog W r b0 t v) (h : DataW.Trod enc Tryd.prog W 0 (fun _ => true) true t v d p) :
    ∃ (A : Option Addr) (len cap : Nat) (zs : List α), v = .slice A len cap ∧ IsT n E W A len zs ∧ len ≤ maxLen ∧ len ≤ cap ∧ cap ≤ maxLen := by
  obtain ⟨a, len, cap, rfl⟩ := okWide_slice ht hv
  obtain ⟨fuel, hf⟩ := h
  rcases open_slice ht hf with ⟨hcs, hx⟩ | ⟨a', len', cap', m, k, D, Pl, hcs, hb, hl, hm, hmm, hx, hi⟩
  · have hcs : [Value.slice a len cap] = [Value.slice none 0 0] := hcs
    injection hcs with hcs _
    injection hcs with e1 e2 e3
    subst e1 e2 e3
    exact ⟨_, _, _, [], rfl, IsT.nil _ _ _ _, Nat.zero_le _, Nat.zero_le _, Nat.zero_le _⟩
  · have hcs : [Value.slice a len cap] = [Value.slice (some a') len' cap'] := hcs
    injection hcs with hcs _
    injection hcs with e1 e2 e3
    subst e1 e2 e3
    simp only [if_true] at hmm
    subst hmm
    have each : ∀ i, i < len → ∃ x : α, ∀ j, j < n → W.cell? (a'.add (i * n + j)) = (E x)[j]? := fun i hil => by
      obtain ⟨cs', h1, h2⟩ := hi i (by omega)
      obtain ⟨x, rfl⟩ := dec _ _ _ h2
      rw [hc] at h1
      obtain ⟨_, _, hcell⟩ := World.cells?_some h1
      refine ⟨x, fun j hj => ?_⟩
      have := hcell j hj
      rwa [add_add] at this
    by_cases hz : len = 0
    · subst hz
      exact ⟨_, _, _, [], rfl, IsT.nil _ _ _ _, Nat.zero_le _, Nat.zero_le _, hm⟩
    · obtain ⟨x0, _⟩ := each 0 (by omega)
      haveI : Inhabited α := ⟨x0⟩
      obtain ⟨z, hz'⟩ := choose_lt each
      refine ⟨_, _, _, (List.range len).map z, rfl, ⟨by simp, fun _ => ?_⟩, Nat.le_trans hl hm, hl, hm⟩
      have c0 := hz' 0 (by omega) 0 hn
      obtain ⟨v0, hv0⟩ : ∃ v0, (E (z 0))[0]? = some v0 := ⟨_, List.getElem?_eq_getElem (by rw [h0]; exact hn)⟩
      rw [hv0] at c0
      have hlt := World.block_lt_of_cell? W _ c0
      have hsp := World.cell?_spot c0
      obtain ⟨b, off, spot⟩ := a'
      have hspot : spot = none := by simpa [Addr.add] using hsp
      subst hspot
      rw [block_add] at hlt
      refine ⟨b, off, rfl, hlt, fun j x hx i v hv => ?_⟩
      have hj : j < len := by
        have := (List.getElem?_eq_some_iff.1 hx).1
        simpa using this
      have hx' : x = z j := by
        rw [List.getElem?_map, List.getElem?_range hj] at hx
        simpa using hx.symm
      subst hx'
      have hin : i < n := by
        have := (List.getElem?_eq_some_iff.1 hv).1
        rwa [h0] at this
      have := hz' j hj i hin
      rw [add_plain, hv] at this
      rw [← this]
      congr 2
      omega
end
end
end Go.Proofs.YtapldonpflgnfaaDoor
