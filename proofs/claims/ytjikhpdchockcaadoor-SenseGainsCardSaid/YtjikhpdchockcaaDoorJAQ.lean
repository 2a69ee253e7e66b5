import Derived.Test.YtjikhpdchockcaaDoorJAK
import Derived.Test.YtjikhpdchockcaaDoorJAP
import Derived.Deep.RegionHeld3
import Derived.Lib.Hide
import Derived.Laws.Externs
import Derived.Shelf.Bits.Mul64
import Derived.Deep.DeepCutAuto
import Derived.Deep.QuietTactic
import Derived.BigQuiet
import Derived.Shelf.Abstract
section
/- Package span and its specification: contracts of Point, Make, Widen, Hull and Meet, and of the laws' comparison of results, over this seat's translation. -/
namespace Go.Proofs.YtjikhpdchockcaaDoor
set_option linter.unusedVariables false
set_option linter.unusedSimpArgs false
open Go.RowKit

/-- A struct of two cells and a plain result beside it, the cells known. -/
theorem res3g {fn : Func} {p u : Tmp} (h : fn.results = #[.cell p 57, .tmp u]) (tmps : Array Value) (W : World) (b : Nat) (x y z : Value)
    (hp : tmps.getD p undef = .pointer (some ⟨b, 0, none⟩)) (hu : tmps.getD u undef = z) (h0 : W.cell? ⟨b, 0, none⟩ = some x) (h1 : W.cell? ⟨b, 1, none⟩ = some y) :
    (results fn tmps).run Tryd.prog W = .ok (.tuple #[.agg #[x, y], z]) W := by
  rw [results_cell_tmp h, hp, hu]
  simp [go_sem, h0, h1]

set_option maxHeartbeats 400000 in
theorem within_any (n : Int) (w : World) :
    Calls Tryd.prog 78 #[.int .i64 n] w fun e w' => e = .returned (.bool (inR n)) ∧ w = w' := by
  go_enter Tryd.func78, Tryd.ntmps78
  go_wp2
  all_goals go_ret
  all_goals (simp [inR]; try omega)

set_option maxHeartbeats 400000 in
theorem rvalid_any (lo hi : Int) (w : World) :
    Calls Tryd.prog 36 #[Sp lo hi] w (Ret (.bool (vld lo hi)) w) := by
  go_enter Tryd.func36, Tryd.ntmps36
  go_wp2_with (go_at_call 78; refine (within_any _ _).mono ?_; rintro e w' ⟨rfl, rfl⟩)
  all_goals go_ret
  all_goals exact ⟨by simp [vld, *] <;> omega, by (repeat first | with_reducible exact Below.refl _ _ | with_reducible assumption | (with_reducible refine Below.setCell ?_ ?_ _; rotate_left; exact (by first | omega | (simp; done) | (simp; omega))) | (with_reducible refine Below.alloc ?_ ?_ _; rotate_left; exact (by first | omega | (simp; done) | (simp; omega))) | with_reducible refine Below.drew ?_ | with_reducible refine Below_drewN ?_ _)⟩

set_option maxHeartbeats 400000 in
theorem most_any (a b : Int) (w : World) : Calls Tryd.prog 117 #[.int .i64 a, .int .i64 b] w fun e w' => e = .returned (.int .i64 (max a b)) ∧ w = w' := by
  go_enter Tryd.func117, Tryd.ntmps117
  go_wp2
  all_goals go_ret
  all_goals exact ⟨ret_int (by omega), rfl⟩

set_option maxHeartbeats 400000 in
theorem least_any (a b : Int) (w : World) : Calls Tryd.prog 116 #[.int .i64 a, .int .i64 b] w fun e w' => e = .returned (.int .i64 (min a b)) ∧ w = w' := by
  go_enter Tryd.func116, Tryd.ntmps116
  go_wp2
  all_goals go_ret
  all_goals exact ⟨ret_int (by omega), rfl⟩

def smallL (lo hi : Int) : Int × Int × Int := if (inR lo && inR hi) = true then (lo, hi, 0) else (0, 0, 9)
theorem small_make {m n : Int} (h : m ≤ n) : smallL m n = makeL m n := by
  unfold smallL makeL
  rw [show min m n = m by omega, show max m n = n by omega]
  have : vld m n = (inR m && inR n) := by simp [vld, h]
  rw [this]

theorem make_comm (m n : Int) : makeL m n = makeL n m := by unfold makeL; rw [Int.min_comm, Int.max_comm]

def widenL (a b n : Int) : Int × Int × Int :=
  if vld a b = true then (if 0 ≤ n ∧ n ≤ 1000000000000000 then (max (a - n) (-1000000000000000), min (b + n) 1000000000000000, 0) else (0, 0, 7)) else (0, 0, 1)
def hullL (a b c d : Int) : Int × Int × Int := if (vld a b && vld c d) = true then (min a c, max b d, 0) else (0, 0, 1)
def meetL (a b c d : Int) : Int × Int × Int := if (vld a b && vld c d) = true then (if max a c ≤ min b d then (max a c, min b d, 0) else (0, 0, 8)) else (0, 0, 1)

set_option maxHeartbeats 2000000 in
theorem hull2_any (a b c d : Int) (w : World) : Calls Tryd.prog 86 #[Sp a b, Sp c d] w (Ret (.tuple #[.agg #[.int .i64 (hullL a b c d).1, .int .i64 (hullL a b c d).2.1], .int .i64 (hullL a b c d).2.2]) w) := by
  by_cases v1 : vld a b = true
  · by_cases v2 : vld c d = true
    · have hv : (vld a b && vld c d) = true := by simp [v1, v2]
      have o1 := vld_iff.1 v1
      have o2 := vld_iff.1 v2
      have e : hullL a b c d = (min a c, max b d, 0) := by unfold hullL; rw [if_pos hv]
      rw [e]
      clear e hv o1 o2
      by_cases p : c < a
      · rw [show min a c = c by omega]
        by_cases q : b < d
        · rw [show max b d = d by omega]
          go_enter Tryd.func86, Tryd.ntmps86
          go_wp2_with (go_at_call 35; refine (valid_any _ _ _).mono ?_; rintro e w1 ⟨rfl, hb⟩; have hB : Below w.heap.size w w1 := Below.trans (by (repeat first | with_reducible exact Below.refl _ _ | with_reducible assumption | (with_reducible refine Below.setCell ?_ ?_ _; rotate_left; exact (by first | omega | (simp; done) | (simp; omega))) | (with_reducible refine Below.alloc ?_ ?_ _; rotate_left; exact (by first | omega | (simp; done) | (simp; omega))) | with_reducible refine Below.drew ?_ | with_reducible refine Below_drewN ?_ _)) (hb.mono (by first | omega | (simp; done) | (simp; omega))); obtain ⟨hc, hf⟩ := bcell hb; have hs := hb.size; clear hb; (try simp only [World.size_alloc, World.size_setCell] at hc hf); (try simp only [World.size_alloc, World.size_setCell] at hs); (try have hs' := Nat.lt_of_succ_le hs); (try have hs0 : w.heap.size < w1.heap.size := by omega); (try have hs1 : w.heap.size + 1 < w1.heap.size := by omega); (try have hs2 : w.heap.size + 1 + 1 < w1.heap.size := by omega); (try have hs3 : w.heap.size + 1 + 1 + 1 < w1.heap.size := by omega); (try have iso : (w1.cell? ⟨w.heap.size, 0, none⟩).isSome = true := by (rw [hc _ _ (by first | omega | (simp; done) | (simp; omega))]; (try simp only [isSome_setCell]); first | assumption | go_simp)); (try have iso : (w1.cell? ⟨w.heap.size, 1, none⟩).isSome = true := by (rw [hc _ _ (by first | omega | (simp; done) | (simp; omega))]; (try simp only [isSome_setCell]); first | assumption | go_simp)); (try have iso : (w1.cell? ⟨w.heap.size + 1, 0, none⟩).isSome = true := by (rw [hc _ _ (by first | omega | (simp; done) | (simp; omega))]; (try simp only [isSome_setCell]); first | assumption | go_simp)); (try have iso : (w1.cell? ⟨w.heap.size + 1, 1, none⟩).isSome = true := by (rw [hc _ _ (by first | omega | (simp; done) | (simp; omega))]; (try simp only [isSome_setCell]); first | assumption | go_simp)); (try have iso : (w1.cell? ⟨w.heap.size + 1 + 1, 0, none⟩).isSome = true := by (rw [hc _ _ (by first | omega | (simp; done) | (simp; omega))]; (try simp only [isSome_setCell]); first | assumption | go_simp)); (try have iso : (w1.cell? ⟨w.heap.size + 1 + 1, 1, none⟩).isSome = true := by (rw [hc _ _ (by first | omega | (simp; done) | (simp; omega))]; (try simp only [isSome_setCell]); first | assumption | go_simp)))
          exact bodyPost_ret (res3 Tryd.results86 _ _ _ _ _ _ rfl rfl (by (try simp only [isSome_setCell]); first | assumption | go_simp) (by (try simp only [isSome_setCell]); first | assumption | go_simp)) rfl ⟨rfl, by (repeat first | with_reducible exact Below.refl _ _ | with_reducible assumption | (with_reducible refine Below.setCell ?_ ?_ _; rotate_left; exact (by first | omega | (simp; done) | (simp; omega))) | (with_reducible refine Below.alloc ?_ ?_ _; rotate_left; exact (by first | omega | (simp; done) | (simp; omega))) | with_reducible refine Below.drew ?_ | with_reducible refine Below_drewN ?_ _)⟩
        · rw [show max b d = b by omega]
          go_enter Tryd.func86, Tryd.ntmps86
          go_wp2_with (go_at_call 35; refine (valid_any _ _ _).mono ?_; rintro e w1 ⟨rfl, hb⟩; have hB : Below w.heap.size w w1 := Below.trans (by (repeat first | with_reducible exact Below.refl _ _ | with_reducible assumption | (with_reducible refine Below.setCell ?_ ?_ _; rotate_left; exact (by first | omega | (simp; done) | (simp; omega))) | (with_reducible refine Below.alloc ?_ ?_ _; rotate_left; exact (by first | omega | (simp; done) | (simp; omega))) | with_reducible refine Below.drew ?_ | with_reducible refine Below_drewN ?_ _)) (hb.mono (by first | omega | (simp; done) | (simp; omega))); obtain ⟨hc, hf⟩ := bcell hb; have hs := hb.size; clear hb; (try simp only [World.size_alloc, World.size_setCell] at hc hf); (try simp only [World.size_alloc, World.size_setCell] at hs); (try have hs' := Nat.lt_of_succ_le hs); (try have hs0 : w.heap.size < w1.heap.size := by omega); (try have hs1 : w.heap.size + 1 < w1.heap.size := by omega); (try have hs2 : w.heap.size + 1 + 1 < w1.heap.size := by omega); (try have hs3 : w.heap.size + 1 + 1 + 1 < w1.heap.size := by omega); (try have iso : (w1.cell? ⟨w.heap.size, 0, none⟩).isSome = true := by (rw [hc _ _ (by first | omega | (simp; done) | (simp; omega))]; (try simp only [isSome_setCell]); first | assumption | go_simp)); (try have iso : (w1.cell? ⟨w.heap.size, 1, none⟩).isSome = true := by (rw [hc _ _ (by first | omega | (simp; done) | (simp; omega))]; (try simp only [isSome_setCell]); first | assumption | go_simp)); (try have iso : (w1.cell? ⟨w.heap.size + 1, 0, none⟩).isSome = true := by (rw [hc _ _ (by first | omega | (simp; done) | (simp; omega))]; (try simp only [isSome_setCell]); first | assumption | go_simp)); (try have iso : (w1.cell? ⟨w.heap.size + 1, 1, none⟩).isSome = true := by (rw [hc _ _ (by first | omega | (simp; done) | (simp; omega))]; (try simp only [isSome_setCell]); first | assumption | go_simp)); (try have iso : (w1.cell? ⟨w.heap.size + 1 + 1, 0, none⟩).isSome = true := by (rw [hc _ _ (by first | omega | (simp; done) | (simp; omega))]; (try simp only [isSome_setCell]); first | assumption | go_simp)); (try have iso : (w1.cell? ⟨w.heap.size + 1 + 1, 1, none⟩).isSome = true := by (rw [hc _ _ (by first | omega | (simp; done) | (simp; omega))]; (try simp only [isSome_setCell]); first | assumption | go_simp)))
          exact bodyPost_ret (res3 Tryd.results86 _ _ _ _ _ _ rfl rfl (by (try simp only [isSome_setCell]); first | assumption | go_simp) (by (try simp only [isSome_setCell]); first | assumption | go_simp)) rfl ⟨rfl, by (repeat first | with_reducible exact Below.refl _ _ | with_reducible assumption | (with_reducible refine Below.setCell ?_ ?_ _; rotate_left; exact (by first | omega | (simp; done) | (simp; omega))) | (with_reducible refine Below.alloc ?_ ?_ _; rotate_left; exact (by first | omega | (simp; done) | (simp; omega))) | with_reducible refine Below.drew ?_ | with_reducible refine Below_drewN ?_ _)⟩
      · rw [show min a c = a by omega]
        by_cases q : b < d
        · rw [show max b d = d by omega]
          go_enter Tryd.func86, Tryd.ntmps86
          go_wp2_with (go_at_call 35; refine (valid_any _ _ _).mono ?_; rintro e w1 ⟨rfl, hb⟩; have hB : Below w.heap.size w w1 := Below.trans (by (repeat first | with_reducible exact Below.refl _ _ | with_reducible assumption | (with_reducible refine Below.setCell ?_ ?_ _; rotate_left; exact (by first | omega | (simp; done) | (simp; omega))) | (with_reducible refine Below.alloc ?_ ?_ _; rotate_left; exact (by first | omega | (simp; done) | (simp; omega))) | with_reducible refine Below.drew ?_ | with_reducible refine Below_drewN ?_ _)) (hb.mono (by first | omega | (simp; done) | (simp; omega))); obtain ⟨hc, hf⟩ := bcell hb; have hs := hb.size; clear hb; (try simp only [World.size_alloc, World.size_setCell] at hc hf); (try simp only [World.size_alloc, World.size_setCell] at hs); (try have hs' := Nat.lt_of_succ_le hs); (try have hs0 : w.heap.size < w1.heap.size := by omega); (try have hs1 : w.heap.size + 1 < w1.heap.size := by omega); (try have hs2 : w.heap.size + 1 + 1 < w1.heap.size := by omega); (try have hs3 : w.heap.size + 1 + 1 + 1 < w1.heap.size := by omega); (try have iso : (w1.cell? ⟨w.heap.size, 0, none⟩).isSome = true := by (rw [hc _ _ (by first | omega | (simp; done) | (simp; omega))]; (try simp only [isSome_setCell]); first | assumption | go_simp)); (try have iso : (w1.cell? ⟨w.heap.size, 1, none⟩).isSome = true := by (rw [hc _ _ (by first | omega | (simp; done) | (simp; omega))]; (try simp only [isSome_setCell]); first | assumption | go_simp)); (try have iso : (w1.cell? ⟨w.heap.size + 1, 0, none⟩).isSome = true := by (rw [hc _ _ (by first | omega | (simp; done) | (simp; omega))]; (try simp only [isSome_setCell]); first | assumption | go_simp)); (try have iso : (w1.cell? ⟨w.heap.size + 1, 1, none⟩).isSome = true := by (rw [hc _ _ (by first | omega | (simp; done) | (simp; omega))]; (try simp only [isSome_setCell]); first | assumption | go_simp)); (try have iso : (w1.cell? ⟨w.heap.size + 1 + 1, 0, none⟩).isSome = true := by (rw [hc _ _ (by first | omega | (simp; done) | (simp; omega))]; (try simp only [isSome_setCell]); first | assumption | go_simp)); (try have iso : (w1.cell? ⟨w.heap.size + 1 + 1, 1, none⟩).isSome = true := by (rw [hc _ _ (by first | omega | (simp; done) | (simp; omega))]; (try simp only [isSome_setCell]); first | assumption | go_simp)))
          exact bodyPost_ret (res3 Tryd.results86 _ _ _ _ _ _ rfl rfl (by (try simp only [isSome_setCell]); first | assumption | go_simp) (by (try simp only [isSome_setCell]); first | assumption | go_simp)) rfl ⟨rfl, by (repeat first | with_reducible exact Below.refl _ _ | with_reducible assumption | (with_reducible refine Below.setCell ?_ ?_ _; rotate_left; exact (by first | omega | (simp; done) | (simp; omega))) | (with_reducible refine Below.alloc ?_ ?_ _; rotate_left; exact (by first | omega | (simp; done) | (simp; omega))) | with_reducible refine Below.drew ?_ | with_reducible refine Below_drewN ?_ _)⟩
        · rw [show max b d = b by omega]
          go_enter Tryd.func86, Tryd.ntmps86
          go_wp2_with (go_at_call 35; refine (valid_any _ _ _).mono ?_; rintro e w1 ⟨rfl, hb⟩; have hB : Below w.heap.size w w1 := Below.trans (by (repeat first | with_reducible exact Below.refl _ _ | with_reducible assumption | (with_reducible refine Below.setCell ?_ ?_ _; rotate_left; exact (by first | omega | (simp; done) | (simp; omega))) | (with_reducible refine Below.alloc ?_ ?_ _; rotate_left; exact (by first | omega | (simp; done) | (simp; omega))) | with_reducible refine Below.drew ?_ | with_reducible refine Below_drewN ?_ _)) (hb.mono (by first | omega | (simp; done) | (simp; omega))); obtain ⟨hc, hf⟩ := bcell hb; have hs := hb.size; clear hb; (try simp only [World.size_alloc, World.size_setCell] at hc hf); (try simp only [World.size_alloc, World.size_setCell] at hs); (try have hs' := Nat.lt_of_succ_le hs); (try have hs0 : w.heap.size < w1.heap.size := by omega); (try have hs1 : w.heap.size + 1 < w1.heap.size := by omega); (try have hs2 : w.heap.size + 1 + 1 < w1.heap.size := by omega); (try have hs3 : w.heap.size + 1 + 1 + 1 < w1.heap.size := by omega); (try have iso : (w1.cell? ⟨w.heap.size, 0, none⟩).isSome = true := by (rw [hc _ _ (by first | omega | (simp; done) | (simp; omega))]; (try simp only [isSome_setCell]); first | assumption | go_simp)); (try have iso : (w1.cell? ⟨w.heap.size, 1, none⟩).isSome = true := by (rw [hc _ _ (by first | omega | (simp; done) | (simp; omega))]; (try simp only [isSome_setCell]); first | assumption | go_simp)); (try have iso : (w1.cell? ⟨w.heap.size + 1, 0, none⟩).isSome = true := by (rw [hc _ _ (by first | omega | (simp; done) | (simp; omega))]; (try simp only [isSome_setCell]); first | assumption | go_simp)); (try have iso : (w1.cell? ⟨w.heap.size + 1, 1, none⟩).isSome = true := by (rw [hc _ _ (by first | omega | (simp; done) | (simp; omega))]; (try simp only [isSome_setCell]); first | assumption | go_simp)); (try have iso : (w1.cell? ⟨w.heap.size + 1 + 1, 0, none⟩).isSome = true := by (rw [hc _ _ (by first | omega | (simp; done) | (simp; omega))]; (try simp only [isSome_setCell]); first | assumption | go_simp)); (try have iso : (w1.cell? ⟨w.heap.size + 1 + 1, 1, none⟩).isSome = true := by (rw [hc _ _ (by first | omega | (simp; done) | (simp; omega))]; (try simp only [isSome_setCell]); first | assumption | go_simp)))
          exact bodyPost_ret (res3 Tryd.results86 _ _ _ _ _ _ rfl rfl (by (try simp only [isSome_setCell]); first | assumption | go_simp) (by (try simp only [isSome_setCell]); first | assumption | go_simp)) rfl ⟨rfl, by (repeat first | with_reducible exact Below.refl _ _ | with_reducible assumption | (with_reducible refine Below.setCell ?_ ?_ _; rotate_left; exact (by first | omega | (simp; done) | (simp; omega))) | (with_reducible refine Below.alloc ?_ ?_ _; rotate_left; exact (by first | omega | (simp; done) | (simp; omega))) | with_reducible refine Below.drew ?_ | with_reducible refine Below_drewN ?_ _)⟩
    · have e : hullL a b c d = (0, 0, 1) := by simp [hullL, v2]
      rw [e]
      clear e
      go_enter Tryd.func86, Tryd.ntmps86
      go_wp2_with (go_at_call 35; refine (valid_any _ _ _).mono ?_; rintro e w1 ⟨rfl, hb⟩; have hB : Below w.heap.size w w1 := Below.trans (by (repeat first | with_reducible exact Below.refl _ _ | with_reducible assumption | (with_reducible refine Below.setCell ?_ ?_ _; rotate_left; exact (by first | omega | (simp; done) | (simp; omega))) | (with_reducible refine Below.alloc ?_ ?_ _; rotate_left; exact (by first | omega | (simp; done) | (simp; omega))) | with_reducible refine Below.drew ?_ | with_reducible refine Below_drewN ?_ _)) (hb.mono (by first | omega | (simp; done) | (simp; omega))); obtain ⟨hc, hf⟩ := bcell hb; have hs := hb.size; clear hb; (try simp only [World.size_alloc, World.size_setCell] at hc hf); (try simp only [World.size_alloc, World.size_setCell] at hs); (try have hs' := Nat.lt_of_succ_le hs); (try have hs0 : w.heap.size < w1.heap.size := by omega); (try have hs1 : w.heap.size + 1 < w1.heap.size := by omega); (try have hs2 : w.heap.size + 1 + 1 < w1.heap.size := by omega); (try have hs3 : w.heap.size + 1 + 1 + 1 < w1.heap.size := by omega); (try have iso : (w1.cell? ⟨w.heap.size, 0, none⟩).isSome = true := by (rw [hc _ _ (by first | omega | (simp; done) | (simp; omega))]; (try simp only [isSome_setCell]); first | assumption | go_simp)); (try have iso : (w1.cell? ⟨w.heap.size, 1, none⟩).isSome = true := by (rw [hc _ _ (by first | omega | (simp; done) | (simp; omega))]; (try simp only [isSome_setCell]); first | assumption | go_simp)); (try have iso : (w1.cell? ⟨w.heap.size + 1, 0, none⟩).isSome = true := by (rw [hc _ _ (by first | omega | (simp; done) | (simp; omega))]; (try simp only [isSome_setCell]); first | assumption | go_simp)); (try have iso : (w1.cell? ⟨w.heap.size + 1, 1, none⟩).isSome = true := by (rw [hc _ _ (by first | omega | (simp; done) | (simp; omega))]; (try simp only [isSome_setCell]); first | assumption | go_simp)); (try have iso : (w1.cell? ⟨w.heap.size + 1 + 1, 0, none⟩).isSome = true := by (rw [hc _ _ (by first | omega | (simp; done) | (simp; omega))]; (try simp only [isSome_setCell]); first | assumption | go_simp)); (try have iso : (w1.cell? ⟨w.heap.size + 1 + 1, 1, none⟩).isSome = true := by (rw [hc _ _ (by first | omega | (simp; done) | (simp; omega))]; (try simp only [isSome_setCell]); first | assumption | go_simp)))
      exact bodyPost_ret (res3 Tryd.results86 _ _ _ _ _ _ rfl rfl (by (try simp only [isSome_setCell]); first | assumption | go_simp) (by (try simp only [isSome_setCell]); first | assumption | go_simp)) rfl ⟨rfl, by (repeat first | with_reducible exact Below.refl _ _ | with_reducible assumption | (with_reducible refine Below.setCell ?_ ?_ _; rotate_left; exact (by first | omega | (simp; done) | (simp; omega))) | (with_reducible refine Below.alloc ?_ ?_ _; rotate_left; exact (by first | omega | (simp; done) | (simp; omega))) | with_reducible refine Below.drew ?_ | with_reducible refine Below_drewN ?_ _)⟩
  · have e : hullL a b c d = (0, 0, 1) := by simp [hullL, v1]
    rw [e]
    clear e
    go_enter Tryd.func86, Tryd.ntmps86
    go_wp2_with (go_at_call 35; refine (valid_any _ _ _).mono ?_; rintro e w1 ⟨rfl, hb⟩; have hB : Below w.heap.size w w1 := Below.trans (by (repeat first | with_reducible exact Below.refl _ _ | with_reducible assumption | (with_reducible refine Below.setCell ?_ ?_ _; rotate_left; exact (by first | omega | (simp; done) | (simp; omega))) | (with_reducible refine Below.alloc ?_ ?_ _; rotate_left; exact (by first | omega | (simp; done) | (simp; omega))) | with_reducible refine Below.drew ?_ | with_reducible refine Below_drewN ?_ _)) (hb.mono (by first | omega | (simp; done) | (simp; omega))); obtain ⟨hc, hf⟩ := bcell hb; have hs := hb.size; clear hb; (try simp only [World.size_alloc, World.size_setCell] at hc hf); (try simp only [World.size_alloc, World.size_setCell] at hs); (try have hs' := Nat.lt_of_succ_le hs); (try have hs0 : w.heap.size < w1.heap.size := by omega); (try have hs1 : w.heap.size + 1 < w1.heap.size := by omega); (try have hs2 : w.heap.size + 1 + 1 < w1.heap.size := by omega); (try have hs3 : w.heap.size + 1 + 1 + 1 < w1.heap.size := by omega); (try have iso : (w1.cell? ⟨w.heap.size, 0, none⟩).isSome = true := by (rw [hc _ _ (by first | omega | (simp; done) | (simp; omega))]; (try simp only [isSome_setCell]); first | assumption | go_simp)); (try have iso : (w1.cell? ⟨w.heap.size, 1, none⟩).isSome = true := by (rw [hc _ _ (by first | omega | (simp; done) | (simp; omega))]; (try simp only [isSome_setCell]); first | assumption | go_simp)); (try have iso : (w1.cell? ⟨w.heap.size + 1, 0, none⟩).isSome = true := by (rw [hc _ _ (by first | omega | (simp; done) | (simp; omega))]; (try simp only [isSome_setCell]); first | assumption | go_simp)); (try have iso : (w1.cell? ⟨w.heap.size + 1, 1, none⟩).isSome = true := by (rw [hc _ _ (by first | omega | (simp; done) | (simp; omega))]; (try simp only [isSome_setCell]); first | assumption | go_simp)); (try have iso : (w1.cell? ⟨w.heap.size + 1 + 1, 0, none⟩).isSome = true := by (rw [hc _ _ (by first | omega | (simp; done) | (simp; omega))]; (try simp only [isSome_setCell]); first | assumption | go_simp)); (try have iso : (w1.cell? ⟨w.heap.size + 1 + 1, 1, none⟩).isSome = true := by (rw [hc _ _ (by first | omega | (simp; done) | (simp; omega))]; (try simp only [isSome_setCell]); first | assumption | go_simp)))
    exact bodyPost_ret (res3 Tryd.results86 _ _ _ _ _ _ rfl rfl (by (try simp only [isSome_setCell]); first | assumption | go_simp) (by (try simp only [isSome_setCell]); first | assumption | go_simp)) rfl ⟨rfl, by (repeat first | with_reducible exact Below.refl _ _ | with_reducible assumption | (with_reducible refine Below.setCell ?_ ?_ _; rotate_left; exact (by first | omega | (simp; done) | (simp; omega))) | (with_reducible refine Below.alloc ?_ ?_ _; rotate_left; exact (by first | omega | (simp; done) | (simp; omega))) | with_reducible refine Below.drew ?_ | with_reducible refine Below_drewN ?_ _)⟩

set_option maxHeartbeats 2000000 in
theorem rhull_any (a b c d : Int) (w : World) : Calls Tryd.prog 89 #[Sp a b, Sp c d] w (Ret (.tuple #[.agg #[.int .i64 (hullL a b c d).1, .int .i64 (hullL a b c d).2.1], .int .i64 (hullL a b c d).2.2]) w) := by
  by_cases v1 : vld a b = true
  · by_cases v2 : vld c d = true
    · have hv : (vld a b && vld c d) = true := by simp [v1, v2]
      have o1 := vld_iff.1 v1
      have o2 := vld_iff.1 v2
      have e : hullL a b c d = (min a c, max b d, 0) := by unfold hullL; rw [if_pos hv]
      rw [e]
      clear e hv o1 o2
      go_enter Tryd.func89, Tryd.ntmps89
      go_wp2_with (go_at_call 36; refine (rvalid_any _ _ _).mono ?_; rintro e w1 ⟨rfl, hb⟩; have hB : Below w.heap.size w w1 := Below.trans (by (repeat first | with_reducible exact Below.refl _ _ | with_reducible assumption | (with_reducible refine Below.setCell ?_ ?_ _; rotate_left; exact (by first | omega | (simp; done) | (simp; omega))) | (with_reducible refine Below.alloc ?_ ?_ _; rotate_left; exact (by first | omega | (simp; done) | (simp; omega))) | with_reducible refine Below.drew ?_ | with_reducible refine Below_drewN ?_ _)) (hb.mono (by first | omega | (simp; done) | (simp; omega))); obtain ⟨hc, hf⟩ := bcell hb; have hs := hb.size; clear hb; (try simp only [World.size_alloc, World.size_setCell] at hc hf); (try simp only [World.size_alloc, World.size_setCell] at hs); (try have hs' := Nat.lt_of_succ_le hs); (try have hs0 : w.heap.size < w1.heap.size := by omega); (try have hs1 : w.heap.size + 1 < w1.heap.size := by omega); (try have hs2 : w.heap.size + 1 + 1 < w1.heap.size := by omega); (try have hs3 : w.heap.size + 1 + 1 + 1 < w1.heap.size := by omega); (try have iso : (w1.cell? ⟨w.heap.size, 0, none⟩).isSome = true := by (rw [hc _ _ (by first | omega | (simp; done) | (simp; omega))]; (try simp only [isSome_setCell]); first | assumption | go_simp)); (try have iso : (w1.cell? ⟨w.heap.size, 1, none⟩).isSome = true := by (rw [hc _ _ (by first | omega | (simp; done) | (simp; omega))]; (try simp only [isSome_setCell]); first | assumption | go_simp)); (try have iso : (w1.cell? ⟨w.heap.size + 1, 0, none⟩).isSome = true := by (rw [hc _ _ (by first | omega | (simp; done) | (simp; omega))]; (try simp only [isSome_setCell]); first | assumption | go_simp)); (try have iso : (w1.cell? ⟨w.heap.size + 1, 1, none⟩).isSome = true := by (rw [hc _ _ (by first | omega | (simp; done) | (simp; omega))]; (try simp only [isSome_setCell]); first | assumption | go_simp)); (try have iso : (w1.cell? ⟨w.heap.size + 1 + 1, 0, none⟩).isSome = true := by (rw [hc _ _ (by first | omega | (simp; done) | (simp; omega))]; (try simp only [isSome_setCell]); first | assumption | go_simp)); (try have iso : (w1.cell? ⟨w.heap.size + 1 + 1, 1, none⟩).isSome = true := by (rw [hc _ _ (by first | omega | (simp; done) | (simp; omega))]; (try simp only [isSome_setCell]); first | assumption | go_simp)))
      have HS : Hid (∀ w' : World, Reg (w.heap.size + 1 + 1) (w1) w' → (Reg (w.heap.size + 1 + 1) (w1) w' ∧ w'.cell? ⟨w.heap.size, 0, none⟩ = some (.int .i64 a) ∧ w'.cell? ⟨w.heap.size, 1, none⟩ = some (.int .i64 b) ∧ w'.cell? ⟨w.heap.size + 1, 0, none⟩ = some (.int .i64 c) ∧ w'.cell? ⟨w.heap.size + 1, 1, none⟩ = some (.int .i64 d) ∧ w'.cell? ⟨w.heap.size + 1 + 1, 0, none⟩ = some (cur w' ⟨w.heap.size + 1 + 1, 0, none⟩) ∧ w'.frozen? ⟨w.heap.size + 1 + 1, 0, none⟩ = false ∧ w'.cell? ⟨w.heap.size + 1 + 1, 1, none⟩ = some (cur w' ⟨w.heap.size + 1 + 1, 1, none⟩) ∧ w'.frozen? ⟨w.heap.size + 1 + 1, 1, none⟩ = false)) := (fun w' h => by (have hc := h.cells; have hs := h.some; have hf := h.frozen; refine ⟨h, ?_⟩; (try simp only [World.size_alloc, World.size_setCell, size_drew, size_drewN] at hc hs hf); first | (simp (disch := omega) only [hc, hs, hf, cur_iff]; (try go_simp); done) | (simp (disch := first | omega | (simp; done)) only [hc, hs, hf, cur_iff]; (try go_simp); done) | (simp (maxDischargeDepth := 4) [hc, hs, hf, cur_iff, go_sem]; done) | (go_simp; done) | (simp (maxDischargeDepth := 4) [hc, hs, hf, cur_iff, go_sem]; go_simp))); go_region_held3 (fun w' => Reg (w.heap.size + 1 + 1) (w1) w' ∧ w'.cell? ⟨w.heap.size, 0, none⟩ = some (.int .i64 a) ∧ w'.cell? ⟨w.heap.size, 1, none⟩ = some (.int .i64 b) ∧ w'.cell? ⟨w.heap.size + 1, 0, none⟩ = some (.int .i64 c) ∧ w'.cell? ⟨w.heap.size + 1, 1, none⟩ = some (.int .i64 d) ∧ w'.cell? ⟨w.heap.size + 1 + 1, 0, none⟩ = some (cur w' ⟨w.heap.size + 1 + 1, 0, none⟩) ∧ w'.frozen? ⟨w.heap.size + 1 + 1, 0, none⟩ = false ∧ w'.cell? ⟨w.heap.size + 1 + 1, 1, none⟩ = some (cur w' ⟨w.heap.size + 1 + 1, 1, none⟩) ∧ w'.frozen? ⟨w.heap.size + 1 + 1, 1, none⟩ = false) (exact HS.out _ (by (repeat first | with_reducible exact Reg.refl _ _ | with_reducible exact Reg.drewN2 _ _ _ _ | with_reducible exact (‹Reg _ _ _ ∧ _›).1 | (with_reducible refine Reg.setCell ?_ ?_ _; rotate_left; exact (by first | omega | ((try simp only [World.size_alloc, World.size_setCell, size_drew, size_drewN]); omega) | (simp; done) | (simp; omega))) | with_reducible refine Reg.alloc ?_ _ | with_reducible refine Reg.drew ?_ | with_reducible refine Reg.drewN ?_ _ | (with_reducible apply Reg.call; rotate_left; with_reducible assumption)))) (first | (go_at_call 117; refine (most_any _ _ _).mono ?_; rintro e w1 ⟨rfl, rfl⟩) | (go_at_call 116; refine (least_any _ _ _).mono ?_; rintro e w1 ⟨rfl, rfl⟩))
      go_wp2
      rw [← World.setCell_drew, ← World.setCell_drew]
      exact bodyPost_ret (res3 Tryd.results89 _ _ _ _ _ _ rfl rfl (by (try simp only [isSome_setCell]); first | assumption | go_simp) (by (try simp only [isSome_setCell]); first | assumption | go_simp)) rfl ⟨rfl, by (repeat first | with_reducible exact Below.refl _ _ | with_reducible assumption | (with_reducible refine Below.setCell ?_ ?_ _; rotate_left; exact (by first | omega | (simp; done) | (simp; omega))) | (with_reducible refine Below.alloc ?_ ?_ _; rotate_left; exact (by first | omega | (simp; done) | (simp; omega))) | with_reducible refine Below.drew ?_ | with_reducible refine Below_drewN ?_ _)⟩
    · have e : hullL a b c d = (0, 0, 1) := by simp [hullL, v2]
      rw [e]
      clear e
      go_enter Tryd.func89, Tryd.ntmps89
      go_wp2_with (go_at_call 36; refine (rvalid_any _ _ _).mono ?_; rintro e w1 ⟨rfl, hb⟩; have hB : Below w.heap.size w w1 := Below.trans (by (repeat first | with_reducible exact Below.refl _ _ | with_reducible assumption | (with_reducible refine Below.setCell ?_ ?_ _; rotate_left; exact (by first | omega | (simp; done) | (simp; omega))) | (with_reducible refine Below.alloc ?_ ?_ _; rotate_left; exact (by first | omega | (simp; done) | (simp; omega))) | with_reducible refine Below.drew ?_ | with_reducible refine Below_drewN ?_ _)) (hb.mono (by first | omega | (simp; done) | (simp; omega))); obtain ⟨hc, hf⟩ := bcell hb; have hs := hb.size; clear hb; (try simp only [World.size_alloc, World.size_setCell] at hc hf); (try simp only [World.size_alloc, World.size_setCell] at hs); (try have hs' := Nat.lt_of_succ_le hs); (try have hs0 : w.heap.size < w1.heap.size := by omega); (try have hs1 : w.heap.size + 1 < w1.heap.size := by omega); (try have hs2 : w.heap.size + 1 + 1 < w1.heap.size := by omega); (try have hs3 : w.heap.size + 1 + 1 + 1 < w1.heap.size := by omega); (try have iso : (w1.cell? ⟨w.heap.size, 0, none⟩).isSome = true := by (rw [hc _ _ (by first | omega | (simp; done) | (simp; omega))]; (try simp only [isSome_setCell]); first | assumption | go_simp)); (try have iso : (w1.cell? ⟨w.heap.size, 1, none⟩).isSome = true := by (rw [hc _ _ (by first | omega | (simp; done) | (simp; omega))]; (try simp only [isSome_setCell]); first | assumption | go_simp)); (try have iso : (w1.cell? ⟨w.heap.size + 1, 0, none⟩).isSome = true := by (rw [hc _ _ (by first | omega | (simp; done) | (simp; omega))]; (try simp only [isSome_setCell]); first | assumption | go_simp)); (try have iso : (w1.cell? ⟨w.heap.size + 1, 1, none⟩).isSome = true := by (rw [hc _ _ (by first | omega | (simp; done) | (simp; omega))]; (try simp only [isSome_setCell]); first | assumption | go_simp)); (try have iso : (w1.cell? ⟨w.heap.size + 1 + 1, 0, none⟩).isSome = true := by (rw [hc _ _ (by first | omega | (simp; done) | (simp; omega))]; (try simp only [isSome_setCell]); first | assumption | go_simp)); (try have iso : (w1.cell? ⟨w.heap.size + 1 + 1, 1, none⟩).isSome = true := by (rw [hc _ _ (by first | omega | (simp; done) | (simp; omega))]; (try simp only [isSome_setCell]); first | assumption | go_simp)))
      exact bodyPost_ret (res3 Tryd.results89 _ _ _ _ _ _ rfl rfl (by (try simp only [isSome_setCell]); first | assumption | go_simp) (by (try simp only [isSome_setCell]); first | assumption | go_simp)) rfl ⟨rfl, by (repeat first | with_reducible exact Below.refl _ _ | with_reducible assumption | (with_reducible refine Below.setCell ?_ ?_ _; rotate_left; exact (by first | omega | (simp; done) | (simp; omega))) | (with_reducible refine Below.alloc ?_ ?_ _; rotate_left; exact (by first | omega | (simp; done) | (simp; omega))) | with_reducible refine Below.drew ?_ | with_reducible refine Below_drewN ?_ _)⟩
  · have e : hullL a b c d = (0, 0, 1) := by simp [hullL, v1]
    rw [e]
    clear e
    go_enter Tryd.func89, Tryd.ntmps89
    go_wp2_with (go_at_call 36; refine (rvalid_any _ _ _).mono ?_; rintro e w1 ⟨rfl, hb⟩; have hB : Below w.heap.size w w1 := Below.trans (by (repeat first | with_reducible exact Below.refl _ _ | with_reducible assumption | (with_reducible refine Below.setCell ?_ ?_ _; rotate_left; exact (by first | omega | (simp; done) | (simp; omega))) | (with_reducible refine Below.alloc ?_ ?_ _; rotate_left; exact (by first | omega | (simp; done) | (simp; omega))) | with_reducible refine Below.drew ?_ | with_reducible refine Below_drewN ?_ _)) (hb.mono (by first | omega | (simp; done) | (simp; omega))); obtain ⟨hc, hf⟩ := bcell hb; have hs := hb.size; clear hb; (try simp only [World.size_alloc, World.size_setCell] at hc hf); (try simp only [World.size_alloc, World.size_setCell] at hs); (try have hs' := Nat.lt_of_succ_le hs); (try have hs0 : w.heap.size < w1.heap.size := by omega); (try have hs1 : w.heap.size + 1 < w1.heap.size := by omega); (try have hs2 : w.heap.size + 1 + 1 < w1.heap.size := by omega); (try have hs3 : w.heap.size + 1 + 1 + 1 < w1.heap.size := by omega); (try have iso : (w1.cell? ⟨w.heap.size, 0, none⟩).isSome = true := by (rw [hc _ _ (by first | omega | (simp; done) | (simp; omega))]; (try simp only [isSome_setCell]); first | assumption | go_simp)); (try have iso : (w1.cell? ⟨w.heap.size, 1, none⟩).isSome = true := by (rw [hc _ _ (by first | omega | (simp; done) | (simp; omega))]; (try simp only [isSome_setCell]); first | assumption | go_simp)); (try have iso : (w1.cell? ⟨w.heap.size + 1, 0, none⟩).isSome = true := by (rw [hc _ _ (by first | omega | (simp; done) | (simp; omega))]; (try simp only [isSome_setCell]); first | assumption | go_simp)); (try have iso : (w1.cell? ⟨w.heap.size + 1, 1, none⟩).isSome = true := by (rw [hc _ _ (by first | omega | (simp; done) | (simp; omega))]; (try simp only [isSome_setCell]); first | assumption | go_simp)); (try have iso : (w1.cell? ⟨w.heap.size + 1 + 1, 0, none⟩).isSome = true := by (rw [hc _ _ (by first | omega | (simp; done) | (simp; omega))]; (try simp only [isSome_setCell]); first | assumption | go_simp)); (try have iso : (w1.cell? ⟨w.heap.size + 1 + 1, 1, none⟩).isSome = true := by (rw [hc _ _ (by first | omega | (simp; done) | (simp; omega))]; (try simp only [isSome_setCell]); first | assumption | go_simp)))
    exact bodyPost_ret (res3 Tryd.results89 _ _ _ _ _ _ rfl rfl (by (try simp only [isSome_setCell]); first | assumption | go_simp) (by (try simp only [isSome_setCell]); first | assumption | go_simp)) rfl ⟨rfl, by (repeat first | with_reducible exact Below.refl _ _ | with_reducible assumption | (with_reducible refine Below.setCell ?_ ?_ _; rotate_left; exact (by first | omega | (simp; done) | (simp; omega))) | (with_reducible refine Below.alloc ?_ ?_ _; rotate_left; exact (by first | omega | (simp; done) | (simp; omega))) | with_reducible refine Below.drew ?_ | with_reducible refine Below_drewN ?_ _)⟩

end Go.Proofs.YtjikhpdchockcaaDoor
end
section
/- Package span: contracts of Less and Lies, over this seat's translation. -/
namespace Go.Proofs.YtjikhpdchockcaaDoor
set_option linter.unusedVariables false
set_option linter.unusedSimpArgs false
open Go.RowKit

def lessL (a b c d : Int) : Int := if (vld a b && vld c d) = true then (if b < c then 1 else if d ≤ a then 0 else 2) else 2
def liesL (a b c d : Int) : Int := if (vld a b && vld c d) = true then (if insd a b c d = true then 1 else if b < c ∨ d < a then 0 else 2) else 2

theorem insd_iff {a b c d : Int} (h : vld a b = true) (h2 : vld c d = true) : insd a b c d = true ↔ c ≤ a ∧ b ≤ d := by
  have := vld_iff.1 h
  simp [insd, cont, h, h2]
  omega

end Go.Proofs.YtjikhpdchockcaaDoor
end
section
/- The specification of package span: contracts of its looks (Contains, Inside, Width, Middle, Greatest, Proved), over this seat's translation. -/
namespace Go.Proofs.YtjikhpdchockcaaDoor
set_option linter.unusedVariables false
set_option linter.unusedSimpArgs false
open Go.RowKit

set_option maxHeartbeats 400000 in
theorem rcontains_any (lo hi n : Int) (w : World) :
    Calls Tryd.prog 94 #[Sp lo hi, .int .i64 n] w (Ret (.bool (cont lo hi n)) w) := by
  go_enter Tryd.func94, Tryd.ntmps94
  go_wp2_with (go_at_call 36; refine (rvalid_any _ _ _).mono ?_; rintro e w1 ⟨rfl, hb⟩; have hB : Below w.heap.size w w1 := Below.trans (by (repeat first | with_reducible exact Below.refl _ _ | with_reducible assumption | (with_reducible refine Below.setCell ?_ ?_ _; rotate_left; exact (by first | omega | (simp; done) | (simp; omega))) | (with_reducible refine Below.alloc ?_ ?_ _; rotate_left; exact (by first | omega | (simp; done) | (simp; omega))) | with_reducible refine Below.drew ?_ | with_reducible refine Below_drewN ?_ _)) (hb.mono (by first | omega | (simp; done) | (simp; omega))); obtain ⟨hc, hf⟩ := bcell hb; have hs := hb.size; clear hb; (try simp only [World.size_alloc, World.size_setCell] at hc hf); (try simp only [World.size_alloc, World.size_setCell] at hs); (try have hs' := Nat.lt_of_succ_le hs); (try have hs0 : w.heap.size < w1.heap.size := by omega); (try have hs1 : w.heap.size + 1 < w1.heap.size := by omega); (try have hs2 : w.heap.size + 1 + 1 < w1.heap.size := by omega); (try have hs3 : w.heap.size + 1 + 1 + 1 < w1.heap.size := by omega))
  all_goals go_ret
  all_goals exact ⟨by simp [cont, *] <;> omega, by (repeat first | with_reducible exact Below.refl _ _ | with_reducible assumption | (with_reducible refine Below.setCell ?_ ?_ _; rotate_left; exact (by first | omega | (simp; done) | (simp; omega))) | (with_reducible refine Below.alloc ?_ ?_ _; rotate_left; exact (by first | omega | (simp; done) | (simp; omega))) | with_reducible refine Below.drew ?_ | with_reducible refine Below_drewN ?_ _)⟩

theorem tmod_neg (s : Int) (h : s < 0) : s.tmod 2 = -((-s) % 2) := by
  have e : s = -(-s) := by omega
  rw [e, Int.neg_tmod, Int.neg_neg, Int.tmod_eq_emod_of_nonneg (by omega)]
theorem tdiv_neg (s : Int) (h : s < 0) : s.tdiv 2 = -((-s) / 2) := by
  have e : s = -(-s) := by omega
  rw [e, Int.neg_tdiv, Int.neg_neg, Int.tdiv_eq_ediv_of_nonneg (by omega)]

end Go.Proofs.YtjikhpdchockcaaDoor
end
section
/- Package span: contracts of the 128-bit numbers (wide, ends), over this seat's translation. -/
namespace Go.Proofs.YtjikhpdchockcaaDoor
set_option linter.unusedVariables false
set_option linter.unusedSimpArgs false
open Go.RowKit

theorem wrapU (n : Int) : IntKind.u64.wrap n = n % 18446744073709551616 := by rw [IntKind.wrap_u64]
theorem wrapS (n : Int) : wrap64 n = sgn64 n := by unfold wrap64 sgn64; rfl

theorem xor_not (x : Int) (h : U64 x) : bits .xor .u64 IntKind.u64.max x = not64 x := by
  obtain ⟨h0, h1⟩ := h
  unfold not64
  show bits .xor .u64 18446744073709551615 x = _
  rw [u64_xor _ _ (by omega) (by omega) h0 h1]
  have e := congrArg BitVec.toNat (BitVec.xor_allOnes (x := BitVec.ofNat 64 x.toNat))
  simp only [BitVec.toNat_xor, BitVec.toNat_not, BitVec.toNat_allOnes, BitVec.toNat_ofNat] at e
  rw [Nat.mod_eq_of_lt (by omega), Nat.xor_comm] at e
  show (((2 ^ 64 - 1) ^^^ x.toNat : Nat) : Int) = _
  rw [e]
  omega

end Go.Proofs.YtjikhpdchockcaaDoor
end
section
/- Package span: contracts of hull, product, narrow and span, over this seat's translation. -/
namespace Go.Proofs.YtjikhpdchockcaaDoor
set_option linter.unusedVariables false
set_option linter.unusedSimpArgs false
open Go.RowKit

theorem eq_no (z : Int) (hz : Fit z) (h : ¬(-9223372036854775808 ≤ z ∧ z ≤ 9223372036854775807)) : ¬(hi64 (sgn64 (lo64 z)) = hi64 z ∧ lo64 (sgn64 (lo64 z)) = lo64 z) := by
  intro hh
  have hr := sgn_range (lo64 z)
  have := (same_iff (sgn64 (lo64 z)) z (by unfold Fit; omega) hz).1 hh
  omega

end Go.Proofs.YtjikhpdchockcaaDoor
end
section
/- Package span: the contract of over (a division of a wide number), given that of the machine's division, over this seat's translation. -/
namespace Go.Proofs.YtjikhpdchockcaaDoor
set_option linter.unusedVariables false
set_option linter.unusedSimpArgs false
open Go.RowKit

theorem two_set {W : World} {b : Nat} {x y : Value} (h0 : (((W.setCell ⟨b, 0, none⟩ x).setCell ⟨b, 1, none⟩ y).cell? ⟨b, 0, none⟩).isSome = true) (h1 : (((W.setCell ⟨b, 0, none⟩ x).setCell ⟨b, 1, none⟩ y).cell? ⟨b, 1, none⟩).isSome = true) :
    ((W.setCell ⟨b, 0, none⟩ x).setCell ⟨b, 1, none⟩ y).cell? ⟨b, 0, none⟩ = some x ∧ ((W.setCell ⟨b, 0, none⟩ x).setCell ⟨b, 1, none⟩ y).cell? ⟨b, 1, none⟩ = some y := by
  rw [isSome_setCell, isSome_setCell] at h0
  rw [isSome_setCell] at h1
  have n1 : (⟨b, 1, none⟩ : Addr) ≠ ⟨b, 0, none⟩ := by simp
  exact ⟨(World.cell?_setCell_other _ _ _ _ n1).trans (World.cell?_setCell_same' _ _ _ h0), World.cell?_setCell_same' _ _ _ h1⟩

end Go.Proofs.YtjikhpdchockcaaDoor
end
section
/- Package span: contracts of the division of small numbers and of the closures of Mul and Quot, over this seat's translation. -/
namespace Go.Proofs.YtjikhpdchockcaaDoor
set_option linter.unusedVariables false
set_option linter.unusedSimpArgs false
open Go.RowKit

/-- What a division leaves: it draws its order at most. -/
def DivR (v : Value) (w : World) (e : Ending) (w' : World) : Prop := e = .returned v ∧ ∃ n, w' = w.drewN n

end Go.Proofs.YtjikhpdchockcaaDoor
end
section
/- Package span: contracts of span (the ends made a span), spread and combine, over this seat's translation. -/
namespace Go.Proofs.YtjikhpdchockcaaDoor
set_option linter.unusedVariables false
set_option linter.unusedSimpArgs false
open Go.RowKit

theorem make_out (a b : Int) (h : ¬(-9223372036854775808 ≤ a ∧ a ≤ 9223372036854775807) ∨ ¬(-9223372036854775808 ≤ b ∧ b ≤ 9223372036854775807)) : makeL a b = (0, 0, 9) := by
  unfold makeL
  rw [if_neg]
  intro hv
  have := vld_iff.1 hv
  omega

theorem Fit.min {x y : Int} (hx : Fit x) (hy : Fit y) : Fit (Min.min x y) := by unfold Fit at *; omega
theorem Fit.max {x y : Int} (hx : Fit x) (hy : Fit y) : Fit (Max.max x y) := by unfold Fit at *; omega

end Go.Proofs.YtjikhpdchockcaaDoor
end
section
/- Package span: contracts of combine, Mul and Quot, over this seat's translation. -/
namespace Go.Proofs.YtjikhpdchockcaaDoor
set_option linter.unusedVariables false
set_option linter.unusedSimpArgs false
open Go.RowKit Go.Shelf

theorem vld_fit {a b : Int} (h : vld a b = true) : -1000000000000000 ≤ a ∧ a ≤ 1000000000000000 ∧ -1000000000000000 ≤ b ∧ b ≤ 1000000000000000 := by
  have := vld_iff.1 h; omega

theorem mul_fit' (x y : Int) (hx : -1000000000000000 ≤ x) (hx' : x ≤ 1000000000000000) (hy : -1000000000000000 ≤ y) (hy' : y ≤ 1000000000000000) : Fit (x * y) := by
  have := mul_fit x y hx hy hx' hy'; unfold Fit; omega

def mulL (a b c d : Int) : Int × Int × Int :=
  if (vld a b && vld c d) = true then makeL (min (min (a * c) (a * d)) (min (b * c) (b * d))) (max (max (a * c) (a * d)) (max (b * c) (b * d))) else (0, 0, 1)

theorem flo_fit (x d : Int) (hx : -1000000000000000 ≤ x) (hx' : x ≤ 1000000000000000) (hd : d ≠ 0) : (-1000000000000000 ≤ flo x d ∧ flo x d ≤ 1000000000000000) ∧ (-1000000000000000 ≤ cei x d ∧ cei x d ≤ 1000000000000000) := by
  have key : ∀ x m : Int, -1000000000000000 ≤ x → x ≤ 1000000000000000 → 1 ≤ m → -1000000000000000 ≤ x / m ∧ x / m ≤ 1000000000000000 := by
    intro x m h1 h2 hm
    constructor
    · rw [Int.le_ediv_iff_mul_le (by omega)]
      have := Int.mul_le_mul_of_nonneg_left hm (show (0 : Int) ≤ 1000000000000000 by omega)
      omega
    · by_cases h0 : 0 ≤ x
      · exact Int.le_trans (Int.ediv_le_self m h0) h2
      · have := Int.ediv_neg_of_neg_of_pos (show x < 0 by omega) (show 0 < m by omega)
        omega
  unfold cei flo
  by_cases h : 0 < d
  · rw [if_pos h, if_pos h]
    have a := key x d hx hx' (by omega)
    have b := key (-x) d (by omega) (by omega) (by omega)
    omega
  · rw [if_neg h, if_neg h]
    have a := key (-x) (-d) (by omega) (by omega) (by omega)
    have b := key (- -x) (-d) (by omega) (by omega) (by omega)
    omega

theorem fit_of {n : Int} (h1 : -1000000000000000 ≤ n) (h2 : n ≤ 1000000000000000) : Fit n := by unfold Fit; omega

end Go.Proofs.YtjikhpdchockcaaDoor
end
section
/- Package span: contracts of Quot, Less and Lies, and of the laws' example (awake), over this seat's translation. -/
namespace Go.Proofs.YtjikhpdchockcaaDoor
set_option linter.unusedVariables false
set_option linter.unusedSimpArgs false
open Go.RowKit Go.Shelf

def quotL (a b c d : Int) : Int × Int × Int :=
  if (vld a b && vld c d) = true then
    if c ≤ 0 ∧ 0 ≤ d then (0, 0, 10) else makeL (min (min (flo a c) (flo a d)) (min (flo b c) (flo b d))) (max (max (cei a c) (cei a d)) (max (cei b c) (cei b d)))
  else (0, 0, 1)

theorem cont_iff {lo hi n : Int} : cont lo hi n = true ↔ vld lo hi = true ∧ lo ≤ n ∧ n ≤ hi := by simp [cont]

end Go.Proofs.YtjikhpdchockcaaDoor
end
section
/- Package span: contracts of Add, Sub, Neg and Square, over this seat's translation. -/
namespace Go.Proofs.YtjikhpdchockcaaDoor
set_option linter.unusedVariables false
set_option linter.unusedSimpArgs false
open Go.RowKit Go.Shelf

def addL (a b c d : Int) : Int × Int × Int := if (vld a b && vld c d) = true then makeL (a + c) (b + d) else (0, 0, 1)
def subL (a b c d : Int) : Int × Int × Int := if (vld a b && vld c d) = true then makeL (a - d) (b - c) else (0, 0, 1)
def squareL (a b : Int) : Int × Int × Int := if vld a b = true then makeL (provedL a b * provedL a b) (greatestL a b * greatestL a b) else (0, 0, 1)

end Go.Proofs.YtjikhpdchockcaaDoor
end
section
/- Package span: the contract of rootDown and of Root, over this seat's translation. -/
namespace Go.Proofs.YtjikhpdchockcaaDoor
set_option linter.unusedVariables false
set_option linter.unusedSimpArgs false
open Go.RowKit

/-- The square root of a whole number, rounded down. -/
def isqN : Nat → Nat
  | 0 => 0
  | n + 1 => if (isqN n + 1) * (isqN n + 1) ≤ n + 1 then isqN n + 1 else isqN n
theorem isqN_spec : ∀ n : Nat, isqN n * isqN n ≤ n ∧ n < (isqN n + 1) * (isqN n + 1)
  | 0 => by simp [isqN]
  | n + 1 => by
    obtain ⟨h1, h2⟩ := isqN_spec n
    unfold isqN
    by_cases h : (isqN n + 1) * (isqN n + 1) ≤ n + 1
    · rw [if_pos h]
      refine ⟨h, ?_⟩
      have : (isqN n + 1 + 1) * (isqN n + 1 + 1) = (isqN n + 1) * (isqN n + 1) + 2 * (isqN n + 1) + 1 := by
        generalize isqN n + 1 = r
        rw [Nat.add_mul, Nat.mul_add]; omega
      omega
    · rw [if_neg h]
      exact ⟨by omega, by omega⟩
def isq (n : Int) : Int := isqN n.toNat
theorem isq_spec (n : Int) (h : 0 ≤ n) : 0 ≤ isq n ∧ isq n * isq n ≤ n ∧ n < (isq n + 1) * (isq n + 1) := by
  obtain ⟨m, rfl⟩ := Int.eq_ofNat_of_zero_le h
  obtain ⟨h1, h2⟩ := isqN_spec m
  unfold isq
  rw [Int.toNat_natCast]
  refine ⟨by omega, ?_, ?_⟩
  · exact_mod_cast h1
  · exact_mod_cast h2
theorem sq_lt {a b : Int} (ha : 0 ≤ a) (hb : 0 ≤ b) (h : a * a < b * b) : a < b := by
  rcases Int.lt_or_le a b with h1 | h1
  · exact h1
  · have := Int.mul_le_mul h1 h1 hb ha
    omega
theorem isq_unique (n r : Int) (h : 0 ≤ n) (h0 : 0 ≤ r) (h1 : r * r ≤ n) (h2 : n < (r + 1) * (r + 1)) : isq n = r := by
  obtain ⟨a, b, c⟩ := isq_spec n h
  have l1 := sq_lt a (by omega) (show isq n * isq n < (r + 1) * (r + 1) by omega)
  have l2 := sq_lt h0 (by omega) (show r * r < (isq n + 1) * (isq n + 1) by omega)
  omega

/-- The bit of a round, and twice it (1 at the end). -/
def two (k : Nat) : Int := ((2 ^ k : Nat) : Int)
def bitOf (k : Nat) : Int := ((2 ^ k / 2 : Nat) : Int)
theorem two_succ (k : Nat) : two (k + 1) = 2 * two k := by unfold two; rw [Nat.pow_succ]; omega
theorem bit_succ (k : Nat) : bitOf (k + 1) = two k := by unfold bitOf two; rw [Nat.pow_succ]; omega
theorem bit_half (k : Nat) : bitOf (k + 1) / 2 = bitOf k := by rw [bit_succ]; unfold two bitOf; omega
theorem two_pos (k : Nat) : 1 ≤ two k := by unfold two; have := Nat.two_pow_pos k; omega
theorem bit_zero : bitOf 0 = 0 := rfl

def rootL (a b : Int) : Int × Int × Int :=
  if vld a b = true then (if a < 0 then (0, 0, 7) else (isq a, if isq b * isq b < b then isq b + 1 else isq b, 0)) else (0, 0, 1)

theorem isq_small (n : Int) (h0 : 0 ≤ n) (h1 : n ≤ 1000000000000000) : 0 ≤ isq n ∧ isq n ≤ 33554432 := by
  obtain ⟨a, b, _⟩ := isq_spec n h0
  refine ⟨a, ?_⟩
  have := sq_lt a (show (0 : Int) ≤ 33554432 by omega) (show isq n * isq n < 33554432 * 33554432 by omega)
  omega

end Go.Proofs.YtjikhpdchockcaaDoor
end
section
/- Plain arithmetic for the promises on spans: products and quotients of numbers in spans lie between those of the ends; results grow with their arguments. -/
namespace Go.Proofs.YtjikhpdchockcaaDoor
set_option linter.unusedVariables false
set_option linter.unusedSimpArgs false

theorem lin (k c d y : Int) (h1 : c ≤ y) (h2 : y ≤ d) : min (k * c) (k * d) ≤ k * y ∧ k * y ≤ max (k * c) (k * d) := by
  rcases Int.lt_or_le k 0 with h | h
  · have a := Int.mul_le_mul_of_nonpos_left (show k ≤ 0 by omega) h1
    have b := Int.mul_le_mul_of_nonpos_left (show k ≤ 0 by omega) h2
    omega
  · have a := Int.mul_le_mul_of_nonneg_left h1 h
    have b := Int.mul_le_mul_of_nonneg_left h2 h
    omega

theorem mul_between (a b c d x y : Int) (h1 : a ≤ x) (h2 : x ≤ b) (h3 : c ≤ y) (h4 : y ≤ d) :
    min (min (a * c) (a * d)) (min (b * c) (b * d)) ≤ x * y ∧ x * y ≤ max (max (a * c) (a * d)) (max (b * c) (b * d)) := by
  have l1 := lin a c d y h3 h4
  have l2 := lin b c d y h3 h4
  have l3 := lin y a b x h1 h2
  rw [Int.mul_comm y a, Int.mul_comm y b, Int.mul_comm y x] at l3
  omega

theorem flo_iff (q x y : Int) (hy : y ≠ 0) : q ≤ flo x y ↔ (0 < y ∧ q * y ≤ x) ∨ (y < 0 ∧ x ≤ q * y) := by
  unfold flo
  by_cases h : 0 < y
  · rw [if_pos h, Int.le_ediv_iff_mul_le h]
    constructor
    · intro k; exact .inl ⟨h, k⟩
    · rintro (⟨_, k⟩ | ⟨k, _⟩)
      · exact k
      · omega
  · rw [if_neg h, Int.le_ediv_iff_mul_le (by omega), Int.mul_neg]
    constructor
    · intro k; exact .inr ⟨by omega, by omega⟩
    · rintro (⟨k, _⟩ | ⟨_, k⟩)
      · omega
      · omega

theorem flo_between (a b c d x y : Int) (h1 : a ≤ x) (h2 : x ≤ b) (h3 : c ≤ y) (h4 : y ≤ d) (hz : 0 < c ∨ d < 0) :
    min (min (flo a c) (flo a d)) (min (flo b c) (flo b d)) ≤ flo x y := by
  have l := lin (min (min (flo a c) (flo a d)) (min (flo b c) (flo b d))) c d y h3 h4
  generalize hq : min (min (flo a c) (flo a d)) (min (flo b c) (flo b d)) = q at *
  have k1 := (flo_iff q a c (by omega)).1 (by omega)
  have k2 := (flo_iff q a d (by omega)).1 (by omega)
  have k3 := (flo_iff q b c (by omega)).1 (by omega)
  have k4 := (flo_iff q b d (by omega)).1 (by omega)
  rw [flo_iff q x y (by omega)]
  clear hq
  generalize q * c = qc at *
  generalize q * d = qd at *
  generalize q * y = qy at *
  omega

theorem cei_between (a b c d x y : Int) (h1 : a ≤ x) (h2 : x ≤ b) (h3 : c ≤ y) (h4 : y ≤ d) (hz : 0 < c ∨ d < 0) :
    cei x y ≤ max (max (cei a c) (cei a d)) (max (cei b c) (cei b d)) := by
  have h := flo_between (-b) (-a) c d (-x) y (by omega) (by omega) h3 h4 hz
  unfold cei
  omega

/-- Ends that lie in others: what Make answers grows with them. -/
theorem make_wider {lo hi lo' hi' : Int} (h : lo ≤ hi) (h1 : lo' ≤ lo) (h2 : hi ≤ hi') :
    ((makeL lo' hi').2.2 = 0 → (makeL lo hi).2.2 = 0) ∧ ((makeL lo' hi').2.2 = 0 → (makeL lo hi).2.2 = 0 → insd (makeL lo hi).1 (makeL lo hi).2.1 (makeL lo' hi').1 (makeL lo' hi').2.1 = true) := by
  unfold makeL
  rw [show min lo hi = lo by omega, show max lo hi = hi by omega, show min lo' hi' = lo' by omega, show max lo' hi' = hi' by omega]
  by_cases v2 : vld lo' hi' = true
  · have o2 := vld_iff.1 v2
    have v1 : vld lo hi = true := vld_iff.2 (by omega)
    rw [if_pos v1, if_pos v2]
    exact ⟨fun _ => rfl, fun _ _ => (insd_iff v1 v2).2 ⟨h1, h2⟩⟩
  · rw [if_neg v2]
    exact ⟨fun k => absurd k (by decide), fun k => absurd k (by decide)⟩

section
variable {a b c d a' b' c' d' : Int} (v1 : vld a b = true) (v2 : vld c d = true) (v3 : vld a' b' = true) (v4 : vld c' d' = true) (h1 : a' ≤ a) (h2 : b ≤ b') (h3 : c' ≤ c) (h4 : d ≤ d')
include v1 v2 v3 v4 h1 h2 h3 h4

theorem add_wider : (addL a' b' c' d').2.2 = 0 → (addL a b c d).2.2 = 0 → insd (addL a b c d).1 (addL a b c d).2.1 (addL a' b' c' d').1 (addL a' b' c' d').2.1 = true := by
  have o1 := (vld_iff.1 v1).1
  have o2 := (vld_iff.1 v2).1
  unfold addL
  rw [if_pos (show (vld a' b' && vld c' d') = true by simp [v3, v4]), if_pos (show (vld a b && vld c d) = true by simp [v1, v2])]
  exact (make_wider (by omega) (by omega) (by omega)).2

theorem mul_wider : (mulL a' b' c' d').2.2 = 0 → (mulL a b c d).2.2 = 0 → insd (mulL a b c d).1 (mulL a b c d).2.1 (mulL a' b' c' d').1 (mulL a' b' c' d').2.1 = true := by
  have o1 := (vld_iff.1 v1).1
  have o2 := (vld_iff.1 v2).1
  unfold mulL
  rw [if_pos (show (vld a' b' && vld c' d') = true by simp [v3, v4]), if_pos (show (vld a b && vld c d) = true by simp [v1, v2])]
  have m1 := mul_between a' b' c' d' a c (by omega) (by omega) (by omega) (by omega)
  have m2 := mul_between a' b' c' d' a d (by omega) (by omega) (by omega) (by omega)
  have m3 := mul_between a' b' c' d' b c (by omega) (by omega) (by omega) (by omega)
  have m4 := mul_between a' b' c' d' b d (by omega) (by omega) (by omega) (by omega)
  exact (make_wider (by omega) (by omega) (by omega)).2

theorem quot_wider : (quotL a' b' c' d').2.2 = 0 → (quotL a b c d).2.2 = 0 ∧ insd (quotL a b c d).1 (quotL a b c d).2.1 (quotL a' b' c' d').1 (quotL a' b' c' d').2.1 = true := by
  have o1 := (vld_iff.1 v1).1
  have o2 := (vld_iff.1 v2).1
  unfold quotL
  rw [if_pos (show (vld a' b' && vld c' d') = true by simp [v3, v4]), if_pos (show (vld a b && vld c d) = true by simp [v1, v2])]
  by_cases hz : c' ≤ 0 ∧ 0 ≤ d'
  · rw [if_pos hz]
    intro k; exact absurd k (by decide)
  · have hz2 : ¬(c ≤ 0 ∧ 0 ≤ d) := by omega
    have hz3 : 0 < c' ∨ d' < 0 := by omega
    rw [if_neg hz, if_neg hz2]
    have m1 := flo_between a' b' c' d' a c (by omega) (by omega) (by omega) (by omega) hz3
    have m2 := flo_between a' b' c' d' a d (by omega) (by omega) (by omega) (by omega) hz3
    have m3 := flo_between a' b' c' d' b c (by omega) (by omega) (by omega) (by omega) hz3
    have m4 := flo_between a' b' c' d' b d (by omega) (by omega) (by omega) (by omega) hz3
    have n1 := cei_between a' b' c' d' a c (by omega) (by omega) (by omega) (by omega) hz3
    have n2 := cei_between a' b' c' d' a d (by omega) (by omega) (by omega) (by omega) hz3
    have n3 := cei_between a' b' c' d' b c (by omega) (by omega) (by omega) (by omega) hz3
    have n4 := cei_between a' b' c' d' b d (by omega) (by omega) (by omega) (by omega) hz3
    have fc : ∀ x y : Int, y ≠ 0 → flo x y ≤ cei x y := by
      intro x y hy
      obtain ⟨F, hF, hr⟩ := quo_cases x y (max x (-x)) (max y (-y)) hy rfl rfl
      omega
    have f1 := fc a c (by omega)
    have w := make_wider (lo := min (min (flo a c) (flo a d)) (min (flo b c) (flo b d))) (hi := max (max (cei a c) (cei a d)) (max (cei b c) (cei b d)))
      (lo' := min (min (flo a' c') (flo a' d')) (min (flo b' c') (flo b' d'))) (hi' := max (max (cei a' c') (cei a' d')) (max (cei b' c') (cei b' d'))) (by omega) (by omega) (by omega)
    exact fun k => ⟨w.1 k, w.2 k (w.1 k)⟩

theorem less_wider : lessL a' b' c' d' = 2 ∨ lessL a' b' c' d' = lessL a b c d := by
  have o1 := (vld_iff.1 v1).1
  have o2 := (vld_iff.1 v2).1
  unfold lessL
  rw [if_pos (show (vld a' b' && vld c' d') = true by simp [v3, v4]), if_pos (show (vld a b && vld c d) = true by simp [v1, v2])]
  by_cases q1 : b' < c'
  · rw [if_pos q1, if_pos (by omega)]; exact .inr rfl
  · by_cases q2 : d' ≤ a'
    · rw [if_neg q1, if_pos q2, if_neg (by omega), if_pos (by omega)]; exact .inr rfl
    · rw [if_neg q1, if_neg q2]; exact .inl rfl

end

theorem root_wider {a b a' b' : Int} (v1 : vld a b = true) (v3 : vld a' b' = true) (h1 : a' ≤ a) (h2 : b ≤ b') :
    (rootL a' b').2.2 = 0 → (rootL a b).2.2 = 0 ∧ insd (rootL a b).1 (rootL a b).2.1 (rootL a' b').1 (rootL a' b').2.1 = true := by
  have o1 := vld_iff.1 v1
  have o3 := vld_iff.1 v3
  unfold rootL
  rw [if_pos v3, if_pos v1]
  by_cases ha : a' < 0
  · rw [if_pos ha]
    intro k; exact absurd k (by decide)
  · rw [if_neg ha, if_neg (show ¬a < 0 by omega)]
    obtain ⟨p1, p2, p3⟩ := isq_spec a (by omega)
    obtain ⟨q1, q2, q3⟩ := isq_spec b (by omega)
    obtain ⟨r1, r2, r3⟩ := isq_spec a' (by omega)
    obtain ⟨s1, s2, s3⟩ := isq_spec b' (by omega)
    have u1 := isq_small b (by omega) (by omega)
    have u2 := isq_small b' (by omega) (by omega)
    have t1 := sq_lt r1 (by omega) (show isq a' * isq a' < (isq a + 1) * (isq a + 1) by omega)
    have t2 := sq_lt p1 (by omega) (show isq a * isq a < (isq b + 1) * (isq b + 1) by omega)
    have t3 := sq_lt q1 (by omega) (show isq b * isq b < (isq b' + 1) * (isq b' + 1) by omega)
    have key : (if isq b * isq b < b then isq b + 1 else isq b) ≤ (if isq b' * isq b' < b' then isq b' + 1 else isq b') := by
      by_cases c1 : isq b * isq b < b
      · rw [if_pos c1]
        by_cases c2 : isq b' * isq b' < b'
        · rw [if_pos c2]; omega
        · rw [if_neg c2]
          have := sq_lt q1 s1 (show isq b * isq b < isq b' * isq b' by omega)
          omega
      · rw [if_neg c1]
        by_cases c2 : isq b' * isq b' < b'
        · rw [if_pos c2]; omega
        · rw [if_neg c2]; omega
    intro _
    refine ⟨rfl, (insd_iff (vld_iff.2 ?_) (vld_iff.2 ?_)).2 ⟨?_, key⟩⟩
    · refine ⟨?_, ?_, ?_⟩
      · show isq a ≤ (if isq b * isq b < b then isq b + 1 else isq b)
        split <;> omega
      · show -1000000000000000 ≤ isq a
        omega
      · show (if isq b * isq b < b then isq b + 1 else isq b) ≤ 1000000000000000
        split <;> omega
    · refine ⟨?_, ?_, ?_⟩
      · show isq a' ≤ (if isq b' * isq b' < b' then isq b' + 1 else isq b')
        have : isq a' ≤ (if isq b * isq b < b then isq b + 1 else isq b) := by split <;> omega
        omega
      · show -1000000000000000 ≤ isq a'
        omega
      · show (if isq b' * isq b' < b' then isq b' + 1 else isq b') ≤ 1000000000000000
        split <;> omega
    · show isq a' ≤ isq a
      omega

end Go.Proofs.YtjikhpdchockcaaDoor
end
