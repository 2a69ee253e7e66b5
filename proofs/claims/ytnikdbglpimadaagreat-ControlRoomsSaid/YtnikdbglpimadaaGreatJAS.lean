import Derived.Test.YtnikdbglpimadaaGreatJAA
import Derived.Test.YtnikdbglpimadaaGreatJAB
import Derived.Test.YtnikdbglpimadaaGreatJAD
import Derived.Test.YtnikdbglpimadaaGreatJAF
import Derived.Test.YtnikdbglpimadaaGreatJAO
import Derived.Test.YtnikdbglpimadaaGreatJAP
import Derived.Test.YtnikdbglpimadaaGreatJAR
import Derived.Deep.RegionHeld3
import Derived.Lib.Hide
import Derived.Deep.DeepCutAuto
import Derived.Deep.QuietTactic
import Derived.BigQuiet
import Derived.IntWalk
section
/- Package span: contracts of Add, Sub, Neg and Square, over this seat's translation. -/
namespace Go.Proofs.YtnikdbglpimadaaGreat
set_option linter.unusedVariables false
set_option linter.unusedSimpArgs false
open Go.RowKit Go.Shelf

def subL (a b c d : Int) : Int × Int × Int := if (vld a b && vld c d) = true then makeL (a - d) (b - c) else (0, 0, 1)
set_option maxHeartbeats 1000000 in
theorem subbed_any (x y : Int) (w : World) (m1 : -1000000000000000 ≤ x) (m2 : x ≤ 1000000000000000) (n1 : -1000000000000000 ≤ y) (n2 : y ≤ 1000000000000000) :
    Calls Tryz.prog 104 #[.int .i64 x, .int .i64 y] w (Ret (.agg #[.int .u64 (hi64 (x - y)), .int .u64 (lo64 (x - y)), .int .u64 (hi64 (x - y)), .int .u64 (lo64 (x - y))]) w) := by
  go_enter Tryz.func104, Tryz.ntmps104
  go_wp2_with (first | (go_at_call 106; refine (number_any _ _ (by omega) (by omega)).mono ?_; rintro e w1 ⟨rfl, hb⟩; have hB : Below w.heap.size w w1 := Below.trans (by (with_reducible repeat first | exact Below.refl _ _ | assumption | ((first | refine Below.setCell ?_ ?_ _ | refine Below.alloc ?_ ?_ _); rotate_left; exact (by first | omega | (simp; done) | (simp; omega))) | refine Below.drew ?_ | refine Below_drewN ?_ _)) (hb.mono (by first | omega | (simp; done) | (simp; omega))); obtain ⟨hc, hf⟩ := bcell hb; have hs := hb.size; clear hb; (try simp only [World.size_alloc, World.size_setCell] at hc hf); (try simp only [World.size_alloc, World.size_setCell] at hs); (try have hs' := Nat.lt_of_succ_le hs); (try have hs0 : w.heap.size < w1.heap.size := by omega); (try have hs1 : w.heap.size + 1 < w1.heap.size := by omega); (try have hs2 : w.heap.size + 1 + 1 < w1.heap.size := by omega); (try have hs3 : w.heap.size + 1 + 1 + 1 < w1.heap.size := by omega); (try have iso : (w1.cell? ⟨w.heap.size, 0, none⟩).isSome = true := by (rw [hc _ _ (by first | omega | (simp; done) | (simp; omega))]; (try simp only [isSome_setCell]); first | assumption | go_simp)); (try have iso : (w1.cell? ⟨w.heap.size, 1, none⟩).isSome = true := by (rw [hc _ _ (by first | omega | (simp; done) | (simp; omega))]; (try simp only [isSome_setCell]); first | assumption | go_simp)); (try have iso : (w1.cell? ⟨w.heap.size, 2, none⟩).isSome = true := by (rw [hc _ _ (by first | omega | (simp; done) | (simp; omega))]; (try simp only [isSome_setCell]); first | assumption | go_simp)); (try have iso : (w1.cell? ⟨w.heap.size, 3, none⟩).isSome = true := by (rw [hc _ _ (by first | omega | (simp; done) | (simp; omega))]; (try simp only [isSome_setCell]); first | assumption | go_simp)); (try have iso : (w1.cell? ⟨w.heap.size + 1, 0, none⟩).isSome = true := by (rw [hc _ _ (by first | omega | (simp; done) | (simp; omega))]; (try simp only [isSome_setCell]); first | assumption | go_simp)); (try have iso : (w1.cell? ⟨w.heap.size + 1, 1, none⟩).isSome = true := by (rw [hc _ _ (by first | omega | (simp; done) | (simp; omega))]; (try simp only [isSome_setCell]); first | assumption | go_simp)); (try have iso : (w1.cell? ⟨w.heap.size + 1, 2, none⟩).isSome = true := by (rw [hc _ _ (by first | omega | (simp; done) | (simp; omega))]; (try simp only [isSome_setCell]); first | assumption | go_simp)); (try have iso : (w1.cell? ⟨w.heap.size + 1, 3, none⟩).isSome = true := by (rw [hc _ _ (by first | omega | (simp; done) | (simp; omega))]; (try simp only [isSome_setCell]); first | assumption | go_simp)); (try have iso : (w1.cell? ⟨w.heap.size + 1 + 1, 0, none⟩).isSome = true := by (rw [hc _ _ (by first | omega | (simp; done) | (simp; omega))]; (try simp only [isSome_setCell]); first | assumption | go_simp)); (try have iso : (w1.cell? ⟨w.heap.size + 1 + 1, 1, none⟩).isSome = true := by (rw [hc _ _ (by first | omega | (simp; done) | (simp; omega))]; (try simp only [isSome_setCell]); first | assumption | go_simp)); (try have iso : (w1.cell? ⟨w.heap.size + 1 + 1, 2, none⟩).isSome = true := by (rw [hc _ _ (by first | omega | (simp; done) | (simp; omega))]; (try simp only [isSome_setCell]); first | assumption | go_simp)); (try have iso : (w1.cell? ⟨w.heap.size + 1 + 1, 3, none⟩).isSome = true := by (rw [hc _ _ (by first | omega | (simp; done) | (simp; omega))]; (try simp only [isSome_setCell]); first | assumption | go_simp))) | (go_at_call 105; refine (only_any _ _ _).mono ?_; rintro e w1 ⟨rfl, hb⟩; have hB : Below w.heap.size w w1 := Below.trans (by (with_reducible repeat first | exact Below.refl _ _ | assumption | ((first | refine Below.setCell ?_ ?_ _ | refine Below.alloc ?_ ?_ _); rotate_left; exact (by first | omega | (simp; done) | (simp; omega))) | refine Below.drew ?_ | refine Below_drewN ?_ _)) (hb.mono (by first | omega | (simp; done) | (simp; omega))); obtain ⟨hc, hf⟩ := bcell hb; have hs := hb.size; clear hb; (try simp only [World.size_alloc, World.size_setCell] at hc hf); (try simp only [World.size_alloc, World.size_setCell] at hs); (try have hs' := Nat.lt_of_succ_le hs); (try have hs0 : w.heap.size < w1.heap.size := by omega); (try have hs1 : w.heap.size + 1 < w1.heap.size := by omega); (try have hs2 : w.heap.size + 1 + 1 < w1.heap.size := by omega); (try have hs3 : w.heap.size + 1 + 1 + 1 < w1.heap.size := by omega); (try have iso : (w1.cell? ⟨w.heap.size, 0, none⟩).isSome = true := by (rw [hc _ _ (by first | omega | (simp; done) | (simp; omega))]; (try simp only [isSome_setCell]); first | assumption | go_simp)); (try have iso : (w1.cell? ⟨w.heap.size, 1, none⟩).isSome = true := by (rw [hc _ _ (by first | omega | (simp; done) | (simp; omega))]; (try simp only [isSome_setCell]); first | assumption | go_simp)); (try have iso : (w1.cell? ⟨w.heap.size, 2, none⟩).isSome = true := by (rw [hc _ _ (by first | omega | (simp; done) | (simp; omega))]; (try simp only [isSome_setCell]); first | assumption | go_simp)); (try have iso : (w1.cell? ⟨w.heap.size, 3, none⟩).isSome = true := by (rw [hc _ _ (by first | omega | (simp; done) | (simp; omega))]; (try simp only [isSome_setCell]); first | assumption | go_simp)); (try have iso : (w1.cell? ⟨w.heap.size + 1, 0, none⟩).isSome = true := by (rw [hc _ _ (by first | omega | (simp; done) | (simp; omega))]; (try simp only [isSome_setCell]); first | assumption | go_simp)); (try have iso : (w1.cell? ⟨w.heap.size + 1, 1, none⟩).isSome = true := by (rw [hc _ _ (by first | omega | (simp; done) | (simp; omega))]; (try simp only [isSome_setCell]); first | assumption | go_simp)); (try have iso : (w1.cell? ⟨w.heap.size + 1, 2, none⟩).isSome = true := by (rw [hc _ _ (by first | omega | (simp; done) | (simp; omega))]; (try simp only [isSome_setCell]); first | assumption | go_simp)); (try have iso : (w1.cell? ⟨w.heap.size + 1, 3, none⟩).isSome = true := by (rw [hc _ _ (by first | omega | (simp; done) | (simp; omega))]; (try simp only [isSome_setCell]); first | assumption | go_simp)); (try have iso : (w1.cell? ⟨w.heap.size + 1 + 1, 0, none⟩).isSome = true := by (rw [hc _ _ (by first | omega | (simp; done) | (simp; omega))]; (try simp only [isSome_setCell]); first | assumption | go_simp)); (try have iso : (w1.cell? ⟨w.heap.size + 1 + 1, 1, none⟩).isSome = true := by (rw [hc _ _ (by first | omega | (simp; done) | (simp; omega))]; (try simp only [isSome_setCell]); first | assumption | go_simp)); (try have iso : (w1.cell? ⟨w.heap.size + 1 + 1, 2, none⟩).isSome = true := by (rw [hc _ _ (by first | omega | (simp; done) | (simp; omega))]; (try simp only [isSome_setCell]); first | assumption | go_simp)); (try have iso : (w1.cell? ⟨w.heap.size + 1 + 1, 3, none⟩).isSome = true := by (rw [hc _ _ (by first | omega | (simp; done) | (simp; omega))]; (try simp only [isSome_setCell]); first | assumption | go_simp))))
  exact bodyPost_ret (res4s Tryz.results104 _ _ _ _ _ _ _ rfl (by (try simp only [isSome_setCell]); first | assumption | go_simp) (by (try simp only [isSome_setCell]); first | assumption | go_simp) (by (try simp only [isSome_setCell]); first | assumption | go_simp) (by (try simp only [isSome_setCell]); first | assumption | go_simp)) rfl ⟨rfl, by (with_reducible repeat first | exact Below.refl _ _ | assumption | ((first | refine Below.setCell ?_ ?_ _ | refine Below.alloc ?_ ?_ _); rotate_left; exact (by first | omega | (simp; done) | (simp; omega))) | refine Below.drew ?_ | refine Below_drewN ?_ _)⟩

set_option maxHeartbeats 1000000 in
theorem sub_any (a b c d : Int) (w : World) :
    Calls Tryz.prog 56 #[Sp a b, Sp c d] w (Ret (.tuple #[.agg #[.int .i64 (subL a b c d).1, .int .i64 (subL a b c d).2.1], .int .i64 (subL a b c d).2.2]) w) := by
  by_cases hv : (vld a b && vld c d) = true
  · obtain ⟨v1, v2⟩ : vld a b = true ∧ vld c d = true := by simpa using hv
    obtain ⟨a1, a2, b1, b2⟩ := vld_fit v1
    obtain ⟨c1, c2, d1, d2⟩ := vld_fit v2
    have o1 := (vld_iff.1 v1).1
    have o2 := (vld_iff.1 v2).1
    have e : subL a b c d = makeL (a - d) (b - c) := by unfold subL; rw [if_pos hv]
    rw [e]
    have F : ∀ x : Int, -2000000000000000 ≤ x → x ≤ 2000000000000000 → Fit x := fun x h1 h2 => by unfold Fit; omega
    have HS := Lib.hid (fun W => combine_ok 104 a b c d (a - d) (b - c) W v1 v2 (fun W => by
      have h := spread_any 104 (fun x y => x - y) (fun x y => x - y) a b c d W (fun args W => enters_of Tryz.func104 (by kernel_rfl) rfl args W)
        (fun W => subbed_any a c W a1 a2 c1 c2) (fun W => subbed_any a d W a1 a2 d1 d2) (fun W => subbed_any b c W b1 b2 c1 c2) (fun W => subbed_any b d W b1 b2 d1 d2)
        (F _ (by omega) (by omega)) (F _ (by omega) (by omega)) (F _ (by omega) (by omega)) (F _ (by omega) (by omega)) (F _ (by omega) (by omega)) (F _ (by omega) (by omega)) (F _ (by omega) (by omega)) (F _ (by omega) (by omega))
      rwa [show min (min (a - c) (a - d)) (min (b - c) (b - d)) = a - d by omega, show max (max (a - c) (a - d)) (max (b - c) (b - d)) = b - c by omega] at h)
      (F _ (by omega) (by omega)) (F _ (by omega) (by omega)))
    generalize a - d = lo at *
    generalize b - c = hi at *
    clear e hv v1 v2 F
    go_enter Tryz.func56, Tryz.ntmps56
    go_wp2_with (go_at_call 103; refine (HS.out _).mono ?_; rintro e w1 ⟨rfl, hb⟩; have hB : Below w.heap.size w w1 := Below.trans (by (with_reducible repeat first | exact Below.refl _ _ | assumption | ((first | refine Below.setCell ?_ ?_ _ | refine Below.alloc ?_ ?_ _); rotate_left; exact (by first | omega | (simp; done) | (simp; omega))) | refine Below.drew ?_ | refine Below_drewN ?_ _)) (hb.mono (by first | omega | (simp; done) | (simp; omega))); obtain ⟨hc, hf⟩ := bcell hb; have hs := hb.size; clear hb; (try simp only [World.size_alloc, World.size_setCell] at hc hf); (try simp only [World.size_alloc, World.size_setCell] at hs); (try have hs' := Nat.lt_of_succ_le hs); (try have hs0 : w.heap.size < w1.heap.size := by omega); (try have hs1 : w.heap.size + 1 < w1.heap.size := by omega); (try have hs2 : w.heap.size + 1 + 1 < w1.heap.size := by omega); (try have hs3 : w.heap.size + 1 + 1 + 1 < w1.heap.size := by omega); (try have iso : (w1.cell? ⟨w.heap.size, 0, none⟩).isSome = true := by (rw [hc _ _ (by first | omega | (simp; done) | (simp; omega))]; (try simp only [isSome_setCell]); first | assumption | go_simp)); (try have iso : (w1.cell? ⟨w.heap.size, 1, none⟩).isSome = true := by (rw [hc _ _ (by first | omega | (simp; done) | (simp; omega))]; (try simp only [isSome_setCell]); first | assumption | go_simp)); (try have iso : (w1.cell? ⟨w.heap.size + 1, 0, none⟩).isSome = true := by (rw [hc _ _ (by first | omega | (simp; done) | (simp; omega))]; (try simp only [isSome_setCell]); first | assumption | go_simp)); (try have iso : (w1.cell? ⟨w.heap.size + 1, 1, none⟩).isSome = true := by (rw [hc _ _ (by first | omega | (simp; done) | (simp; omega))]; (try simp only [isSome_setCell]); first | assumption | go_simp)); (try have iso : (w1.cell? ⟨w.heap.size + 1 + 1, 0, none⟩).isSome = true := by (rw [hc _ _ (by first | omega | (simp; done) | (simp; omega))]; (try simp only [isSome_setCell]); first | assumption | go_simp)); (try have iso : (w1.cell? ⟨w.heap.size + 1 + 1, 1, none⟩).isSome = true := by (rw [hc _ _ (by first | omega | (simp; done) | (simp; omega))]; (try simp only [isSome_setCell]); first | assumption | go_simp)))
    exact bodyPost_ret (res3 Tryz.results56 _ _ _ _ _ _ rfl rfl (by (try simp only [isSome_setCell]); first | assumption | go_simp) (by (try simp only [isSome_setCell]); first | assumption | go_simp)) rfl ⟨rfl, by (with_reducible repeat first | exact Below.refl _ _ | assumption | ((first | refine Below.setCell ?_ ?_ _ | refine Below.alloc ?_ ?_ _); rotate_left; exact (by first | omega | (simp; done) | (simp; omega))) | refine Below.drew ?_ | refine Below_drewN ?_ _)⟩
  · have hv' : (vld a b && vld c d) = false := by simpa using hv
    have e : subL a b c d = (0, 0, 1) := by unfold subL; rw [if_neg hv]
    rw [e]
    have HS := Lib.hid hv'
    clear e hv hv'
    go_enter Tryz.func56, Tryz.ntmps56
    go_wp2_with (go_at_call 103; refine (combine_bad _ _ _ _ _ _ HS.out).mono ?_; rintro e w1 ⟨rfl, hb⟩; have hB : Below w.heap.size w w1 := Below.trans (by (with_reducible repeat first | exact Below.refl _ _ | assumption | ((first | refine Below.setCell ?_ ?_ _ | refine Below.alloc ?_ ?_ _); rotate_left; exact (by first | omega | (simp; done) | (simp; omega))) | refine Below.drew ?_ | refine Below_drewN ?_ _)) (hb.mono (by first | omega | (simp; done) | (simp; omega))); obtain ⟨hc, hf⟩ := bcell hb; have hs := hb.size; clear hb; (try simp only [World.size_alloc, World.size_setCell] at hc hf); (try simp only [World.size_alloc, World.size_setCell] at hs); (try have hs' := Nat.lt_of_succ_le hs); (try have hs0 : w.heap.size < w1.heap.size := by omega); (try have hs1 : w.heap.size + 1 < w1.heap.size := by omega); (try have hs2 : w.heap.size + 1 + 1 < w1.heap.size := by omega); (try have hs3 : w.heap.size + 1 + 1 + 1 < w1.heap.size := by omega); (try have iso : (w1.cell? ⟨w.heap.size, 0, none⟩).isSome = true := by (rw [hc _ _ (by first | omega | (simp; done) | (simp; omega))]; (try simp only [isSome_setCell]); first | assumption | go_simp)); (try have iso : (w1.cell? ⟨w.heap.size, 1, none⟩).isSome = true := by (rw [hc _ _ (by first | omega | (simp; done) | (simp; omega))]; (try simp only [isSome_setCell]); first | assumption | go_simp)); (try have iso : (w1.cell? ⟨w.heap.size + 1, 0, none⟩).isSome = true := by (rw [hc _ _ (by first | omega | (simp; done) | (simp; omega))]; (try simp only [isSome_setCell]); first | assumption | go_simp)); (try have iso : (w1.cell? ⟨w.heap.size + 1, 1, none⟩).isSome = true := by (rw [hc _ _ (by first | omega | (simp; done) | (simp; omega))]; (try simp only [isSome_setCell]); first | assumption | go_simp)); (try have iso : (w1.cell? ⟨w.heap.size + 1 + 1, 0, none⟩).isSome = true := by (rw [hc _ _ (by first | omega | (simp; done) | (simp; omega))]; (try simp only [isSome_setCell]); first | assumption | go_simp)); (try have iso : (w1.cell? ⟨w.heap.size + 1 + 1, 1, none⟩).isSome = true := by (rw [hc _ _ (by first | omega | (simp; done) | (simp; omega))]; (try simp only [isSome_setCell]); first | assumption | go_simp)))
    exact bodyPost_ret (res3 Tryz.results56 _ _ _ _ _ _ rfl rfl (by (try simp only [isSome_setCell]); first | assumption | go_simp) (by (try simp only [isSome_setCell]); first | assumption | go_simp)) rfl ⟨rfl, by (with_reducible repeat first | exact Below.refl _ _ | assumption | ((first | refine Below.setCell ?_ ?_ _ | refine Below.alloc ?_ ?_ _); rotate_left; exact (by first | omega | (simp; done) | (simp; omega))) | refine Below.drew ?_ | refine Below_drewN ?_ _)⟩

end Go.Proofs.YtnikdbglpimadaaGreat
end
section
/- Package span and its specification: contracts of Point, Make, Widen, Hull and Meet, and of the laws' comparison of results, over this seat's translation. -/
namespace Go.Proofs.YtnikdbglpimadaaGreat
set_option linter.unusedVariables false
set_option linter.unusedSimpArgs false
open Go.RowKit

set_option maxHeartbeats 400000 in
theorem within_any (n : Int) (w : World) :
    Calls Tryz.prog 70 #[.int .i64 n] w fun e w' => e = .returned (.bool (inR n)) ∧ w = w' := by
  go_enter Tryz.func70, Tryz.ntmps70
  go_wp2
  all_goals go_ret
  all_goals (simp [inR]; try omega)

set_option maxHeartbeats 400000 in
theorem rvalid_any (lo hi : Int) (w : World) :
    Calls Tryz.prog 40 #[Sp lo hi] w (Ret (.bool (vld lo hi)) w) := by
  go_enter Tryz.func40, Tryz.ntmps40
  go_wp2_with (go_at_call 70; refine (within_any _ _).mono ?_; rintro e w' ⟨rfl, rfl⟩)
  all_goals go_ret
  all_goals exact ⟨by simp [vld, *] <;> omega, by (with_reducible repeat first | exact Below.refl _ _ | assumption | ((first | refine Below.setCell ?_ ?_ _ | refine Below.alloc ?_ ?_ _); rotate_left; exact (by first | omega | (simp; done) | (simp; omega))) | refine Below.drew ?_ | refine Below_drewN ?_ _)⟩

end Go.Proofs.YtnikdbglpimadaaGreat
end
section
/- Package span: contracts of Less and Lies, over this seat's translation. -/
namespace Go.Proofs.YtnikdbglpimadaaGreat
set_option linter.unusedVariables false
set_option linter.unusedSimpArgs false
open Go.RowKit

end Go.Proofs.YtnikdbglpimadaaGreat
end
section
/- The specification of package span: contracts of its looks (Contains, Inside, Width, Middle, Greatest, Proved), over this seat's translation. -/
namespace Go.Proofs.YtnikdbglpimadaaGreat
set_option linter.unusedVariables false
set_option linter.unusedSimpArgs false
open Go.RowKit

set_option maxHeartbeats 400000 in
theorem rcontains_any (lo hi n : Int) (w : World) :
    Calls Tryz.prog 15 #[Sp lo hi, .int .i64 n] w (Ret (.bool (cont lo hi n)) w) := by
  go_enter Tryz.func15, Tryz.ntmps15
  go_wp2_with (go_at_call 40; refine (rvalid_any _ _ _).mono ?_; rintro e w1 ⟨rfl, hb⟩; have hB : Below w.heap.size w w1 := Below.trans (by (with_reducible repeat first | exact Below.refl _ _ | assumption | ((first | refine Below.setCell ?_ ?_ _ | refine Below.alloc ?_ ?_ _); rotate_left; exact (by first | omega | (simp; done) | (simp; omega))) | refine Below.drew ?_ | refine Below_drewN ?_ _)) (hb.mono (by first | omega | (simp; done) | (simp; omega))); obtain ⟨hc, hf⟩ := bcell hb; have hs := hb.size; clear hb; (try simp only [World.size_alloc, World.size_setCell] at hc hf); (try simp only [World.size_alloc, World.size_setCell] at hs); (try have hs' := Nat.lt_of_succ_le hs); (try have hs0 : w.heap.size < w1.heap.size := by omega); (try have hs1 : w.heap.size + 1 < w1.heap.size := by omega); (try have hs2 : w.heap.size + 1 + 1 < w1.heap.size := by omega); (try have hs3 : w.heap.size + 1 + 1 + 1 < w1.heap.size := by omega))
  all_goals go_ret
  all_goals exact ⟨by simp [cont, *] <;> omega, by (with_reducible repeat first | exact Below.refl _ _ | assumption | ((first | refine Below.setCell ?_ ?_ _ | refine Below.alloc ?_ ?_ _); rotate_left; exact (by first | omega | (simp; done) | (simp; omega))) | refine Below.drew ?_ | refine Below_drewN ?_ _)⟩

end Go.Proofs.YtnikdbglpimadaaGreat
end
section
/- Package control and its specification: the small functions, over this seat's translation (written by mk_ctm.py). -/
namespace Go.Proofs.YtnikdbglpimadaaGreat
set_option linter.unusedVariables false
set_option linter.unusedSimpArgs false
open Go.RowKit Go.Shelf

def cutL (n most : Int) : Int := max (-most) (min n most)
def goalB (r z : Int) : Bool := wthn r (-60000) 60000 && wthn z (-60000) 60000
def memB (r z : Int) : Bool := wthn r (-1000000000) 1000000000 && wthn z (-1000000000) 1000000000
theorem kwithin_any (n a b : Int) (w : World) :
    Calls Tryz.prog 32 #[.int .i64 n, .int .i64 a, .int .i64 b] w fun e w' => e = .returned (.bool (wthn n a b)) ∧ w = w' := by
  go_enter Tryz.func32, Tryz.ntmps32
  go_wp2
  all_goals go_ret
  all_goals (simp [wthn]; try omega)

theorem rwithin7_any (n a b : Int) (w : World) :
    Calls Tryz.prog 34 #[.int .i64 n, .int .i64 a, .int .i64 b] w fun e w' => e = .returned (.bool (wthn n a b)) ∧ w = w' := by
  go_enter Tryz.func34, Tryz.ntmps34
  go_wp2
  all_goals go_ret
  all_goals (simp [wthn]; try omega)

theorem cut_any (n most : Int) (w : World) (h0 : 0 ≤ most) (h1 : most ≤ 1000000000000) :
    Calls Tryz.prog 59 #[.int .i64 n, .int .i64 most] w fun e w' => e = .returned (.int .i64 (cutL n most)) ∧ w = w' := by
  have v : IntKind.i64.wrap (-most) = -most := IntWalk.i64_in _ (by omega)
  go_enter Tryz.func59, Tryz.ntmps59
  go_wp2
  all_goals go_ret
  all_goals (simp [cutL]; try omega)

theorem goal_any (x y : Int) (w : World) :
    Calls Tryz.prog 54 #[.agg #[.int .i64 x, .int .i64 y]] w (Ret (.bool (goalB x y)) w) := by
  have HE : Hid (goalB x y = (wthn x (-60000) 60000 && wthn y (-60000) 60000)) := Lib.hid rfl
  generalize goalB x y = G at *
  cases h : wthn x (-60000) 60000
  · go_enter Tryz.func54, Tryz.ntmps54
    go_wp2_with (go_at_call 32; refine (kwithin_any _ _ _ _).mono ?_; rintro e w1 ⟨rfl, rfl⟩)
    go_ret
    exact ⟨by rw [HE.out, h]; simp, by (with_reducible repeat first | exact Below.refl _ _ | assumption | ((first | refine Below.setCell ?_ ?_ _ | refine Below.alloc ?_ ?_ _); rotate_left; exact (by first | omega | (simp; done) | (simp; omega))) | refine Below.drew ?_ | refine Below_drewN ?_ _)⟩
  · go_enter Tryz.func54, Tryz.ntmps54
    go_wp2_with (go_at_call 32; refine (kwithin_any _ _ _ _).mono ?_; rintro e w1 ⟨rfl, rfl⟩)
    go_ret
    exact ⟨by rw [HE.out, h]; simp, by (with_reducible repeat first | exact Below.refl _ _ | assumption | ((first | refine Below.setCell ?_ ?_ _ | refine Below.alloc ?_ ?_ _); rotate_left; exact (by first | omega | (simp; done) | (simp; omega))) | refine Below.drew ?_ | refine Below_drewN ?_ _)⟩

theorem mem_any (x y : Int) (w : World) :
    Calls Tryz.prog 57 #[.agg #[.int .i64 x, .int .i64 y]] w (Ret (.bool (memB x y)) w) := by
  have HE : Hid (memB x y = (wthn x (-1000000000) 1000000000 && wthn y (-1000000000) 1000000000)) := Lib.hid rfl
  generalize memB x y = G at *
  cases h : wthn x (-1000000000) 1000000000
  · go_enter Tryz.func57, Tryz.ntmps57
    go_wp2_with (go_at_call 32; refine (kwithin_any _ _ _ _).mono ?_; rintro e w1 ⟨rfl, rfl⟩)
    go_ret
    exact ⟨by rw [HE.out, h]; simp, by (with_reducible repeat first | exact Below.refl _ _ | assumption | ((first | refine Below.setCell ?_ ?_ _ | refine Below.alloc ?_ ?_ _); rotate_left; exact (by first | omega | (simp; done) | (simp; omega))) | refine Below.drew ?_ | refine Below_drewN ?_ _)⟩
  · go_enter Tryz.func57, Tryz.ntmps57
    go_wp2_with (go_at_call 32; refine (kwithin_any _ _ _ _).mono ?_; rintro e w1 ⟨rfl, rfl⟩)
    go_ret
    exact ⟨by rw [HE.out, h]; simp, by (with_reducible repeat first | exact Below.refl _ _ | assumption | ((first | refine Below.setCell ?_ ?_ _ | refine Below.alloc ?_ ?_ _); rotate_left; exact (by first | omega | (simp; done) | (simp; omega))) | refine Below.drew ?_ | refine Below_drewN ?_ _)⟩

end Go.Proofs.YtnikdbglpimadaaGreat
end
section
/- Package control: gains, setups, shapes, wishes as data, over this seat's translation (written by mk_ctg.py). -/
namespace Go.Proofs.YtnikdbglpimadaaGreat
set_option linter.unusedVariables false
set_option linter.unusedSimpArgs false
open Go.RowKit Go.Shelf

structure GainD where
  (r z sr sz : Int)
abbrev GainD.v (x : GainD) : Value := .agg #[.int .i64 x.r, .int .i64 x.z, .int .i64 x.sr, .int .i64 x.sz]
def GainD.cells (x : GainD) : List Value := [.int .i64 x.r, .int .i64 x.z, .int .i64 x.sr, .int .i64 x.sz]
structure QuantD where
  (word : ByteArray) (k : Nat)
abbrev QuantD.v (x : QuantD) : Value := .agg #[.string x.word, .func (.func x.k) #[] #[]]
def QuantD.cells (x : QuantD) : List Value := [.string x.word, .func (.func x.k) #[] #[]]
/-- A gain has a number beyond 10^6. -/
def strongB (x : GainD) : Bool := [x.r, x.z, x.sr, x.sz].any fun n => !wthn n (-1000000) 1000000
/-- What a valid setup is. -/
def setupB (M : MachD) (gs : List GainD) (most : Int) : Bool := decide (checkC M = 0) && (decide (gs.length = M.coils.length) && (!(gs.any strongB) && wthn most 0 1000000000))
structure ShapeD where
  (a0 b0 a1 b1 a2 b2 a3 b3 a4 b4 a5 b5 a6 b6 a7 b7 : Int)
abbrev ShapeD.v (s : ShapeD) : Value := .agg #[.int .i64 s.a0, .int .i64 s.b0, .int .i64 s.a1, .int .i64 s.b1, .int .i64 s.a2, .int .i64 s.b2, .int .i64 s.a3, .int .i64 s.b3, .int .i64 s.a4, .int .i64 s.b4, .int .i64 s.a5, .int .i64 s.b5, .int .i64 s.a6, .int .i64 s.b6, .int .i64 s.a7, .int .i64 s.b7]
def okS (s : ShapeD) : Bool := (vld s.a0 s.b0 && (vld s.a1 s.b1 && (vld s.a2 s.b2 && (vld s.a3 s.b3 && (vld s.a4 s.b4 && (vld s.a5 s.b5 && (vld s.a6 s.b6 && vld s.a7 s.b7)))))))
def numB (l : List Int) : Bool := l.all fun x => wthn x (-1000000000000000) 1000000000000000

end Go.Proofs.YtnikdbglpimadaaGreat
end
section
/- slices.IndexFunc and ContainsFunc over []int, over this seat's translation (written by mk_mac.py). -/
namespace Go.Proofs.YtnikdbglpimadaaGreat
set_option linter.unusedVariables false
set_option linter.unusedSimpArgs false
open Go.RowKit

set_option maxHeartbeats 2000000 in
theorem indexint0 (k : Nat) (p : Int → Bool) (A : Option Addr) (len cap : Nat) (zs : List Int) (w : World) (hI : IsT 1 intCells w A len zs) (hl : len ≤ 1000000000000000)
    (hE : ∀ (args : Array Value) (W : World), (callFunc k args).run Tryz.prog W = .ok (.enter k args) W)
    (hk : ∀ (x : Int) (W : World), x ∈ zs → Below w.heap.size w W → Calls Tryz.prog k #[intV x] W (Ret (.bool (p x)) W)) :
    Calls Tryz.prog 111 #[.slice A len cap, .func (.func k) #[] #[]] w (Ret (.int .i64 (idxL p zs)) w) := by
  have HI := Lib.hid hI
  have HK := Lib.hid hk
  have HG : Hid (idxL p zs = idxGo p zs 0) := Lib.hid rfl
  generalize idxL p zs = G at *
  clear hI hk
  go_enter Tryz.func111, Tryz.ntmps111
  go_wp2_with fail
  go_loopw [5, 8] (fun _ i wr => ∃ j : Nat, j ≤ len ∧ i = .int .i64 j ∧ Hid (idxGo p (zs.drop j) j = G) ∧ Below w.heap.size w wr) (fun _ i _ => len - (intOf i).toNat)
  case atStart => exact ⟨0, Nat.zero_le _, rfl, Lib.hid HG.out.symm, Below.refl _ _⟩
  case round =>
    obtain ⟨j, hj, rfl, hG, hB⟩ := hrel
    by_cases hlt : j < len
    · obtain ⟨hzl, hcl⟩ := HI.out.below hB
      obtain ⟨b, o, rfl, hb0, hcl⟩ := hcl (by omega)
      obtain ⟨x, hx⟩ : ∃ x, zs[j]? = some x := ⟨_, List.getElem?_eq_getElem (by omega)⟩
      have HM := Lib.hid (List.mem_of_getElem? hx)
      have HS := Lib.hid (idxGo_drop p hx (j : Int))
      have x0 : wr.cell? ⟨b, o + j, none⟩ = some (.int .i64 x) := by have h := hcl j x hx 0 _ rfl; simpa using h
      have hsz := hB.size
      have HC := Lib.hid (HK.out x)
      clear hcl hx hzl
      cases hp : p x
      · have HN : Hid (idxGo p (zs.drop (j + 1)) ((j + 1 : Nat) : Int) = G) := Lib.hid (by rw [← hG.out, HS.out, hp]; rfl)
        have HC := Lib.hid (show ∀ W, Below w.heap.size w W → Calls Tryz.prog k #[intV x] W (Ret (.bool false) W) from fun W h => by have := HC.out W HM.out h; rwa [hp] at this)
        clear hp
        go_wp2_with ((with_reducible show Calls _ k _ _ _); refine (HC.out _ (by (with_reducible repeat first | exact Below.refl _ _ | assumption | ((first | refine Below.setCell ?_ ?_ _ | refine Below.alloc ?_ ?_ _); rotate_left; exact (by first | omega | (simp; done) | (simp; omega))) | refine Below.drew ?_ | refine Below_drewN ?_ _))).mono ?_; rintro e w1 ⟨rfl, hb⟩; have hB1 : Below w.heap.size w w1 := Below.trans (by (with_reducible repeat first | exact Below.refl _ _ | assumption | ((first | refine Below.setCell ?_ ?_ _ | refine Below.alloc ?_ ?_ _); rotate_left; exact (by first | omega | (simp; done) | (simp; omega))) | refine Below.drew ?_ | refine Below_drewN ?_ _)) (hb.mono (by first | omega | ((try simp only [World.size_alloc, World.size_setCell, size_drew, size_drewN]); omega) | (simp; done) | (simp; omega))))
        go_roundw
        case rel => exact ⟨j + 1, by omega, by go_num, HN, by (with_reducible repeat first | exact Below.refl _ _ | assumption | ((first | refine Below.setCell ?_ ?_ _ | refine Below.alloc ?_ ?_ _); rotate_left; exact (by first | omega | (simp; done) | (simp; omega))) | refine Below.drew ?_ | refine Below_drewN ?_ _)⟩
        case measure => simp [intOf]; omega
      · have HN : Hid ((j : Int) = G) := Lib.hid (by rw [← hG.out, HS.out, hp]; rfl)
        have HC := Lib.hid (show ∀ W, Below w.heap.size w W → Calls Tryz.prog k #[intV x] W (Ret (.bool true) W) from fun W h => by have := HC.out W HM.out h; rwa [hp] at this)
        clear hp
        go_wp2_with ((with_reducible show Calls _ k _ _ _); refine (HC.out _ (by (with_reducible repeat first | exact Below.refl _ _ | assumption | ((first | refine Below.setCell ?_ ?_ _ | refine Below.alloc ?_ ?_ _); rotate_left; exact (by first | omega | (simp; done) | (simp; omega))) | refine Below.drew ?_ | refine Below_drewN ?_ _))).mono ?_; rintro e w1 ⟨rfl, hb⟩; have hB1 : Below w.heap.size w w1 := Below.trans (by (with_reducible repeat first | exact Below.refl _ _ | assumption | ((first | refine Below.setCell ?_ ?_ _ | refine Below.alloc ?_ ?_ _); rotate_left; exact (by first | omega | (simp; done) | (simp; omega))) | refine Below.drew ?_ | refine Below_drewN ?_ _)) (hb.mono (by first | omega | ((try simp only [World.size_alloc, World.size_setCell, size_drew, size_drewN]); omega) | (simp; done) | (simp; omega))))
        go_ret
        exact ⟨by rw [← HN.out]; rfl, by (with_reducible repeat first | exact Below.refl _ _ | assumption | ((first | refine Below.setCell ?_ ?_ _ | refine Below.alloc ?_ ?_ _); rotate_left; exact (by first | omega | (simp; done) | (simp; omega))) | refine Below.drew ?_ | refine Below_drewN ?_ _)⟩
    · have HN : Hid ((-1 : Int) = G) := Lib.hid (by rw [← hG.out, List.drop_of_length_le (by rw [HI.out.1]; omega)]; rfl)
      go_wp2
      go_ret
      exact ⟨by rw [← HN.out]; rfl, hB⟩

set_option maxHeartbeats 1000000 in
theorem containsint0 (k : Nat) (p : Int → Bool) (A : Option Addr) (len cap : Nat) (zs : List Int) (w : World) (hI : IsT 1 intCells w A len zs) (hl : len ≤ 1000000000000000)
    (hE : ∀ (args : Array Value) (W : World), (callFunc k args).run Tryz.prog W = .ok (.enter k args) W)
    (hk : ∀ (x : Int) (W : World), x ∈ zs → Below w.heap.size w W → Calls Tryz.prog k #[intV x] W (Ret (.bool (p x)) W)) :
    Calls Tryz.prog 66 #[.slice A len cap, .func (.func k) #[] #[]] w (Ret (.bool (zs.any p)) w) := by
  have HI := Lib.hid (indexint0 k  p A len cap zs w hI hl hE hk)
  have HA := Lib.hid (idxL_nonneg p zs)
  obtain ⟨b1, b2⟩ := idxL_bd p zs
  rw [hI.1] at b2
  clear hI hE hk
  generalize idxL p zs = G at *
  go_enter Tryz.func66, Tryz.ntmps66
  go_wp2_with (go_at_call 111; refine HI.out.mono ?_; rintro e w1 ⟨rfl, hb⟩)
  go_ret
  exact ⟨by rw [← HA.out]; rfl, hb⟩

end Go.Proofs.YtnikdbglpimadaaGreat
end
section
/- slices.IndexFunc and ContainsFunc over []Gain, over this seat's translation (written by mk_mac.py). -/
namespace Go.Proofs.YtnikdbglpimadaaGreat
set_option linter.unusedVariables false
set_option linter.unusedSimpArgs false
open Go.RowKit

set_option maxHeartbeats 2000000 in
theorem indexGain0 (k : Nat) (p : GainD → Bool) (A : Option Addr) (len cap : Nat) (zs : List GainD) (w : World) (hI : IsT 4 GainD.cells w A len zs) (hl : len ≤ 1000000000000000)
    (hE : ∀ (args : Array Value) (W : World), (callFunc k args).run Tryz.prog W = .ok (.enter k args) W)
    (hk : ∀ (x : GainD) (W : World), x ∈ zs → Below w.heap.size w W → Calls Tryz.prog k #[GainD.v x] W (Ret (.bool (p x)) W)) :
    Calls Tryz.prog 108 #[.slice A len cap, .func (.func k) #[] #[]] w (Ret (.int .i64 (idxL p zs)) w) := by
  have HI := Lib.hid hI
  have HK := Lib.hid hk
  have HG : Hid (idxL p zs = idxGo p zs 0) := Lib.hid rfl
  generalize idxL p zs = G at *
  clear hI hk
  go_enter Tryz.func108, Tryz.ntmps108
  go_wp2_with fail
  go_loopw [5, 8] (fun _ i wr => ∃ j : Nat, j ≤ len ∧ i = .int .i64 j ∧ Hid (idxGo p (zs.drop j) j = G) ∧ Below w.heap.size w wr) (fun _ i _ => len - (intOf i).toNat)
  case atStart => exact ⟨0, Nat.zero_le _, rfl, Lib.hid HG.out.symm, Below.refl _ _⟩
  case round =>
    obtain ⟨j, hj, rfl, hG, hB⟩ := hrel
    by_cases hlt : j < len
    · obtain ⟨hzl, hcl⟩ := HI.out.below hB
      obtain ⟨b, o, rfl, hb0, hcl⟩ := hcl (by omega)
      obtain ⟨x, hx⟩ : ∃ x, zs[j]? = some x := ⟨_, List.getElem?_eq_getElem (by omega)⟩
      have HM := Lib.hid (List.mem_of_getElem? hx)
      have HS := Lib.hid (idxGo_drop p hx (j : Int))
      have x0 : wr.cell? ⟨b, o + j * 4, none⟩ = some (.int .i64 x.r) := by have h := hcl j x hx 0 _ rfl; simpa using h
      have x1 : wr.cell? ⟨b, o + j * 4 + 1, none⟩ = some (.int .i64 x.z) := by have h := hcl j x hx 1 _ rfl; simpa using h
      have x2 : wr.cell? ⟨b, o + j * 4 + 2, none⟩ = some (.int .i64 x.sr) := by have h := hcl j x hx 2 _ rfl; simpa using h
      have x3 : wr.cell? ⟨b, o + j * 4 + 3, none⟩ = some (.int .i64 x.sz) := by have h := hcl j x hx 3 _ rfl; simpa using h
      have hsz := hB.size
      have HC := Lib.hid (HK.out x)
      clear hcl hx hzl
      cases hp : p x
      · have HN : Hid (idxGo p (zs.drop (j + 1)) ((j + 1 : Nat) : Int) = G) := Lib.hid (by rw [← hG.out, HS.out, hp]; rfl)
        have HC := Lib.hid (show ∀ W, Below w.heap.size w W → Calls Tryz.prog k #[GainD.v x] W (Ret (.bool false) W) from fun W h => by have := HC.out W HM.out h; rwa [hp] at this)
        clear hp
        go_wp2_with ((with_reducible show Calls _ k _ _ _); refine (HC.out _ (by (with_reducible repeat first | exact Below.refl _ _ | assumption | ((first | refine Below.setCell ?_ ?_ _ | refine Below.alloc ?_ ?_ _); rotate_left; exact (by first | omega | (simp; done) | (simp; omega))) | refine Below.drew ?_ | refine Below_drewN ?_ _))).mono ?_; rintro e w1 ⟨rfl, hb⟩; have hB1 : Below w.heap.size w w1 := Below.trans (by (with_reducible repeat first | exact Below.refl _ _ | assumption | ((first | refine Below.setCell ?_ ?_ _ | refine Below.alloc ?_ ?_ _); rotate_left; exact (by first | omega | (simp; done) | (simp; omega))) | refine Below.drew ?_ | refine Below_drewN ?_ _)) (hb.mono (by first | omega | ((try simp only [World.size_alloc, World.size_setCell, size_drew, size_drewN]); omega) | (simp; done) | (simp; omega))))
        go_roundw
        case rel => exact ⟨j + 1, by omega, by go_num, HN, by (with_reducible repeat first | exact Below.refl _ _ | assumption | ((first | refine Below.setCell ?_ ?_ _ | refine Below.alloc ?_ ?_ _); rotate_left; exact (by first | omega | (simp; done) | (simp; omega))) | refine Below.drew ?_ | refine Below_drewN ?_ _)⟩
        case measure => simp [intOf]; omega
      · have HN : Hid ((j : Int) = G) := Lib.hid (by rw [← hG.out, HS.out, hp]; rfl)
        have HC := Lib.hid (show ∀ W, Below w.heap.size w W → Calls Tryz.prog k #[GainD.v x] W (Ret (.bool true) W) from fun W h => by have := HC.out W HM.out h; rwa [hp] at this)
        clear hp
        go_wp2_with ((with_reducible show Calls _ k _ _ _); refine (HC.out _ (by (with_reducible repeat first | exact Below.refl _ _ | assumption | ((first | refine Below.setCell ?_ ?_ _ | refine Below.alloc ?_ ?_ _); rotate_left; exact (by first | omega | (simp; done) | (simp; omega))) | refine Below.drew ?_ | refine Below_drewN ?_ _))).mono ?_; rintro e w1 ⟨rfl, hb⟩; have hB1 : Below w.heap.size w w1 := Below.trans (by (with_reducible repeat first | exact Below.refl _ _ | assumption | ((first | refine Below.setCell ?_ ?_ _ | refine Below.alloc ?_ ?_ _); rotate_left; exact (by first | omega | (simp; done) | (simp; omega))) | refine Below.drew ?_ | refine Below_drewN ?_ _)) (hb.mono (by first | omega | ((try simp only [World.size_alloc, World.size_setCell, size_drew, size_drewN]); omega) | (simp; done) | (simp; omega))))
        go_ret
        exact ⟨by rw [← HN.out]; rfl, by (with_reducible repeat first | exact Below.refl _ _ | assumption | ((first | refine Below.setCell ?_ ?_ _ | refine Below.alloc ?_ ?_ _); rotate_left; exact (by first | omega | (simp; done) | (simp; omega))) | refine Below.drew ?_ | refine Below_drewN ?_ _)⟩
    · have HN : Hid ((-1 : Int) = G) := Lib.hid (by rw [← hG.out, List.drop_of_length_le (by rw [HI.out.1]; omega)]; rfl)
      go_wp2
      go_ret
      exact ⟨by rw [← HN.out]; rfl, hB⟩

set_option maxHeartbeats 1000000 in
theorem containsGain0 (k : Nat) (p : GainD → Bool) (A : Option Addr) (len cap : Nat) (zs : List GainD) (w : World) (hI : IsT 4 GainD.cells w A len zs) (hl : len ≤ 1000000000000000)
    (hE : ∀ (args : Array Value) (W : World), (callFunc k args).run Tryz.prog W = .ok (.enter k args) W)
    (hk : ∀ (x : GainD) (W : World), x ∈ zs → Below w.heap.size w W → Calls Tryz.prog k #[GainD.v x] W (Ret (.bool (p x)) W)) :
    Calls Tryz.prog 61 #[.slice A len cap, .func (.func k) #[] #[]] w (Ret (.bool (zs.any p)) w) := by
  have HI := Lib.hid (indexGain0 k  p A len cap zs w hI hl hE hk)
  have HA := Lib.hid (idxL_nonneg p zs)
  obtain ⟨b1, b2⟩ := idxL_bd p zs
  rw [hI.1] at b2
  clear hI hE hk
  generalize idxL p zs = G at *
  go_enter Tryz.func61, Tryz.ntmps61
  go_wp2_with (go_at_call 108; refine HI.out.mono ?_; rintro e w1 ⟨rfl, hb⟩)
  go_ret
  exact ⟨by rw [← HA.out]; rfl, hb⟩

end Go.Proofs.YtnikdbglpimadaaGreat
end
section
/- Package control: contracts of tooStrong, ValidSetup, validNumbers, over this seat's translation (written by mk_cts.py). -/
namespace Go.Proofs.YtnikdbglpimadaaGreat
set_option linter.unusedVariables false
set_option linter.unusedSimpArgs false
open Go.RowKit Go.Shelf

theorem tooStrong1_any (n : Int) (w : World) :
    Calls Tryz.prog 109 #[intV n] w (Ret (.bool (!wthn n (-1000000) 1000000)) w) := by
  go_enter Tryz.func109, Tryz.ntmps109
  go_wp2_with (go_at_call 32; refine (kwithin_any _ _ _ _).mono ?_; rintro e w1 ⟨rfl, rfl⟩)
  go_ret
  exact ⟨rfl, by (with_reducible repeat first | exact Below.refl _ _ | assumption | ((first | refine Below.setCell ?_ ?_ _ | refine Below.alloc ?_ ?_ _); rotate_left; exact (by first | omega | (simp; done) | (simp; omega))) | refine Below.drew ?_ | refine Below_drewN ?_ _)⟩

theorem tooStrong_any (x : GainD) (w : World) :
    Calls Tryz.prog 62 #[x.v] w (Ret (.bool (strongB x)) w) := by
  obtain ⟨r, z, sr, sz⟩ := x
  have HC := Lib.hid (fun W (hI : IsT 1 intCells W (some ⟨w.heap.size + 1, 0, none⟩) 4 [r, z, sr, sz]) => containsint0 109 (fun n => !wthn n (-1000000) 1000000) (some ⟨w.heap.size + 1, 0, none⟩) 4 4 [r, z, sr, sz] W hI (by omega) (fun args W => enters_of Tryz.func109 (by kernel_rfl) rfl args W) (fun x W' _ _ => tooStrong1_any x W'))
  have HE : Hid (strongB ⟨r, z, sr, sz⟩ = ([r, z, sr, sz].any fun n => !wthn n (-1000000) 1000000)) := Lib.hid rfl
  generalize strongB ⟨r, z, sr, sz⟩ = K at *
  generalize ([r, z, sr, sz].any fun n => !wthn n (-1000000) 1000000) = K2 at *
  go_enter Tryz.func62, Tryz.ntmps62
  go_wp2_with fail
  refine (HC.out _ (by have h := isT_new (w.alloc (.cells #[.int .i64 r, .int .i64 z, .int .i64 sr, .int .i64 sz] 72)) [r, z, sr, sz] 3; (try simp only [World.size_alloc] at h); exact h)).mono ?_
  rintro e w1 ⟨rfl, hb⟩
  go_wp2_with fail
  go_ret
  exact ⟨by rw [HE.out]; rfl, Below.trans (by (with_reducible repeat first | exact Below.refl _ _ | assumption | ((first | refine Below.setCell ?_ ?_ _ | refine Below.alloc ?_ ?_ _); rotate_left; exact (by first | omega | (simp; done) | (simp; omega))) | refine Below.drew ?_ | refine Below_drewN ?_ _)) (hb.mono (by first | omega | ((try simp only [World.size_alloc, World.size_setCell, size_drew, size_drewN]); omega) | (simp; done) | (simp; omega)))⟩

theorem validNumbers1_any (n : Int) (w : World) :
    Calls Tryz.prog 67 #[intV n] w (Ret (.bool (!wthn n (-1000000000000000) 1000000000000000)) w) := by
  go_enter Tryz.func67, Tryz.ntmps67
  go_wp2_with (go_at_call 32; refine (kwithin_any _ _ _ _).mono ?_; rintro e w1 ⟨rfl, rfl⟩)
  go_ret
  exact ⟨rfl, by (with_reducible repeat first | exact Below.refl _ _ | assumption | ((first | refine Below.setCell ?_ ?_ _ | refine Below.alloc ?_ ?_ _); rotate_left; exact (by first | omega | (simp; done) | (simp; omega))) | refine Below.drew ?_ | refine Below_drewN ?_ _)⟩

theorem not_any_num (l : List Int) : (!(l.any fun n => !wthn n (-1000000000000000) 1000000000000000)) = numB l := by
  unfold numB
  induction l with
  | nil => rfl
  | cons x r ih => simp only [List.any_cons, List.all_cons, Bool.not_or, Bool.not_not, ih]

theorem validNumbers_any (A : Option Addr) (len cap : Nat) (zs : List Int) (w : World) (hI : IsT 1 intCells w A len zs) (hl : len ≤ 1000000000000000) :
    Calls Tryz.prog 35 #[.slice A len cap] w (Ret (.bool (numB zs)) w) := by
  have HE := Lib.hid (not_any_num zs)
  have HC := Lib.hid (containsint0 67 (fun n => !wthn n (-1000000000000000) 1000000000000000) A len cap zs w hI hl (fun args W => enters_of Tryz.func67 (by kernel_rfl) rfl args W) (fun x W _ _ => validNumbers1_any x W))
  clear hI
  generalize numB zs = G at *
  generalize (zs.any fun n => !wthn n (-1000000000000000) 1000000000000000) = K at *
  go_enter Tryz.func35, Tryz.ntmps35
  go_wp2_with fail
  refine HC.out.mono ?_
  rintro e w1 ⟨rfl, hb⟩
  go_wp2_with fail
  go_ret
  exact ⟨by rw [← HE.out]; rfl, hb⟩

set_option maxRecDepth 100000 in
set_option maxHeartbeats 8000000 in
theorem setup_any (R : MachR) (M : MachD) (G : Option Addr) (ng cg : Nat) (gs : List GainD) (most : Int) (w : World) (hM : IsM w R M) (hG : IsT 4 GainD.cells w G ng gs) (hn : ng ≤ 1000000000000000) :
    Calls Tryz.prog 30 #[.agg (machCells R M), .agg #[.slice G ng cg, .int .i64 most]] w (Ret (.bool (setupB M gs most)) w) := by
  have HC0 := Lib.hid (fun W (hb : Below w.heap.size w W) => check_any R M W (hM.below hb))
  have HF0 := Lib.hid (fun W (hb : Below w.heap.size w W) => containsGain0 62 strongB G ng cg gs W (hG.below hb) hn (fun args W => enters_of Tryz.func62 (by kernel_rfl) rfl args W) (fun x W' _ _ => tooStrong_any x W'))
  have HS : Hid ((decide (checkC M = 0) && (decide (ng = R.la) && (!(gs.any strongB) && wthn most 0 1000000000))) = setupB M gs most) := Lib.hid (by unfold setupB; rw [hG.1, hM.coils.1])
  clear hM hG hn
  generalize setupB M gs most = K at *
  generalize checkC M = c at *
  generalize gs.any strongB = q at *
  obtain ⟨A, B, Cl, D, la, ca, lb, cb, lc, cl, ld, cd⟩ := R
  obtain ⟨name, coils, shells, limits, ⟨r, z, nr, nz, step⟩, sensors⟩ := M
  dsimp only at *
  have HC := Lib.hid (show ∀ W, Below w.heap.size w W → Calls Tryz.prog 50 #[.agg #[.string name, .slice A la ca, .slice B lb cb, .slice Cl lc cl, .int .i64 r, .int .i64 z, .int .i64 nr, .int .i64 nz, .int .i64 step, .slice D ld cd]] W (Ret (.int .i64 c) W) from HC0.out)
  have HF := Lib.hid (show ∀ W, Below w.heap.size w W → Calls Tryz.prog 61 #[.slice G ng cg, .func (.func 62) #[] #[]] W (Ret (.bool q) W) from HF0.out)
  clear HC0 HF0
  show Calls Tryz.prog 30 #[.agg #[.string name, .slice A la ca, .slice B lb cb, .slice Cl lc cl, .int .i64 r, .int .i64 z, .int .i64 nr, .int .i64 nz, .int .i64 step, .slice D ld cd], .agg #[.slice G ng cg, .int .i64 most]] w _
  by_cases hc : c = 0
  rotate_left
  · rw [decide_eq_false hc] at HS
    go_enter Tryz.func30, Tryz.ntmps30
    go_upto_region 1 with (fail)
    have Fm : Hid (RowL (w.heap.size) [.string name, .slice A la ca, .slice B lb cb, .slice Cl lc cl, .int .i64 r, .int .i64 z, .int .i64 nr, .int .i64 nz, .int .i64 step, .slice D ld cd] ((w.alloc (.cells #[.string name, .slice A la ca, .slice B lb cb, .slice Cl lc cl, .int .i64 r, .int .i64 z, .int .i64 nr, .int .i64 nz, .int .i64 step, .slice D ld cd] 29)).alloc (.cells #[.slice G ng cg, .int .i64 most] 75))) := Lib.hid (by have h := RowL.new w #[.string name, .slice A la ca, .slice B lb cb, .slice Cl lc cl, .int .i64 r, .int .i64 z, .int .i64 nr, .int .i64 nz, .int .i64 step, .slice D ld cd] 29; (try simp only [World.size_alloc] at h); exact (h.alloc _))
    have Fx : Hid (RowL (w.heap.size + 1) [.slice G ng cg, .int .i64 most] ((w.alloc (.cells #[.string name, .slice A la ca, .slice B lb cb, .slice Cl lc cl, .int .i64 r, .int .i64 z, .int .i64 nr, .int .i64 nz, .int .i64 step, .slice D ld cd] 29)).alloc (.cells #[.slice G ng cg, .int .i64 most] 75))) := Lib.hid (by have h := RowL.new (w.alloc (.cells #[.string name, .slice A la ca, .slice B lb cb, .slice Cl lc cl, .int .i64 r, .int .i64 z, .int .i64 nr, .int .i64 nz, .int .i64 step, .slice D ld cd] 29)) #[.slice G ng cg, .int .i64 most] 75; (try simp only [World.size_alloc] at h); exact h)
    have hB0 : Below w.heap.size w ((w.alloc (.cells #[.string name, .slice A la ca, .slice B lb cb, .slice Cl lc cl, .int .i64 r, .int .i64 z, .int .i64 nr, .int .i64 nz, .int .i64 step, .slice D ld cd] 29)).alloc (.cells #[.slice G ng cg, .int .i64 most] 75)) := by (with_reducible repeat first | exact Below.refl _ _ | assumption | ((first | refine Below.setCell ?_ ?_ _ | refine Below.alloc ?_ ?_ _); rotate_left; exact (by first | omega | (simp; done) | (simp; omega))) | refine Below.drew ?_ | refine Below_drewN ?_ _)
    have sW0 : w.heap.size + 1 < ((w.alloc (.cells #[.string name, .slice A la ca, .slice B lb cb, .slice Cl lc cl, .int .i64 r, .int .i64 z, .int .i64 nr, .int .i64 nz, .int .i64 step, .slice D ld cd] 29)).alloc (.cells #[.slice G ng cg, .int .i64 most] 75)).heap.size := by simp only [World.size_alloc]; omega
    obtain ⟨W0, hW0⟩ : ∃ W, ((w.alloc (.cells #[.string name, .slice A la ca, .slice B lb cb, .slice Cl lc cl, .int .i64 r, .int .i64 z, .int .i64 nr, .int .i64 nz, .int .i64 step, .slice D ld cd] 29)).alloc (.cells #[.slice G ng cg, .int .i64 most] 75)) = W := ⟨_, rfl⟩
    rw [hW0] at Fm Fx hB0 sW0 ⊢
    clear hW0
    have m0 := Fm.out.cell 0 (.string name) rfl
    have m1 := Fm.out.cell 1 (.slice A la ca) rfl
    have m2 := Fm.out.cell 2 (.slice B lb cb) rfl
    have m3 := Fm.out.cell 3 (.slice Cl lc cl) rfl
    have m4 := Fm.out.cell 4 (.int .i64 r) rfl
    have m5 := Fm.out.cell 5 (.int .i64 z) rfl
    have m6 := Fm.out.cell 6 (.int .i64 nr) rfl
    have m7 := Fm.out.cell 7 (.int .i64 nz) rfl
    have m8 := Fm.out.cell 8 (.int .i64 step) rfl
    have m9 := Fm.out.cell 9 (.slice D ld cd) rfl
    have x0 := Fx.out.cell 0 (.slice G ng cg) rfl
    have x1 := Fx.out.cell 1 (.int .i64 most) rfl
    have d0 : ((c : Int) == 0) = false := by rw [beq_eq_false_iff_ne]; exact hc
    go_wp2_with fail
    refine (HC.out _ hB0).mono ?_
    rintro e w1 ⟨rfl, hb⟩
    clear m0 m1 m2 m3 m4 m5 m6 m7 m8 m9 x0 x1
    have Gm := Lib.hid (Fm.out.below hb)
    clear Fm
    have Fm := Lib.hid Gm.out
    clear Gm
    have Gx := Lib.hid (Fx.out.below hb)
    clear Fx
    have Fx := Lib.hid Gx.out
    clear Gx
    have m0 := Fm.out.cell 0 (.string name) rfl
    have m1 := Fm.out.cell 1 (.slice A la ca) rfl
    have m2 := Fm.out.cell 2 (.slice B lb cb) rfl
    have m3 := Fm.out.cell 3 (.slice Cl lc cl) rfl
    have m4 := Fm.out.cell 4 (.int .i64 r) rfl
    have m5 := Fm.out.cell 5 (.int .i64 z) rfl
    have m6 := Fm.out.cell 6 (.int .i64 nr) rfl
    have m7 := Fm.out.cell 7 (.int .i64 nz) rfl
    have m8 := Fm.out.cell 8 (.int .i64 step) rfl
    have m9 := Fm.out.cell 9 (.slice D ld cd) rfl
    have x0 := Fx.out.cell 0 (.slice G ng cg) rfl
    have x1 := Fx.out.cell 1 (.int .i64 most) rfl
    have hBw1 := hB0.trans (hb.mono hB0.size)
    clear hb
    go_wp2_with fail
    go_ret
    exact ⟨by rw [← HS.out]; simp, by (with_reducible repeat first | exact Below.refl _ _ | assumption | ((first | refine Below.setCell ?_ ?_ _ | refine Below.alloc ?_ ?_ _); rotate_left; exact (by first | omega | (simp; done) | (simp; omega))) | refine Below.drew ?_ | refine Below_drewN ?_ _)⟩
  · subst hc
    rw [decide_eq_true (rfl : (0 : Int) = 0)] at HS
    by_cases hl : ng = la
    rotate_left
    · rw [decide_eq_false hl] at HS
      have e1 := (int_eq ng la).trans (decide_eq_false hl)
      clear hl
      go_enter Tryz.func30, Tryz.ntmps30
      go_upto_region 1 with (fail)
      have Fm : Hid (RowL (w.heap.size) [.string name, .slice A la ca, .slice B lb cb, .slice Cl lc cl, .int .i64 r, .int .i64 z, .int .i64 nr, .int .i64 nz, .int .i64 step, .slice D ld cd] ((w.alloc (.cells #[.string name, .slice A la ca, .slice B lb cb, .slice Cl lc cl, .int .i64 r, .int .i64 z, .int .i64 nr, .int .i64 nz, .int .i64 step, .slice D ld cd] 29)).alloc (.cells #[.slice G ng cg, .int .i64 most] 75))) := Lib.hid (by have h := RowL.new w #[.string name, .slice A la ca, .slice B lb cb, .slice Cl lc cl, .int .i64 r, .int .i64 z, .int .i64 nr, .int .i64 nz, .int .i64 step, .slice D ld cd] 29; (try simp only [World.size_alloc] at h); exact (h.alloc _))
      have Fx : Hid (RowL (w.heap.size + 1) [.slice G ng cg, .int .i64 most] ((w.alloc (.cells #[.string name, .slice A la ca, .slice B lb cb, .slice Cl lc cl, .int .i64 r, .int .i64 z, .int .i64 nr, .int .i64 nz, .int .i64 step, .slice D ld cd] 29)).alloc (.cells #[.slice G ng cg, .int .i64 most] 75))) := Lib.hid (by have h := RowL.new (w.alloc (.cells #[.string name, .slice A la ca, .slice B lb cb, .slice Cl lc cl, .int .i64 r, .int .i64 z, .int .i64 nr, .int .i64 nz, .int .i64 step, .slice D ld cd] 29)) #[.slice G ng cg, .int .i64 most] 75; (try simp only [World.size_alloc] at h); exact h)
      have hB0 : Below w.heap.size w ((w.alloc (.cells #[.string name, .slice A la ca, .slice B lb cb, .slice Cl lc cl, .int .i64 r, .int .i64 z, .int .i64 nr, .int .i64 nz, .int .i64 step, .slice D ld cd] 29)).alloc (.cells #[.slice G ng cg, .int .i64 most] 75)) := by (with_reducible repeat first | exact Below.refl _ _ | assumption | ((first | refine Below.setCell ?_ ?_ _ | refine Below.alloc ?_ ?_ _); rotate_left; exact (by first | omega | (simp; done) | (simp; omega))) | refine Below.drew ?_ | refine Below_drewN ?_ _)
      have sW0 : w.heap.size + 1 < ((w.alloc (.cells #[.string name, .slice A la ca, .slice B lb cb, .slice Cl lc cl, .int .i64 r, .int .i64 z, .int .i64 nr, .int .i64 nz, .int .i64 step, .slice D ld cd] 29)).alloc (.cells #[.slice G ng cg, .int .i64 most] 75)).heap.size := by simp only [World.size_alloc]; omega
      obtain ⟨W0, hW0⟩ : ∃ W, ((w.alloc (.cells #[.string name, .slice A la ca, .slice B lb cb, .slice Cl lc cl, .int .i64 r, .int .i64 z, .int .i64 nr, .int .i64 nz, .int .i64 step, .slice D ld cd] 29)).alloc (.cells #[.slice G ng cg, .int .i64 most] 75)) = W := ⟨_, rfl⟩
      rw [hW0] at Fm Fx hB0 sW0 ⊢
      clear hW0
      have m0 := Fm.out.cell 0 (.string name) rfl
      have m1 := Fm.out.cell 1 (.slice A la ca) rfl
      have m2 := Fm.out.cell 2 (.slice B lb cb) rfl
      have m3 := Fm.out.cell 3 (.slice Cl lc cl) rfl
      have m4 := Fm.out.cell 4 (.int .i64 r) rfl
      have m5 := Fm.out.cell 5 (.int .i64 z) rfl
      have m6 := Fm.out.cell 6 (.int .i64 nr) rfl
      have m7 := Fm.out.cell 7 (.int .i64 nz) rfl
      have m8 := Fm.out.cell 8 (.int .i64 step) rfl
      have m9 := Fm.out.cell 9 (.slice D ld cd) rfl
      have x0 := Fx.out.cell 0 (.slice G ng cg) rfl
      have x1 := Fx.out.cell 1 (.int .i64 most) rfl
      have d0 : ((0 : Int) == 0) = true := rfl
      go_wp2_with fail
      refine (HC.out _ hB0).mono ?_
      rintro e w1 ⟨rfl, hb⟩
      clear m0 m1 m2 m3 m4 m5 m6 m7 m8 m9 x0 x1
      have Gm := Lib.hid (Fm.out.below hb)
      clear Fm
      have Fm := Lib.hid Gm.out
      clear Gm
      have Gx := Lib.hid (Fx.out.below hb)
      clear Fx
      have Fx := Lib.hid Gx.out
      clear Gx
      have m0 := Fm.out.cell 0 (.string name) rfl
      have m1 := Fm.out.cell 1 (.slice A la ca) rfl
      have m2 := Fm.out.cell 2 (.slice B lb cb) rfl
      have m3 := Fm.out.cell 3 (.slice Cl lc cl) rfl
      have m4 := Fm.out.cell 4 (.int .i64 r) rfl
      have m5 := Fm.out.cell 5 (.int .i64 z) rfl
      have m6 := Fm.out.cell 6 (.int .i64 nr) rfl
      have m7 := Fm.out.cell 7 (.int .i64 nz) rfl
      have m8 := Fm.out.cell 8 (.int .i64 step) rfl
      have m9 := Fm.out.cell 9 (.slice D ld cd) rfl
      have x0 := Fx.out.cell 0 (.slice G ng cg) rfl
      have x1 := Fx.out.cell 1 (.int .i64 most) rfl
      have hBw1 := hB0.trans (hb.mono hB0.size)
      clear hb
      go_wp2_with fail
      go_ret
      exact ⟨by rw [← HS.out]; simp, by (with_reducible repeat first | exact Below.refl _ _ | assumption | ((first | refine Below.setCell ?_ ?_ _ | refine Below.alloc ?_ ?_ _); rotate_left; exact (by first | omega | (simp; done) | (simp; omega))) | refine Below.drew ?_ | refine Below_drewN ?_ _)⟩
    · rw [decide_eq_true hl] at HS
      subst hl
      have e1 := (int_eq ng ng).trans (decide_eq_true rfl)
      cases q
      · go_enter Tryz.func30, Tryz.ntmps30
        go_upto_region 1 with (fail)
        have Fm : Hid (RowL (w.heap.size) [.string name, .slice A ng ca, .slice B lb cb, .slice Cl lc cl, .int .i64 r, .int .i64 z, .int .i64 nr, .int .i64 nz, .int .i64 step, .slice D ld cd] ((w.alloc (.cells #[.string name, .slice A ng ca, .slice B lb cb, .slice Cl lc cl, .int .i64 r, .int .i64 z, .int .i64 nr, .int .i64 nz, .int .i64 step, .slice D ld cd] 29)).alloc (.cells #[.slice G ng cg, .int .i64 most] 75))) := Lib.hid (by have h := RowL.new w #[.string name, .slice A ng ca, .slice B lb cb, .slice Cl lc cl, .int .i64 r, .int .i64 z, .int .i64 nr, .int .i64 nz, .int .i64 step, .slice D ld cd] 29; (try simp only [World.size_alloc] at h); exact (h.alloc _))
        have Fx : Hid (RowL (w.heap.size + 1) [.slice G ng cg, .int .i64 most] ((w.alloc (.cells #[.string name, .slice A ng ca, .slice B lb cb, .slice Cl lc cl, .int .i64 r, .int .i64 z, .int .i64 nr, .int .i64 nz, .int .i64 step, .slice D ld cd] 29)).alloc (.cells #[.slice G ng cg, .int .i64 most] 75))) := Lib.hid (by have h := RowL.new (w.alloc (.cells #[.string name, .slice A ng ca, .slice B lb cb, .slice Cl lc cl, .int .i64 r, .int .i64 z, .int .i64 nr, .int .i64 nz, .int .i64 step, .slice D ld cd] 29)) #[.slice G ng cg, .int .i64 most] 75; (try simp only [World.size_alloc] at h); exact h)
        have hB0 : Below w.heap.size w ((w.alloc (.cells #[.string name, .slice A ng ca, .slice B lb cb, .slice Cl lc cl, .int .i64 r, .int .i64 z, .int .i64 nr, .int .i64 nz, .int .i64 step, .slice D ld cd] 29)).alloc (.cells #[.slice G ng cg, .int .i64 most] 75)) := by (with_reducible repeat first | exact Below.refl _ _ | assumption | ((first | refine Below.setCell ?_ ?_ _ | refine Below.alloc ?_ ?_ _); rotate_left; exact (by first | omega | (simp; done) | (simp; omega))) | refine Below.drew ?_ | refine Below_drewN ?_ _)
        have sW0 : w.heap.size + 1 < ((w.alloc (.cells #[.string name, .slice A ng ca, .slice B lb cb, .slice Cl lc cl, .int .i64 r, .int .i64 z, .int .i64 nr, .int .i64 nz, .int .i64 step, .slice D ld cd] 29)).alloc (.cells #[.slice G ng cg, .int .i64 most] 75)).heap.size := by simp only [World.size_alloc]; omega
        obtain ⟨W0, hW0⟩ : ∃ W, ((w.alloc (.cells #[.string name, .slice A ng ca, .slice B lb cb, .slice Cl lc cl, .int .i64 r, .int .i64 z, .int .i64 nr, .int .i64 nz, .int .i64 step, .slice D ld cd] 29)).alloc (.cells #[.slice G ng cg, .int .i64 most] 75)) = W := ⟨_, rfl⟩
        rw [hW0] at Fm Fx hB0 sW0 ⊢
        clear hW0
        have m0 := Fm.out.cell 0 (.string name) rfl
        have m1 := Fm.out.cell 1 (.slice A ng ca) rfl
        have m2 := Fm.out.cell 2 (.slice B lb cb) rfl
        have m3 := Fm.out.cell 3 (.slice Cl lc cl) rfl
        have m4 := Fm.out.cell 4 (.int .i64 r) rfl
        have m5 := Fm.out.cell 5 (.int .i64 z) rfl
        have m6 := Fm.out.cell 6 (.int .i64 nr) rfl
        have m7 := Fm.out.cell 7 (.int .i64 nz) rfl
        have m8 := Fm.out.cell 8 (.int .i64 step) rfl
        have m9 := Fm.out.cell 9 (.slice D ld cd) rfl
        have x0 := Fx.out.cell 0 (.slice G ng cg) rfl
        have x1 := Fx.out.cell 1 (.int .i64 most) rfl
        have d0 : ((0 : Int) == 0) = true := rfl
        go_wp2_with fail
        refine (HC.out _ hB0).mono ?_
        rintro e w1 ⟨rfl, hb⟩
        clear m0 m1 m2 m3 m4 m5 m6 m7 m8 m9 x0 x1
        have Gm := Lib.hid (Fm.out.below hb)
        clear Fm
        have Fm := Lib.hid Gm.out
        clear Gm
        have Gx := Lib.hid (Fx.out.below hb)
        clear Fx
        have Fx := Lib.hid Gx.out
        clear Gx
        have m0 := Fm.out.cell 0 (.string name) rfl
        have m1 := Fm.out.cell 1 (.slice A ng ca) rfl
        have m2 := Fm.out.cell 2 (.slice B lb cb) rfl
        have m3 := Fm.out.cell 3 (.slice Cl lc cl) rfl
        have m4 := Fm.out.cell 4 (.int .i64 r) rfl
        have m5 := Fm.out.cell 5 (.int .i64 z) rfl
        have m6 := Fm.out.cell 6 (.int .i64 nr) rfl
        have m7 := Fm.out.cell 7 (.int .i64 nz) rfl
        have m8 := Fm.out.cell 8 (.int .i64 step) rfl
        have m9 := Fm.out.cell 9 (.slice D ld cd) rfl
        have x0 := Fx.out.cell 0 (.slice G ng cg) rfl
        have x1 := Fx.out.cell 1 (.int .i64 most) rfl
        have hBw1 := hB0.trans (hb.mono hB0.size)
        clear hb
        go_wp2_with fail
        refine (HF.out _ hBw1).mono ?_
        rintro e w2 ⟨rfl, hb⟩
        clear m0 m1 m2 m3 m4 m5 m6 m7 m8 m9 x0 x1
        have Gm := Lib.hid (Fm.out.below hb)
        clear Fm
        have Fm := Lib.hid Gm.out
        clear Gm
        have Gx := Lib.hid (Fx.out.below hb)
        clear Fx
        have Fx := Lib.hid Gx.out
        clear Gx
        have m0 := Fm.out.cell 0 (.string name) rfl
        have m1 := Fm.out.cell 1 (.slice A ng ca) rfl
        have m2 := Fm.out.cell 2 (.slice B lb cb) rfl
        have m3 := Fm.out.cell 3 (.slice Cl lc cl) rfl
        have m4 := Fm.out.cell 4 (.int .i64 r) rfl
        have m5 := Fm.out.cell 5 (.int .i64 z) rfl
        have m6 := Fm.out.cell 6 (.int .i64 nr) rfl
        have m7 := Fm.out.cell 7 (.int .i64 nz) rfl
        have m8 := Fm.out.cell 8 (.int .i64 step) rfl
        have m9 := Fm.out.cell 9 (.slice D ld cd) rfl
        have x0 := Fx.out.cell 0 (.slice G ng cg) rfl
        have x1 := Fx.out.cell 1 (.int .i64 most) rfl
        have hBw2 := hBw1.trans (hb.mono hBw1.size)
        clear hb
        go_wp2_with (go_at_call 32; refine (kwithin_any _ _ _ _).mono ?_; rintro e w3 ⟨rfl, rfl⟩)
        go_ret
        exact ⟨by rw [← HS.out]; simp, by (with_reducible repeat first | exact Below.refl _ _ | assumption | ((first | refine Below.setCell ?_ ?_ _ | refine Below.alloc ?_ ?_ _); rotate_left; exact (by first | omega | (simp; done) | (simp; omega))) | refine Below.drew ?_ | refine Below_drewN ?_ _)⟩
      · go_enter Tryz.func30, Tryz.ntmps30
        go_upto_region 1 with (fail)
        have Fm : Hid (RowL (w.heap.size) [.string name, .slice A ng ca, .slice B lb cb, .slice Cl lc cl, .int .i64 r, .int .i64 z, .int .i64 nr, .int .i64 nz, .int .i64 step, .slice D ld cd] ((w.alloc (.cells #[.string name, .slice A ng ca, .slice B lb cb, .slice Cl lc cl, .int .i64 r, .int .i64 z, .int .i64 nr, .int .i64 nz, .int .i64 step, .slice D ld cd] 29)).alloc (.cells #[.slice G ng cg, .int .i64 most] 75))) := Lib.hid (by have h := RowL.new w #[.string name, .slice A ng ca, .slice B lb cb, .slice Cl lc cl, .int .i64 r, .int .i64 z, .int .i64 nr, .int .i64 nz, .int .i64 step, .slice D ld cd] 29; (try simp only [World.size_alloc] at h); exact (h.alloc _))
        have Fx : Hid (RowL (w.heap.size + 1) [.slice G ng cg, .int .i64 most] ((w.alloc (.cells #[.string name, .slice A ng ca, .slice B lb cb, .slice Cl lc cl, .int .i64 r, .int .i64 z, .int .i64 nr, .int .i64 nz, .int .i64 step, .slice D ld cd] 29)).alloc (.cells #[.slice G ng cg, .int .i64 most] 75))) := Lib.hid (by have h := RowL.new (w.alloc (.cells #[.string name, .slice A ng ca, .slice B lb cb, .slice Cl lc cl, .int .i64 r, .int .i64 z, .int .i64 nr, .int .i64 nz, .int .i64 step, .slice D ld cd] 29)) #[.slice G ng cg, .int .i64 most] 75; (try simp only [World.size_alloc] at h); exact h)
        have hB0 : Below w.heap.size w ((w.alloc (.cells #[.string name, .slice A ng ca, .slice B lb cb, .slice Cl lc cl, .int .i64 r, .int .i64 z, .int .i64 nr, .int .i64 nz, .int .i64 step, .slice D ld cd] 29)).alloc (.cells #[.slice G ng cg, .int .i64 most] 75)) := by (with_reducible repeat first | exact Below.refl _ _ | assumption | ((first | refine Below.setCell ?_ ?_ _ | refine Below.alloc ?_ ?_ _); rotate_left; exact (by first | omega | (simp; done) | (simp; omega))) | refine Below.drew ?_ | refine Below_drewN ?_ _)
        have sW0 : w.heap.size + 1 < ((w.alloc (.cells #[.string name, .slice A ng ca, .slice B lb cb, .slice Cl lc cl, .int .i64 r, .int .i64 z, .int .i64 nr, .int .i64 nz, .int .i64 step, .slice D ld cd] 29)).alloc (.cells #[.slice G ng cg, .int .i64 most] 75)).heap.size := by simp only [World.size_alloc]; omega
        obtain ⟨W0, hW0⟩ : ∃ W, ((w.alloc (.cells #[.string name, .slice A ng ca, .slice B lb cb, .slice Cl lc cl, .int .i64 r, .int .i64 z, .int .i64 nr, .int .i64 nz, .int .i64 step, .slice D ld cd] 29)).alloc (.cells #[.slice G ng cg, .int .i64 most] 75)) = W := ⟨_, rfl⟩
        rw [hW0] at Fm Fx hB0 sW0 ⊢
        clear hW0
        have m0 := Fm.out.cell 0 (.string name) rfl
        have m1 := Fm.out.cell 1 (.slice A ng ca) rfl
        have m2 := Fm.out.cell 2 (.slice B lb cb) rfl
        have m3 := Fm.out.cell 3 (.slice Cl lc cl) rfl
        have m4 := Fm.out.cell 4 (.int .i64 r) rfl
        have m5 := Fm.out.cell 5 (.int .i64 z) rfl
        have m6 := Fm.out.cell 6 (.int .i64 nr) rfl
        have m7 := Fm.out.cell 7 (.int .i64 nz) rfl
        have m8 := Fm.out.cell 8 (.int .i64 step) rfl
        have m9 := Fm.out.cell 9 (.slice D ld cd) rfl
        have x0 := Fx.out.cell 0 (.slice G ng cg) rfl
        have x1 := Fx.out.cell 1 (.int .i64 most) rfl
        have d0 : ((0 : Int) == 0) = true := rfl
        go_wp2_with fail
        refine (HC.out _ hB0).mono ?_
        rintro e w1 ⟨rfl, hb⟩
        clear m0 m1 m2 m3 m4 m5 m6 m7 m8 m9 x0 x1
        have Gm := Lib.hid (Fm.out.below hb)
        clear Fm
        have Fm := Lib.hid Gm.out
        clear Gm
        have Gx := Lib.hid (Fx.out.below hb)
        clear Fx
        have Fx := Lib.hid Gx.out
        clear Gx
        have m0 := Fm.out.cell 0 (.string name) rfl
        have m1 := Fm.out.cell 1 (.slice A ng ca) rfl
        have m2 := Fm.out.cell 2 (.slice B lb cb) rfl
        have m3 := Fm.out.cell 3 (.slice Cl lc cl) rfl
        have m4 := Fm.out.cell 4 (.int .i64 r) rfl
        have m5 := Fm.out.cell 5 (.int .i64 z) rfl
        have m6 := Fm.out.cell 6 (.int .i64 nr) rfl
        have m7 := Fm.out.cell 7 (.int .i64 nz) rfl
        have m8 := Fm.out.cell 8 (.int .i64 step) rfl
        have m9 := Fm.out.cell 9 (.slice D ld cd) rfl
        have x0 := Fx.out.cell 0 (.slice G ng cg) rfl
        have x1 := Fx.out.cell 1 (.int .i64 most) rfl
        have hBw1 := hB0.trans (hb.mono hB0.size)
        clear hb
        go_wp2_with fail
        refine (HF.out _ hBw1).mono ?_
        rintro e w2 ⟨rfl, hb⟩
        clear m0 m1 m2 m3 m4 m5 m6 m7 m8 m9 x0 x1
        have Gm := Lib.hid (Fm.out.below hb)
        clear Fm
        have Fm := Lib.hid Gm.out
        clear Gm
        have Gx := Lib.hid (Fx.out.below hb)
        clear Fx
        have Fx := Lib.hid Gx.out
        clear Gx
        have m0 := Fm.out.cell 0 (.string name) rfl
        have m1 := Fm.out.cell 1 (.slice A ng ca) rfl
        have m2 := Fm.out.cell 2 (.slice B lb cb) rfl
        have m3 := Fm.out.cell 3 (.slice Cl lc cl) rfl
        have m4 := Fm.out.cell 4 (.int .i64 r) rfl
        have m5 := Fm.out.cell 5 (.int .i64 z) rfl
        have m6 := Fm.out.cell 6 (.int .i64 nr) rfl
        have m7 := Fm.out.cell 7 (.int .i64 nz) rfl
        have m8 := Fm.out.cell 8 (.int .i64 step) rfl
        have m9 := Fm.out.cell 9 (.slice D ld cd) rfl
        have x0 := Fx.out.cell 0 (.slice G ng cg) rfl
        have x1 := Fx.out.cell 1 (.int .i64 most) rfl
        have hBw2 := hBw1.trans (hb.mono hBw1.size)
        clear hb
        go_wp2_with fail
        go_ret
        exact ⟨by rw [← HS.out]; simp, by (with_reducible repeat first | exact Below.refl _ _ | assumption | ((first | refine Below.setCell ?_ ?_ _ | refine Below.alloc ?_ ?_ _); rotate_left; exact (by first | omega | (simp; done) | (simp; omega))) | refine Below.drew ?_ | refine Below_drewN ?_ _)⟩

end Go.Proofs.YtnikdbglpimadaaGreat
end
