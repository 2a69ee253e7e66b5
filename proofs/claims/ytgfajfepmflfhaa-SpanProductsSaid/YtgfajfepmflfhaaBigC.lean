/- The specification's whole numbers of any length: the contract of Ceil, over this seat's translation. -/
import Derived.Test.YtgfajfepmflfhaaBigH
namespace Go.Proofs.Ytgfajfepmflfhaa
set_option linter.unusedVariables false
set_option linter.unusedSimpArgs false
open Go.RowKit

/-- A fresh place for a number has two cells. -/
theorem fresh_two (W : World) (o : Nat) (ho : 2 ≤ o) : (W.alloc (.cells #[.bool false, .slice none 0 0] 41)).cell? ⟨W.heap.size, o, none⟩ = none := by
  rw [cell_of_row _ _ o _ _ _ (heap_new_at rfl)]
  rcases o with _ | _ | o <;> first | omega | rfl

set_option maxHeartbeats 8000000 in
set_option maxRecDepth 100000 in
theorem ceil_big (a b : Int) (u v : Value) (w : World) (hu : BigV w u a) (hv : BigV w v b) (ha : max a (-a) < pw 10) (hb : max b (-b) < pw 8) (hb0 : b ≠ 0) :
    Calls Try.prog 46 #[u, v] w (RetNew w.heap.size (cei a b) w) := by
  obtain ⟨nu, Au, ku, cu, rfl, hu⟩ := BigB.open' (base := 0) hu
  obtain ⟨nv, Av, kv, cv, rfl, hv⟩ := BigB.open' (base := 0) hv
  have HU := Lib.hid (fun W (h : Below w.heap.size w W) => (BigB.below hu h).big)
  have HV := Lib.hid (fun W (h : Below w.heap.size w W) => (BigB.below hv h).big)
  have HA := Lib.hid (show max (-a) (- -a) < pw 10 by omega)
  have HB := Lib.hid hb
  have HB0 := Lib.hid hb0
  clear hu hv ha hb hb0
  obtain ⟨W0, hW⟩ : ∃ W0, W0 = ((w.alloc (.cells #[.bool nu, .slice Au ku cu] 41)).alloc (.cells #[.bool nv, .slice Av kv cv] 41)).alloc (.cells #[.bool false, .slice none 0 0] 41) := ⟨_, rfl⟩
  have a0 : W0.cell? ⟨w.heap.size, 0, none⟩ = some (.bool nu) := by rw [hW]; go_simp
  have a1 : W0.cell? ⟨w.heap.size, 1, none⟩ = some (.slice Au ku cu) := by rw [hW]; go_simp
  have b0 : W0.cell? ⟨w.heap.size + 1, 0, none⟩ = some (.bool nv) := by rw [hW]; go_simp
  have b1 : W0.cell? ⟨w.heap.size + 1, 1, none⟩ = some (.slice Av kv cv) := by rw [hW]; go_simp
  have r0 : W0.cell? ⟨w.heap.size + 1 + 1, 0, none⟩ = some (.bool false) := by rw [hW]; go_simp
  have r1 : W0.cell? ⟨w.heap.size + 1 + 1, 1, none⟩ = some (.slice none 0 0) := by rw [hW]; go_simp
  have f0 : W0.frozen? ⟨w.heap.size + 1 + 1, 0, none⟩ = false := by rw [hW]; go_simp
  have f1 : W0.frozen? ⟨w.heap.size + 1 + 1, 1, none⟩ = false := by rw [hW]; go_simp
  have HRN := Lib.hid (fun o (ho : 2 ≤ o) => (show W0.cell? ⟨w.heap.size + 1 + 1, o, none⟩ = none by rw [hW]; have := fresh_two ((w.alloc (.cells #[.bool nu, .slice Au ku cu] 41)).alloc (.cells #[.bool nv, .slice Av kv cv] 41)) o ho; simpa using this))
  have hB0 : Below w.heap.size w W0 := by rw [hW]; (repeat first | with_reducible exact Below.refl _ _ | with_reducible assumption | (with_reducible refine Below.setCell ?_ ?_ _; rotate_left; exact (by first | omega | (simp; done) | (simp; omega))) | (with_reducible refine Below.alloc ?_ ?_ _; rotate_left; exact (by first | omega | (simp; done) | (simp; omega))) | with_reducible refine Below.drew ?_ | with_reducible refine Below_drewN ?_ _)
  have hz0 : w.heap.size + 1 + 1 < W0.heap.size := by rw [hW]; simp
  have HW := Lib.hid hW
  go_enter Try.func46, Try.ntmps46
  go_wp2_with fail
  rw [← HW.out]
  clear hW
  have HS : Hid (∀ w' : World, Reg (w.heap.size + 1 + 1) (W0) w' → (Reg (w.heap.size + 1 + 1) (W0) w' ∧ w'.cell? ⟨w.heap.size, 0, none⟩ = some (.bool nu) ∧ w'.cell? ⟨w.heap.size, 1, none⟩ = some (.slice Au ku cu) ∧ w'.cell? ⟨w.heap.size + 1, 0, none⟩ = some (.bool nv) ∧ w'.cell? ⟨w.heap.size + 1, 1, none⟩ = some (.slice Av kv cv) ∧ w'.cell? ⟨w.heap.size + 1 + 1, 0, none⟩ = some (cur w' ⟨w.heap.size + 1 + 1, 0, none⟩) ∧ w'.frozen? ⟨w.heap.size + 1 + 1, 0, none⟩ = false ∧ w'.cell? ⟨w.heap.size + 1 + 1, 1, none⟩ = some (cur w' ⟨w.heap.size + 1 + 1, 1, none⟩) ∧ w'.frozen? ⟨w.heap.size + 1 + 1, 1, none⟩ = false)) := (fun w' h => by (have hc := h.cells; have hs := h.some; have hf := h.frozen; refine ⟨h, ?_⟩; (try simp only [World.size_alloc, World.size_setCell, size_drew, size_drewN] at hc hs hf); first | (simp (disch := omega) only [hc, hs, hf, cur_iff]; (try go_simp); done) | (simp (disch := first | omega | (simp; done)) only [hc, hs, hf, cur_iff]; (try go_simp); done) | (simp (maxDischargeDepth := 4) [hc, hs, hf, cur_iff, go_sem]; done) | (go_simp; done) | (simp (maxDischargeDepth := 4) [hc, hs, hf, cur_iff, go_sem]; go_simp))); go_region_held3 (fun w' => Reg (w.heap.size + 1 + 1) (W0) w' ∧ w'.cell? ⟨w.heap.size, 0, none⟩ = some (.bool nu) ∧ w'.cell? ⟨w.heap.size, 1, none⟩ = some (.slice Au ku cu) ∧ w'.cell? ⟨w.heap.size + 1, 0, none⟩ = some (.bool nv) ∧ w'.cell? ⟨w.heap.size + 1, 1, none⟩ = some (.slice Av kv cv) ∧ w'.cell? ⟨w.heap.size + 1 + 1, 0, none⟩ = some (cur w' ⟨w.heap.size + 1 + 1, 0, none⟩) ∧ w'.frozen? ⟨w.heap.size + 1 + 1, 0, none⟩ = false ∧ w'.cell? ⟨w.heap.size + 1 + 1, 1, none⟩ = some (cur w' ⟨w.heap.size + 1 + 1, 1, none⟩) ∧ w'.frozen? ⟨w.heap.size + 1 + 1, 1, none⟩ = false) (exact HS.out _ (by (repeat first | with_reducible exact Reg.refl _ _ | with_reducible exact Reg.drewN2 _ _ _ _ | with_reducible exact (‹Reg _ _ _ ∧ _›).1 | (with_reducible refine Reg.setCell ?_ ?_ _; rotate_left; exact (by first | omega | ((try simp only [World.size_alloc, World.size_setCell, size_drew, size_drewN]); omega) | (simp; done) | (simp; omega))) | with_reducible refine Reg.alloc ?_ _ | with_reducible refine Reg.drew ?_ | with_reducible refine Reg.drewN ?_ _ | (with_reducible apply Reg.call; rotate_left; with_reducible assumption)))) (first | (go_at_call 53; (with_reducible refine (minus_big a _ _ (HU.out _ (Reg.out (‹Reg _ _ _ ∧ _›).1 hB0 (by omega)))).mono ?_); rintro e w1 ⟨u1, rfl, V1, hb⟩; have hq1 : Below W0.heap.size W0 w1 := ⟨hb.os, hb.tape, hb.output, hb.size, hb.block⟩; (first | (with_reducible have hk := Nat.lt_of_lt_of_le (size_alloc_lt _ _) hb.size) | (with_reducible have hk := Nat.lt_of_lt_of_le (size_alloc_drew_lt _ _) hb.size) | (with_reducible have hk := Nat.lt_of_lt_of_le hk hb.size) | skip); (try simp only [World.size_alloc, World.size_setCell, size_drew, size_drewN] at hk); obtain ⟨hc, hf⟩ := bcell hb; have hs := hb.size; (try simp only [World.size_alloc, World.size_setCell, size_drew, size_drewN] at hs)) | (go_at_call 45; refine (floor_big (-a) b _ _ _ V1 (HV.out _ (Reg.out (‹Reg _ _ _ ∧ _›).1 hB0 (by omega))) HA.out HB.out HB0.out).mono ?_; rintro e w2 ⟨u2, rfl, V2, hb⟩; have hq2 : Below W0.heap.size W0 w2 := hq1.trans (hb.mono hq1.size); have V2 := V2.mono (base' := w.heap.size) (by have := hq1.size; omega); (first | (with_reducible have hk := Nat.lt_of_lt_of_le (size_alloc_lt _ _) hb.size) | (with_reducible have hk := Nat.lt_of_lt_of_le (size_alloc_drew_lt _ _) hb.size) | (with_reducible have hk := Nat.lt_of_lt_of_le hk hb.size) | skip); (try simp only [World.size_alloc, World.size_setCell, size_drew, size_drewN] at hk); obtain ⟨hc, hf⟩ := bcell hb; have hs := hb.size; (try simp only [World.size_alloc, World.size_setCell, size_drew, size_drewN] at hs)) | (go_at_call 53; refine (minus_new w.heap.size (flo (-a) b) _ _ V2).mono ?_; rintro e w3 ⟨u3, rfl, V3, hb⟩; have hq3 : Below W0.heap.size W0 w3 := hq2.trans (hb.mono hq2.size); obtain ⟨n3, A3, k3, c3, rfl, V3⟩ := V3.open'; have V3 := Lib.hid V3; have s0 := (hq3.cell (p := ⟨w.heap.size + 1 + 1, 0, none⟩) hz0).trans r0; have s1 := (hq3.cell (p := ⟨w.heap.size + 1 + 1, 1, none⟩) hz0).trans r1; have HQ3 := Lib.hid hq3; (first | (with_reducible have hk := Nat.lt_of_lt_of_le (size_alloc_lt _ _) hb.size) | (with_reducible have hk := Nat.lt_of_lt_of_le (size_alloc_drew_lt _ _) hb.size) | (with_reducible have hk := Nat.lt_of_lt_of_le hk hb.size) | skip); (try simp only [World.size_alloc, World.size_setCell, size_drew, size_drewN] at hk); obtain ⟨hc, hf⟩ := bcell hb; have hs := hb.size; (try simp only [World.size_alloc, World.size_setCell, size_drew, size_drewN] at hs)))
  all_goals go_wp2
  all_goals exact bodyPost_ret (res2b Try.results46 _ _ _ _ _ rfl (by (try simp only [isSome_setCell]); first | assumption | go_simp) (by (try simp only [isSome_setCell]); first | assumption | go_simp)) rfl ⟨_, rfl, V3.out.far s0 s1 (fun o ho => (HQ3.out.cell (p := ⟨w.heap.size + 1 + 1, o, none⟩) hz0).trans (HRN.out o ho)) _ _, (((hB0.trans (HQ3.out.mono hB0.size)).setCell (by first | omega | (simp; done) | (simp; omega)) _).setCell (by first | omega | (simp; done) | (simp; omega)) _)⟩

end Go.Proofs.Ytgfajfepmflfhaa
