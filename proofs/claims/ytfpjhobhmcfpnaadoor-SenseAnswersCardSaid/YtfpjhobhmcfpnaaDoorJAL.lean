import Derived.Test.YtfpjhobhmcfpnaaDoorJAE
import Derived.Test.YtfpjhobhmcfpnaaDoorJAF
import Derived.Test.YtfpjhobhmcfpnaaDoorJAG
import Derived.Test.YtfpjhobhmcfpnaaDoorJAH
import Derived.Test.YtfpjhobhmcfpnaaDoorJAI
import Derived.Test.YtfpjhobhmcfpnaaDoorJAJ
import Derived.Test.YtfpjhobhmcfpnaaDoorJAK
section
/- Package machine: ValidCurrents, where all holds, over this seat's translation (written by mk_vc.py). -/
namespace Go.Proofs.YtfpjhobhmcfpnaaDoor
set_option linter.unusedVariables false
set_option linter.unusedSimpArgs false
open Go.RowKit Go.Shelf

set_option maxRecDepth 100000 in
set_option maxHeartbeats 16000000 in
theorem valid_case8 (name : ByteArray) (A B C D : Option Addr) (la ca lb cb lc cc ld cd : Nat) (r z nr nz step : Int) (A1 B1 C1 : Option Addr) (na qa nb qb nc qc : Nat) (E N S : Int) (w : World)
    (H0 : Hid (∀ W, Below w.heap.size w W → Calls Tryd.prog 54 #[.agg #[.string name, .slice A la ca, .slice B lb cb, .slice C lc cc, .int .i64 r, .int .i64 z, .int .i64 nr, .int .i64 nz, .int .i64 step, .slice D ld cd]] W (Ret (.int .i64 E) W))) (h0 : (E == 0) = true)
    (h1 : ((na : Int) == la) = true)
    (H2 : Hid (∀ W, Below w.heap.size w W → Calls Tryd.prog 55 #[.slice A1 na qa, .int .i64 (-1000000), .int .i64 1000000] W (Ret (.bool true) W)))
    (h3 : ((nb : Int) == lb) = true)
    (H4 : Hid (∀ W, Below w.heap.size w W → Calls Tryd.prog 55 #[.slice B1 nb qb, .int .i64 (-1000000), .int .i64 1000000] W (Ret (.bool true) W)))
    (H5 : Hid (∀ W, Calls Tryd.prog 56 #[.agg #[.int .i64 r, .int .i64 z, .int .i64 nr, .int .i64 nz, .int .i64 step]] W (Ret (.int .i64 N) W))) (h5 : ((nc : Int) == N) = true)
    (H6 : Hid (∀ W, Below w.heap.size w W → Calls Tryd.prog 55 #[.slice C1 nc qc, .int .i64 (0), .int .i64 1000000] W (Ret (.bool true) W)))
    (H7 : Hid (∀ W, Below w.heap.size w W → Calls Tryd.prog 57 #[.agg #[.slice A1 na qa, .slice B1 nb qb, .slice C1 nc qc]] W (Ret (.int .i64 S) W))) (h7 : decide (S ≤ 1000000) = true) :
    Calls Tryd.prog 23 #[.agg #[.string name, .slice A la ca, .slice B lb cb, .slice C lc cc, .int .i64 r, .int .i64 z, .int .i64 nr, .int .i64 nz, .int .i64 step, .slice D ld cd], .agg #[.slice A1 na qa, .slice B1 nb qb, .slice C1 nc qc]] w (Ret (.bool true) w) := by
  go_enter Tryd.func23, Tryd.ntmps23
  go_upto_region 1 with fail
  have HS : Hid (∀ w' : World, Reg (w.heap.size + 1 + 1) ((w.alloc (.cells #[.string name, .slice A la ca, .slice B lb cb, .slice C lc cc, .int .i64 r, .int .i64 z, .int .i64 nr, .int .i64 nz, .int .i64 step, .slice D ld cd] 29)).alloc (.cells #[.slice A1 na qa, .slice B1 nb qb, .slice C1 nc qc] 32)) w' → (Reg (w.heap.size + 1 + 1) ((w.alloc (.cells #[.string name, .slice A la ca, .slice B lb cb, .slice C lc cc, .int .i64 r, .int .i64 z, .int .i64 nr, .int .i64 nz, .int .i64 step, .slice D ld cd] 29)).alloc (.cells #[.slice A1 na qa, .slice B1 nb qb, .slice C1 nc qc] 32)) w' ∧ w'.cell? ⟨w.heap.size, 0, none⟩ = some (.string name) ∧ w'.cell? ⟨w.heap.size, 1, none⟩ = some (.slice A la ca) ∧ w'.cell? ⟨w.heap.size, 2, none⟩ = some (.slice B lb cb) ∧ w'.cell? ⟨w.heap.size, 3, none⟩ = some (.slice C lc cc) ∧ w'.cell? ⟨w.heap.size, 4, none⟩ = some (.int .i64 r) ∧ w'.cell? ⟨w.heap.size, 5, none⟩ = some (.int .i64 z) ∧ w'.cell? ⟨w.heap.size, 6, none⟩ = some (.int .i64 nr) ∧ w'.cell? ⟨w.heap.size, 7, none⟩ = some (.int .i64 nz) ∧ w'.cell? ⟨w.heap.size, 8, none⟩ = some (.int .i64 step) ∧ w'.cell? ⟨w.heap.size, 9, none⟩ = some (.slice D ld cd) ∧ w'.cell? ⟨w.heap.size + 1, 0, none⟩ = some (.slice A1 na qa) ∧ w'.cell? ⟨w.heap.size + 1, 1, none⟩ = some (.slice B1 nb qb) ∧ w'.cell? ⟨w.heap.size + 1, 2, none⟩ = some (.slice C1 nc qc))) := (fun w' h => by (have hc := h.cells; have hs := h.some; have hf := h.frozen; refine ⟨h, ?_⟩; (try simp only [World.size_alloc, World.size_setCell, size_drew, size_drewN] at hc hs hf); first | (simp (disch := omega) only [hc, hs, hf, cur_iff]; (try go_simp); done) | (simp (disch := first | omega | (simp; done)) only [hc, hs, hf, cur_iff]; (try go_simp); done) | (simp (maxDischargeDepth := 4) [hc, hs, hf, cur_iff, go_sem]; done) | (go_simp; done) | (simp (maxDischargeDepth := 4) [hc, hs, hf, cur_iff, go_sem]; go_simp)))
  refine wp_region_held_drew (S := fun w' => Reg (w.heap.size + 1 + 1) ((w.alloc (.cells #[.string name, .slice A la ca, .slice B lb cb, .slice C lc cc, .int .i64 r, .int .i64 z, .int .i64 nr, .int .i64 nz, .int .i64 step, .slice D ld cd] 29)).alloc (.cells #[.slice A1 na qa, .slice B1 nb qb, .slice C1 nc qc] 32)) w' ∧ w'.cell? ⟨w.heap.size, 0, none⟩ = some (.string name) ∧ w'.cell? ⟨w.heap.size, 1, none⟩ = some (.slice A la ca) ∧ w'.cell? ⟨w.heap.size, 2, none⟩ = some (.slice B lb cb) ∧ w'.cell? ⟨w.heap.size, 3, none⟩ = some (.slice C lc cc) ∧ w'.cell? ⟨w.heap.size, 4, none⟩ = some (.int .i64 r) ∧ w'.cell? ⟨w.heap.size, 5, none⟩ = some (.int .i64 z) ∧ w'.cell? ⟨w.heap.size, 6, none⟩ = some (.int .i64 nr) ∧ w'.cell? ⟨w.heap.size, 7, none⟩ = some (.int .i64 nz) ∧ w'.cell? ⟨w.heap.size, 8, none⟩ = some (.int .i64 step) ∧ w'.cell? ⟨w.heap.size, 9, none⟩ = some (.slice D ld cd) ∧ w'.cell? ⟨w.heap.size + 1, 0, none⟩ = some (.slice A1 na qa) ∧ w'.cell? ⟨w.heap.size + 1, 1, none⟩ = some (.slice B1 nb qb) ∧ w'.cell? ⟨w.heap.size + 1, 2, none⟩ = some (.slice C1 nc qc)) (by kernel_rfl) (HS.out _ (by (repeat first | with_reducible exact Reg.refl _ _ | with_reducible exact Reg.drewN2 _ _ _ _ | with_reducible exact (‹Reg _ _ _ ∧ _›).1 | (with_reducible refine Reg.setCell ?_ ?_ _; rotate_left; exact (by first | omega | ((try simp only [World.size_alloc, World.size_setCell, size_drew, size_drewN]); omega) | (simp; done) | (simp; omega))) | with_reducible refine Reg.alloc ?_ _ | with_reducible refine Reg.drew ?_ | with_reducible refine Reg.drewN ?_ _ | (with_reducible apply Reg.call; rotate_left; with_reducible assumption)))) (fun hHeld => ?_)
  refine wpAnyH_takeD (i := 0) (v := (.agg #[.string name, .slice A la ca, .slice B lb cb, .slice C lc cc, .int .i64 r, .int .i64 z, .int .i64 nr, .int .i64 nz, .int .i64 step, .slice D ld cd])) (some 5) rfl rfl (by kernel_rfl) (by kernel_rfl) (by kernel_rfl) (fun _ _ _ h => h) (Or.inl ⟨by rfl, fun w' hSw => (by (try dsimp only at hSw); go_simp)⟩) (by assumption) ?_; (try simp only [Act.put, List.setIfInBounds_toArray, List.set_cons_zero, List.set_cons_succ])
  refine wpAnyH_ready (rs := [1]) (by kernel_rfl) (by simp) ?_; refine AllReadyH.cons rfl (fun K hK => ?_) AllReadyH.nil; go_simp; (go_at_call 54; refine (H0.out _ (Reg.out (‹Reg _ _ _ ∧ _›).1 (by (with_reducible repeat first | exact Below.refl _ _ | assumption | ((first | refine Below.setCell ?_ ?_ _ | refine Below.alloc ?_ ?_ _); rotate_left; exact (by first | omega | (simp; done) | (simp; omega))) | refine Below.drew ?_ | refine Below_drewN ?_ _)) (by first | omega | (simp; done) | (simp; omega)))).mono ?_; rintro e w1 ⟨rfl, hb⟩; (first | (with_reducible have hk := Nat.lt_of_lt_of_le (size_alloc_lt _ _) hb.size) | (with_reducible have hk := Nat.lt_of_lt_of_le (size_alloc_drew_lt _ _) hb.size) | (with_reducible have hk := Nat.lt_of_lt_of_le hk hb.size) | skip); (try simp only [World.size_alloc, World.size_setCell, size_drew, size_drewN] at hk); obtain ⟨hc, hf⟩ := bcell hb; have hs := hb.size; (try simp only [World.size_alloc, World.size_setCell, size_drew, size_drewN] at hs)); refine hK.out _ _ (by (try dsimp only); exact HS.out _ (by (repeat first | with_reducible exact Reg.refl _ _ | with_reducible exact Reg.drewN2 _ _ _ _ | with_reducible exact (‹Reg _ _ _ ∧ _›).1 | (with_reducible refine Reg.setCell ?_ ?_ _; rotate_left; exact (by first | omega | ((try simp only [World.size_alloc, World.size_setCell, size_drew, size_drewN]); omega) | (simp; done) | (simp; omega))) | with_reducible refine Reg.alloc ?_ _ | with_reducible refine Reg.drew ?_ | with_reducible refine Reg.drewN ?_ _ | (with_reducible apply Reg.call; rotate_left; with_reducible assumption)))) (fun hHeld => ?_); clear hK K; (try simp only [Act.put, List.setIfInBounds_toArray, List.set_cons_zero, List.set_cons_succ])
  refine wpAnyH_takeD (i := 2) (v := (.bool true)) (some 7) rfl rfl (by kernel_rfl) (by kernel_rfl) (by kernel_rfl) (fun _ _ _ h => h) (Or.inl ⟨by rfl, fun w' hSw => (by (try dsimp only at hSw); go_simp)⟩) (by assumption) ?_; (try simp only [Act.put, List.setIfInBounds_toArray, List.set_cons_zero, List.set_cons_succ])
  refine wpAnyH_takeD (i := 3) (v := (.bool true)) (some 8) rfl rfl (by kernel_rfl) (by kernel_rfl) (by kernel_rfl) (fun _ _ _ h => h) (Or.inl ⟨by rfl, fun w' hSw => (by (try dsimp only at hSw); go_simp)⟩) (by assumption) ?_; (try simp only [Act.put, List.setIfInBounds_toArray, List.set_cons_zero, List.set_cons_succ])
  refine wpAnyH_takeD (i := 4) (v := (.pointer (some ⟨w.heap.size + 1, 0, none⟩))) (some 9) rfl rfl (by kernel_rfl) (by kernel_rfl) (by kernel_rfl) (fun _ _ _ h => h) (Or.inl ⟨by rfl, fun w' hSw => (by (try dsimp only at hSw); go_simp)⟩) (by assumption) ?_; (try simp only [Act.put, List.setIfInBounds_toArray, List.set_cons_zero, List.set_cons_succ])
  refine wpAnyH_takeD (i := 5) (v := (.slice A1 na qa)) (some 10) rfl rfl (by kernel_rfl) (by kernel_rfl) (by kernel_rfl) (fun _ _ _ h => h) (Or.inl ⟨by rfl, fun w' hSw => (by (try dsimp only at hSw); go_simp)⟩) (by assumption) ?_; (try simp only [Act.put, List.setIfInBounds_toArray, List.set_cons_zero, List.set_cons_succ])
  refine wpAnyH_takeD (i := 6) (v := (.int .i64 na)) (some 11) rfl rfl (by kernel_rfl) (by kernel_rfl) (by kernel_rfl) (fun _ _ _ h => h) (Or.inl ⟨by rfl, fun w' hSw => (by (try dsimp only at hSw); go_simp)⟩) (by assumption) ?_; (try simp only [Act.put, List.setIfInBounds_toArray, List.set_cons_zero, List.set_cons_succ])
  refine wpAnyH_takeD (i := 7) (v := (.pointer (some ⟨w.heap.size, 1, none⟩))) (some 12) rfl rfl (by kernel_rfl) (by kernel_rfl) (by kernel_rfl) (fun _ _ _ h => h) (Or.inl ⟨by rfl, fun w' hSw => (by (try dsimp only at hSw); go_simp)⟩) (by assumption) ?_; (try simp only [Act.put, List.setIfInBounds_toArray, List.set_cons_zero, List.set_cons_succ])
  refine wpAnyH_takeD (i := 8) (v := (.slice A la ca)) (some 13) rfl rfl (by kernel_rfl) (by kernel_rfl) (by kernel_rfl) (fun _ _ _ h => h) (Or.inl ⟨by rfl, fun w' hSw => (by (try dsimp only at hSw); go_simp)⟩) (by assumption) ?_; (try simp only [Act.put, List.setIfInBounds_toArray, List.set_cons_zero, List.set_cons_succ])
  refine wpAnyH_takeD (i := 9) (v := (.int .i64 la)) (some 14) rfl rfl (by kernel_rfl) (by kernel_rfl) (by kernel_rfl) (fun _ _ _ h => h) (Or.inl ⟨by rfl, fun w' hSw => (by (try dsimp only at hSw); go_simp)⟩) (by assumption) ?_; (try simp only [Act.put, List.setIfInBounds_toArray, List.set_cons_zero, List.set_cons_succ])
  refine wpAnyH_takeD (i := 10) (v := (.bool true)) (some 15) rfl rfl (by kernel_rfl) (by kernel_rfl) (by kernel_rfl) (fun _ _ _ h => h) (Or.inl ⟨by rfl, fun w' hSw => (by (try dsimp only at hSw); go_simp)⟩) (by assumption) ?_; (try simp only [Act.put, List.setIfInBounds_toArray, List.set_cons_zero, List.set_cons_succ])
  refine wpAnyH_takeD (i := 11) (v := (.bool true)) (some 16) rfl rfl (by kernel_rfl) (by kernel_rfl) (by kernel_rfl) (fun _ _ _ h => h) (Or.inl ⟨by rfl, fun w' hSw => (by (try dsimp only at hSw); go_simp)⟩) (by assumption) ?_; (try simp only [Act.put, List.setIfInBounds_toArray, List.set_cons_zero, List.set_cons_succ])
  refine wpAnyH_takeD (i := 12) (v := (.bool true)) (some 17) rfl rfl (by kernel_rfl) (by kernel_rfl) (by kernel_rfl) (fun _ _ _ h => h) (Or.inl ⟨by rfl, fun w' hSw => (by (try dsimp only at hSw); go_simp)⟩) (by assumption) ?_; (try simp only [Act.put, List.setIfInBounds_toArray, List.set_cons_zero, List.set_cons_succ])
  refine wpAnyH_takeD (i := 13) (v := (.pointer (some ⟨w.heap.size + 1, 0, none⟩))) (some 18) rfl rfl (by kernel_rfl) (by kernel_rfl) (by kernel_rfl) (fun _ _ _ h => h) (Or.inl ⟨by rfl, fun w' hSw => (by (try dsimp only at hSw); go_simp)⟩) (by assumption) ?_; (try simp only [Act.put, List.setIfInBounds_toArray, List.set_cons_zero, List.set_cons_succ])
  refine wpAnyH_takeD (i := 14) (v := (.slice A1 na qa)) (some 19) rfl rfl (by kernel_rfl) (by kernel_rfl) (by kernel_rfl) (fun _ _ _ h => h) (Or.inl ⟨by rfl, fun w' hSw => (by (try dsimp only at hSw); go_simp)⟩) (by assumption) ?_; (try simp only [Act.put, List.setIfInBounds_toArray, List.set_cons_zero, List.set_cons_succ])
  refine wpAnyH_ready (rs := [15]) (by kernel_rfl) (by simp) ?_; refine AllReadyH.cons rfl (fun K hK => ?_) AllReadyH.nil; go_simp; (go_at_call 55; refine (H2.out _ (Reg.out (‹Reg _ _ _ ∧ _›).1 (by (with_reducible repeat first | exact Below.refl _ _ | assumption | ((first | refine Below.setCell ?_ ?_ _ | refine Below.alloc ?_ ?_ _); rotate_left; exact (by first | omega | (simp; done) | (simp; omega))) | refine Below.drew ?_ | refine Below_drewN ?_ _)) (by first | omega | (simp; done) | (simp; omega)))).mono ?_; rintro e w1 ⟨rfl, hb⟩; (first | (with_reducible have hk := Nat.lt_of_lt_of_le (size_alloc_lt _ _) hb.size) | (with_reducible have hk := Nat.lt_of_lt_of_le (size_alloc_drew_lt _ _) hb.size) | (with_reducible have hk := Nat.lt_of_lt_of_le hk hb.size) | skip); (try simp only [World.size_alloc, World.size_setCell, size_drew, size_drewN] at hk); obtain ⟨hc, hf⟩ := bcell hb; have hs := hb.size; (try simp only [World.size_alloc, World.size_setCell, size_drew, size_drewN] at hs)); refine hK.out _ _ (by (try dsimp only); exact HS.out _ (by (repeat first | with_reducible exact Reg.refl _ _ | with_reducible exact Reg.drewN2 _ _ _ _ | with_reducible exact (‹Reg _ _ _ ∧ _›).1 | (with_reducible refine Reg.setCell ?_ ?_ _; rotate_left; exact (by first | omega | ((try simp only [World.size_alloc, World.size_setCell, size_drew, size_drewN]); omega) | (simp; done) | (simp; omega))) | with_reducible refine Reg.alloc ?_ _ | with_reducible refine Reg.drew ?_ | with_reducible refine Reg.drewN ?_ _ | (with_reducible apply Reg.call; rotate_left; with_reducible assumption)))) (fun hHeld => ?_); clear hK K; (try simp only [Act.put, List.setIfInBounds_toArray, List.set_cons_zero, List.set_cons_succ])
  refine wpAnyH_takeD (i := 16) (v := (.bool true)) (some 21) rfl rfl (by kernel_rfl) (by kernel_rfl) (by kernel_rfl) (fun _ _ _ h => h) (Or.inl ⟨by rfl, fun w' hSw => (by (try dsimp only at hSw); go_simp)⟩) (by assumption) ?_; (try simp only [Act.put, List.setIfInBounds_toArray, List.set_cons_zero, List.set_cons_succ])
  refine wpAnyH_takeD (i := 17) (v := (.bool true)) (some 22) rfl rfl (by kernel_rfl) (by kernel_rfl) (by kernel_rfl) (fun _ _ _ h => h) (Or.inl ⟨by rfl, fun w' hSw => (by (try dsimp only at hSw); go_simp)⟩) (by assumption) ?_; (try simp only [Act.put, List.setIfInBounds_toArray, List.set_cons_zero, List.set_cons_succ])
  refine wpAnyH_takeD (i := 18) (v := (.pointer (some ⟨w.heap.size + 1, 1, none⟩))) (some 23) rfl rfl (by kernel_rfl) (by kernel_rfl) (by kernel_rfl) (fun _ _ _ h => h) (Or.inl ⟨by rfl, fun w' hSw => (by (try dsimp only at hSw); go_simp)⟩) (by assumption) ?_; (try simp only [Act.put, List.setIfInBounds_toArray, List.set_cons_zero, List.set_cons_succ])
  refine wpAnyH_takeD (i := 19) (v := (.slice B1 nb qb)) (some 24) rfl rfl (by kernel_rfl) (by kernel_rfl) (by kernel_rfl) (fun _ _ _ h => h) (Or.inl ⟨by rfl, fun w' hSw => (by (try dsimp only at hSw); go_simp)⟩) (by assumption) ?_; (try simp only [Act.put, List.setIfInBounds_toArray, List.set_cons_zero, List.set_cons_succ])
  refine wpAnyH_takeD (i := 20) (v := (.int .i64 nb)) (some 25) rfl rfl (by kernel_rfl) (by kernel_rfl) (by kernel_rfl) (fun _ _ _ h => h) (Or.inl ⟨by rfl, fun w' hSw => (by (try dsimp only at hSw); go_simp)⟩) (by assumption) ?_; (try simp only [Act.put, List.setIfInBounds_toArray, List.set_cons_zero, List.set_cons_succ])
  refine wpAnyH_takeD (i := 21) (v := (.pointer (some ⟨w.heap.size, 2, none⟩))) (some 26) rfl rfl (by kernel_rfl) (by kernel_rfl) (by kernel_rfl) (fun _ _ _ h => h) (Or.inl ⟨by rfl, fun w' hSw => (by (try dsimp only at hSw); go_simp)⟩) (by assumption) ?_; (try simp only [Act.put, List.setIfInBounds_toArray, List.set_cons_zero, List.set_cons_succ])
  refine wpAnyH_takeD (i := 22) (v := (.slice B lb cb)) (some 27) rfl rfl (by kernel_rfl) (by kernel_rfl) (by kernel_rfl) (fun _ _ _ h => h) (Or.inl ⟨by rfl, fun w' hSw => (by (try dsimp only at hSw); go_simp)⟩) (by assumption) ?_; (try simp only [Act.put, List.setIfInBounds_toArray, List.set_cons_zero, List.set_cons_succ])
  refine wpAnyH_takeD (i := 23) (v := (.int .i64 lb)) (some 28) rfl rfl (by kernel_rfl) (by kernel_rfl) (by kernel_rfl) (fun _ _ _ h => h) (Or.inl ⟨by rfl, fun w' hSw => (by (try dsimp only at hSw); go_simp)⟩) (by assumption) ?_; (try simp only [Act.put, List.setIfInBounds_toArray, List.set_cons_zero, List.set_cons_succ])
  refine wpAnyH_takeD (i := 24) (v := (.bool true)) (some 29) rfl rfl (by kernel_rfl) (by kernel_rfl) (by kernel_rfl) (fun _ _ _ h => h) (Or.inl ⟨by rfl, fun w' hSw => (by (try dsimp only at hSw); go_simp)⟩) (by assumption) ?_; (try simp only [Act.put, List.setIfInBounds_toArray, List.set_cons_zero, List.set_cons_succ])
  refine wpAnyH_takeD (i := 25) (v := (.bool true)) (some 30) rfl rfl (by kernel_rfl) (by kernel_rfl) (by kernel_rfl) (fun _ _ _ h => h) (Or.inl ⟨by rfl, fun w' hSw => (by (try dsimp only at hSw); go_simp)⟩) (by assumption) ?_; (try simp only [Act.put, List.setIfInBounds_toArray, List.set_cons_zero, List.set_cons_succ])
  refine wpAnyH_takeD (i := 26) (v := (.bool true)) (some 31) rfl rfl (by kernel_rfl) (by kernel_rfl) (by kernel_rfl) (fun _ _ _ h => h) (Or.inl ⟨by rfl, fun w' hSw => (by (try dsimp only at hSw); go_simp)⟩) (by assumption) ?_; (try simp only [Act.put, List.setIfInBounds_toArray, List.set_cons_zero, List.set_cons_succ])
  refine wpAnyH_takeD (i := 27) (v := (.pointer (some ⟨w.heap.size + 1, 1, none⟩))) (some 32) rfl rfl (by kernel_rfl) (by kernel_rfl) (by kernel_rfl) (fun _ _ _ h => h) (Or.inl ⟨by rfl, fun w' hSw => (by (try dsimp only at hSw); go_simp)⟩) (by assumption) ?_; (try simp only [Act.put, List.setIfInBounds_toArray, List.set_cons_zero, List.set_cons_succ])
  refine wpAnyH_takeD (i := 28) (v := (.slice B1 nb qb)) (some 33) rfl rfl (by kernel_rfl) (by kernel_rfl) (by kernel_rfl) (fun _ _ _ h => h) (Or.inl ⟨by rfl, fun w' hSw => (by (try dsimp only at hSw); go_simp)⟩) (by assumption) ?_; (try simp only [Act.put, List.setIfInBounds_toArray, List.set_cons_zero, List.set_cons_succ])
  refine wpAnyH_ready (rs := [29]) (by kernel_rfl) (by simp) ?_; refine AllReadyH.cons rfl (fun K hK => ?_) AllReadyH.nil; go_simp; (go_at_call 55; refine (H4.out _ (Reg.out (‹Reg _ _ _ ∧ _›).1 (by (with_reducible repeat first | exact Below.refl _ _ | assumption | ((first | refine Below.setCell ?_ ?_ _ | refine Below.alloc ?_ ?_ _); rotate_left; exact (by first | omega | (simp; done) | (simp; omega))) | refine Below.drew ?_ | refine Below_drewN ?_ _)) (by first | omega | (simp; done) | (simp; omega)))).mono ?_; rintro e w1 ⟨rfl, hb⟩; (first | (with_reducible have hk := Nat.lt_of_lt_of_le (size_alloc_lt _ _) hb.size) | (with_reducible have hk := Nat.lt_of_lt_of_le (size_alloc_drew_lt _ _) hb.size) | (with_reducible have hk := Nat.lt_of_lt_of_le hk hb.size) | skip); (try simp only [World.size_alloc, World.size_setCell, size_drew, size_drewN] at hk); obtain ⟨hc, hf⟩ := bcell hb; have hs := hb.size; (try simp only [World.size_alloc, World.size_setCell, size_drew, size_drewN] at hs)); refine hK.out _ _ (by (try dsimp only); exact HS.out _ (by (repeat first | with_reducible exact Reg.refl _ _ | with_reducible exact Reg.drewN2 _ _ _ _ | with_reducible exact (‹Reg _ _ _ ∧ _›).1 | (with_reducible refine Reg.setCell ?_ ?_ _; rotate_left; exact (by first | omega | ((try simp only [World.size_alloc, World.size_setCell, size_drew, size_drewN]); omega) | (simp; done) | (simp; omega))) | with_reducible refine Reg.alloc ?_ _ | with_reducible refine Reg.drew ?_ | with_reducible refine Reg.drewN ?_ _ | (with_reducible apply Reg.call; rotate_left; with_reducible assumption)))) (fun hHeld => ?_); clear hK K; (try simp only [Act.put, List.setIfInBounds_toArray, List.set_cons_zero, List.set_cons_succ])
  refine wpAnyH_takeD (i := 30) (v := (.bool true)) (some 35) rfl rfl (by kernel_rfl) (by kernel_rfl) (by kernel_rfl) (fun _ _ _ h => h) (Or.inl ⟨by rfl, fun w' hSw => (by (try dsimp only at hSw); go_simp)⟩) (by assumption) ?_; (try simp only [Act.put, List.setIfInBounds_toArray, List.set_cons_zero, List.set_cons_succ])
  refine wpAnyH_takeD (i := 31) (v := (.bool true)) (some 36) rfl rfl (by kernel_rfl) (by kernel_rfl) (by kernel_rfl) (fun _ _ _ h => h) (Or.inl ⟨by rfl, fun w' hSw => (by (try dsimp only at hSw); go_simp)⟩) (by assumption) ?_; (try simp only [Act.put, List.setIfInBounds_toArray, List.set_cons_zero, List.set_cons_succ])
  refine wpAnyH_takeD (i := 32) (v := (.pointer (some ⟨w.heap.size + 1, 2, none⟩))) (some 37) rfl rfl (by kernel_rfl) (by kernel_rfl) (by kernel_rfl) (fun _ _ _ h => h) (Or.inl ⟨by rfl, fun w' hSw => (by (try dsimp only at hSw); go_simp)⟩) (by assumption) ?_; (try simp only [Act.put, List.setIfInBounds_toArray, List.set_cons_zero, List.set_cons_succ])
  refine wpAnyH_takeD (i := 33) (v := (.slice C1 nc qc)) (some 38) rfl rfl (by kernel_rfl) (by kernel_rfl) (by kernel_rfl) (fun _ _ _ h => h) (Or.inl ⟨by rfl, fun w' hSw => (by (try dsimp only at hSw); go_simp)⟩) (by assumption) ?_; (try simp only [Act.put, List.setIfInBounds_toArray, List.set_cons_zero, List.set_cons_succ])
  refine wpAnyH_takeD (i := 34) (v := (.int .i64 nc)) (some 39) rfl rfl (by kernel_rfl) (by kernel_rfl) (by kernel_rfl) (fun _ _ _ h => h) (Or.inl ⟨by rfl, fun w' hSw => (by (try dsimp only at hSw); go_simp)⟩) (by assumption) ?_; (try simp only [Act.put, List.setIfInBounds_toArray, List.set_cons_zero, List.set_cons_succ])
  refine wpAnyH_takeD (i := 35) (v := (.pointer (some ⟨w.heap.size, 4, none⟩))) (some 40) rfl rfl (by kernel_rfl) (by kernel_rfl) (by kernel_rfl) (fun _ _ _ h => h) (Or.inl ⟨by rfl, fun w' hSw => (by (try dsimp only at hSw); go_simp)⟩) (by assumption) ?_; (try simp only [Act.put, List.setIfInBounds_toArray, List.set_cons_zero, List.set_cons_succ])
  refine wpAnyH_takeD (i := 36) (v := (.agg #[.int .i64 r, .int .i64 z, .int .i64 nr, .int .i64 nz, .int .i64 step])) (some 41) rfl rfl (by kernel_rfl) (by kernel_rfl) (by kernel_rfl) (fun _ _ _ h => h) (Or.inl ⟨by rfl, fun w' hSw => (by (try dsimp only at hSw); go_simp)⟩) (by assumption) ?_; (try simp only [Act.put, List.setIfInBounds_toArray, List.set_cons_zero, List.set_cons_succ])
  refine wpAnyH_ready (rs := [37]) (by kernel_rfl) (by simp) ?_; refine AllReadyH.cons rfl (fun K hK => ?_) AllReadyH.nil; go_simp; (go_at_call 56; refine (H5.out _).mono ?_; rintro e w1 ⟨rfl, hb⟩; (first | (with_reducible have hk := Nat.lt_of_lt_of_le (size_alloc_lt _ _) hb.size) | (with_reducible have hk := Nat.lt_of_lt_of_le (size_alloc_drew_lt _ _) hb.size) | (with_reducible have hk := Nat.lt_of_lt_of_le hk hb.size) | skip); (try simp only [World.size_alloc, World.size_setCell, size_drew, size_drewN] at hk); obtain ⟨hc, hf⟩ := bcell hb; have hs := hb.size; (try simp only [World.size_alloc, World.size_setCell, size_drew, size_drewN] at hs)); refine hK.out _ _ (by (try dsimp only); exact HS.out _ (by (repeat first | with_reducible exact Reg.refl _ _ | with_reducible exact Reg.drewN2 _ _ _ _ | with_reducible exact (‹Reg _ _ _ ∧ _›).1 | (with_reducible refine Reg.setCell ?_ ?_ _; rotate_left; exact (by first | omega | ((try simp only [World.size_alloc, World.size_setCell, size_drew, size_drewN]); omega) | (simp; done) | (simp; omega))) | with_reducible refine Reg.alloc ?_ _ | with_reducible refine Reg.drew ?_ | with_reducible refine Reg.drewN ?_ _ | (with_reducible apply Reg.call; rotate_left; with_reducible assumption)))) (fun hHeld => ?_); clear hK K; (try simp only [Act.put, List.setIfInBounds_toArray, List.set_cons_zero, List.set_cons_succ])
  refine wpAnyH_takeD (i := 38) (v := (.bool true)) (some 43) rfl rfl (by kernel_rfl) (by kernel_rfl) (by kernel_rfl) (fun _ _ _ h => h) (Or.inl ⟨by rfl, fun w' hSw => (by (try dsimp only at hSw); go_simp)⟩) (by assumption) ?_; (try simp only [Act.put, List.setIfInBounds_toArray, List.set_cons_zero, List.set_cons_succ])
  refine wpAnyH_takeD (i := 39) (v := (.bool true)) (some 44) rfl rfl (by kernel_rfl) (by kernel_rfl) (by kernel_rfl) (fun _ _ _ h => h) (Or.inl ⟨by rfl, fun w' hSw => (by (try dsimp only at hSw); go_simp)⟩) (by assumption) ?_; (try simp only [Act.put, List.setIfInBounds_toArray, List.set_cons_zero, List.set_cons_succ])
  refine wpAnyH_takeD (i := 40) (v := (.bool true)) (some 45) rfl rfl (by kernel_rfl) (by kernel_rfl) (by kernel_rfl) (fun _ _ _ h => h) (Or.inl ⟨by rfl, fun w' hSw => (by (try dsimp only at hSw); go_simp)⟩) (by assumption) ?_; (try simp only [Act.put, List.setIfInBounds_toArray, List.set_cons_zero, List.set_cons_succ])
  refine wpAnyH_takeD (i := 41) (v := (.pointer (some ⟨w.heap.size + 1, 2, none⟩))) (some 46) rfl rfl (by kernel_rfl) (by kernel_rfl) (by kernel_rfl) (fun _ _ _ h => h) (Or.inl ⟨by rfl, fun w' hSw => (by (try dsimp only at hSw); go_simp)⟩) (by assumption) ?_; (try simp only [Act.put, List.setIfInBounds_toArray, List.set_cons_zero, List.set_cons_succ])
  refine wpAnyH_takeD (i := 42) (v := (.slice C1 nc qc)) (some 47) rfl rfl (by kernel_rfl) (by kernel_rfl) (by kernel_rfl) (fun _ _ _ h => h) (Or.inl ⟨by rfl, fun w' hSw => (by (try dsimp only at hSw); go_simp)⟩) (by assumption) ?_; (try simp only [Act.put, List.setIfInBounds_toArray, List.set_cons_zero, List.set_cons_succ])
  refine wpAnyH_ready (rs := [43]) (by kernel_rfl) (by simp) ?_; refine AllReadyH.cons rfl (fun K hK => ?_) AllReadyH.nil; go_simp; (go_at_call 55; refine (H6.out _ (Reg.out (‹Reg _ _ _ ∧ _›).1 (by (with_reducible repeat first | exact Below.refl _ _ | assumption | ((first | refine Below.setCell ?_ ?_ _ | refine Below.alloc ?_ ?_ _); rotate_left; exact (by first | omega | (simp; done) | (simp; omega))) | refine Below.drew ?_ | refine Below_drewN ?_ _)) (by first | omega | (simp; done) | (simp; omega)))).mono ?_; rintro e w1 ⟨rfl, hb⟩; (first | (with_reducible have hk := Nat.lt_of_lt_of_le (size_alloc_lt _ _) hb.size) | (with_reducible have hk := Nat.lt_of_lt_of_le (size_alloc_drew_lt _ _) hb.size) | (with_reducible have hk := Nat.lt_of_lt_of_le hk hb.size) | skip); (try simp only [World.size_alloc, World.size_setCell, size_drew, size_drewN] at hk); obtain ⟨hc, hf⟩ := bcell hb; have hs := hb.size; (try simp only [World.size_alloc, World.size_setCell, size_drew, size_drewN] at hs)); refine hK.out _ _ (by (try dsimp only); exact HS.out _ (by (repeat first | with_reducible exact Reg.refl _ _ | with_reducible exact Reg.drewN2 _ _ _ _ | with_reducible exact (‹Reg _ _ _ ∧ _›).1 | (with_reducible refine Reg.setCell ?_ ?_ _; rotate_left; exact (by first | omega | ((try simp only [World.size_alloc, World.size_setCell, size_drew, size_drewN]); omega) | (simp; done) | (simp; omega))) | with_reducible refine Reg.alloc ?_ _ | with_reducible refine Reg.drew ?_ | with_reducible refine Reg.drewN ?_ _ | (with_reducible apply Reg.call; rotate_left; with_reducible assumption)))) (fun hHeld => ?_); clear hK K; (try simp only [Act.put, List.setIfInBounds_toArray, List.set_cons_zero, List.set_cons_succ])
  refine wpAnyH_takeD (i := 44) (v := (.bool true)) (some 49) rfl rfl (by kernel_rfl) (by kernel_rfl) (by kernel_rfl) (fun _ _ _ h => h) (Or.inl ⟨by rfl, fun w' hSw => (by (try dsimp only at hSw); go_simp)⟩) (by assumption) ?_; (try simp only [Act.put, List.setIfInBounds_toArray, List.set_cons_zero, List.set_cons_succ])
  refine wpAnyH_takeD (i := 45) (v := (.bool true)) (some 50) rfl rfl (by kernel_rfl) (by kernel_rfl) (by kernel_rfl) (fun _ _ _ h => h) (Or.inl ⟨by rfl, fun w' hSw => (by (try dsimp only at hSw); go_simp)⟩) (by assumption) ?_; (try simp only [Act.put, List.setIfInBounds_toArray, List.set_cons_zero, List.set_cons_succ])
  refine wpAnyH_takeD (i := 46) (v := (.agg #[.slice A1 na qa, .slice B1 nb qb, .slice C1 nc qc])) (some 51) rfl rfl (by kernel_rfl) (by kernel_rfl) (by kernel_rfl) (fun _ _ _ h => h) (Or.inl ⟨by rfl, fun w' hSw => (by (try dsimp only at hSw); go_simp)⟩) (by assumption) ?_; (try simp only [Act.put, List.setIfInBounds_toArray, List.set_cons_zero, List.set_cons_succ])
  refine wpAnyH_ready (rs := [47]) (by kernel_rfl) (by simp) ?_; refine AllReadyH.cons rfl (fun K hK => ?_) AllReadyH.nil; go_simp; (go_at_call 57; refine (H7.out _ (Reg.out (‹Reg _ _ _ ∧ _›).1 (by (with_reducible repeat first | exact Below.refl _ _ | assumption | ((first | refine Below.setCell ?_ ?_ _ | refine Below.alloc ?_ ?_ _); rotate_left; exact (by first | omega | (simp; done) | (simp; omega))) | refine Below.drew ?_ | refine Below_drewN ?_ _)) (by first | omega | (simp; done) | (simp; omega)))).mono ?_; rintro e w1 ⟨rfl, hb⟩; (first | (with_reducible have hk := Nat.lt_of_lt_of_le (size_alloc_lt _ _) hb.size) | (with_reducible have hk := Nat.lt_of_lt_of_le (size_alloc_drew_lt _ _) hb.size) | (with_reducible have hk := Nat.lt_of_lt_of_le hk hb.size) | skip); (try simp only [World.size_alloc, World.size_setCell, size_drew, size_drewN] at hk); obtain ⟨hc, hf⟩ := bcell hb; have hs := hb.size; (try simp only [World.size_alloc, World.size_setCell, size_drew, size_drewN] at hs)); refine hK.out _ _ (by (try dsimp only); exact HS.out _ (by (repeat first | with_reducible exact Reg.refl _ _ | with_reducible exact Reg.drewN2 _ _ _ _ | with_reducible exact (‹Reg _ _ _ ∧ _›).1 | (with_reducible refine Reg.setCell ?_ ?_ _; rotate_left; exact (by first | omega | ((try simp only [World.size_alloc, World.size_setCell, size_drew, size_drewN]); omega) | (simp; done) | (simp; omega))) | with_reducible refine Reg.alloc ?_ _ | with_reducible refine Reg.drew ?_ | with_reducible refine Reg.drewN ?_ _ | (with_reducible apply Reg.call; rotate_left; with_reducible assumption)))) (fun hHeld => ?_); clear hK K; (try simp only [Act.put, List.setIfInBounds_toArray, List.set_cons_zero, List.set_cons_succ])
  refine wpAnyH_takeD (i := 48) (v := (.bool true)) (some 53) rfl rfl (by kernel_rfl) (by kernel_rfl) (by kernel_rfl) (fun _ _ _ h => h) (Or.inl ⟨by rfl, fun w' hSw => (by (try dsimp only at hSw); go_simp)⟩) (by assumption) ?_; (try simp only [Act.put, List.setIfInBounds_toArray, List.set_cons_zero, List.set_cons_succ])
  refine wpAnyH_takeD (i := 49) (v := (.bool true)) (some 54) rfl rfl (by kernel_rfl) (by kernel_rfl) (by kernel_rfl) (fun _ _ _ h => h) (Or.inl ⟨by rfl, fun w' hSw => (by (try dsimp only at hSw); go_simp)⟩) (by assumption) ?_; (try simp only [Act.put, List.setIfInBounds_toArray, List.set_cons_zero, List.set_cons_succ])
  refine wpAnyH_takeD (i := 50) (v := (.bool true)) (some 4) rfl rfl (by kernel_rfl) (by kernel_rfl) (by kernel_rfl) (fun _ _ _ h => h) (Or.inl ⟨by rfl, fun w' hSw => (by (try dsimp only at hSw); go_simp)⟩) (by assumption) ?_; (try simp only [Act.put, List.setIfInBounds_toArray, List.set_cons_zero, List.set_cons_succ])
  refine wpAnyH_done (by kernel_rfl) ?_ _
  go_wp2
  go_ret
  exact ⟨rfl, Reg.out hHeld.1 (by (with_reducible repeat first | exact Below.refl _ _ | assumption | ((first | refine Below.setCell ?_ ?_ _ | refine Below.alloc ?_ ?_ _); rotate_left; exact (by first | omega | (simp; done) | (simp; omega))) | refine Below.drew ?_ | refine Below_drewN ?_ _)) (by first | omega | (simp; done) | (simp; omega))⟩

end Go.Proofs.YtfpjhobhmcfpnaaDoor
end
section
/- Package machine: the contract of ValidCurrents, over this seat's translation. -/
namespace Go.Proofs.YtfpjhobhmcfpnaaDoor
set_option linter.unusedVariables false
set_option linter.unusedSimpArgs false
open Go.RowKit Go.Shelf

theorem rng_zero {b : Bool} (h : rng b = 0) : b = true := by unfold rng at h; split at h <;> simp_all
theorem orL_zero {x : Int} {r : List Int} (h : orL (x :: r) = 0) : x = 0 ∧ orL r = 0 := by
  have : (if x = 0 then orL r else x) = 0 := h
  split at this
  · exact ⟨‹_›, this⟩
  · exact absurd this ‹_›
/-- The grid of a valid machine. -/
theorem grid_of {M : MachD} (h : checkC M = 0) : gridC M.grid = 0 := (orL_zero (orL_zero (orL_zero (orL_zero (orL_zero h).2).2).2).2).1
theorem fine_grid {g : GridD} (h : gridC g = 0) : g.Fine := by
  unfold gridC at h
  split at h
  · split at h
    · exact fine_of ‹_› ‹_›
    · cases h
  · cases h
theorem cells_fine {g : GridD} (h : g.Fine) : 1 ≤ g.nr * g.nz ∧ g.nr * g.nz ≤ 64 := by
  have hp := mul_small (x := 8) (y := 8) (show 0 ≤ g.nr by have := h.n0; omega) h.n1 (show 0 ≤ g.nz by have := h.k0; omega) h.k1
  have h3 := Int.mul_le_mul h.n0 h.k0 (by omega) (show 0 ≤ g.nr by have := h.n0; omega)
  omega

theorem int_eq (a b : Nat) : (((a : Int) == b) = decide (a = b)) := by
  by_cases h : a = b
  · subst h; simp
  · rw [decide_eq_false h, beq_eq_false_iff_ne]; omega

set_option maxHeartbeats 1000000 in
theorem validCurrents_any (R : MachR) (M : MachD) (Q : CurR) (C : CurD) (w : World) (hM : IsM w R M) (hC : IsC w Q C) :
    Calls Tryd.prog 23 #[.agg (machCells R M), Q.v] w (Ret (.bool (validC M C)) w) := by
  have la := hM.coils.1
  have lb := hM.shells.1
  have na := hC.coils.1
  have nb := hC.shells.1
  have nc := hC.plasma.1
  have H0 := Lib.hid (fun W (hb : Below w.heap.size w W) => check_any R M W (hM.below hb))
  have H2 := Lib.hid (fun W (hb : Below w.heap.size w W) => allWithin_any Q.A Q.la Q.ca C.coils (-1000000) 1000000 W (hC.below hb).coils (by have := hC.ka; omega))
  have H4 := Lib.hid (fun W (hb : Below w.heap.size w W) => allWithin_any Q.B Q.lb Q.cb C.shells (-1000000) 1000000 W (hC.below hb).shells (by have := hC.kb; omega))
  have H6 := Lib.hid (fun W (hb : Below w.heap.size w W) => allWithin_any Q.C Q.lc Q.cc C.plasma 0 1000000 W (hC.below hb).plasma (by have := hC.kc; omega))
  have H7 := Lib.hid (fun W (hb : Below w.heap.size w W) => total_any Q.A Q.B Q.C Q.la Q.ca Q.lb Q.cb Q.lc Q.cc C.plasma W (hC.below hb).plasma (by have := hC.kc; omega))
  have H5 := fun (h : checkC M = 0) => Lib.hid (fun W => cells_any M.grid W (by have := cells_fine (fine_grid (grid_of h)); omega) (by have := cells_fine (fine_grid (grid_of h)); omega))
  clear hM hC
  obtain ⟨A, B, C', D, ra, ca, rb, cb, rc, cc, rd, cd⟩ := R
  obtain ⟨name, coils, shells, limits, ⟨r, z, nr, nz, step⟩, sensors⟩ := M
  obtain ⟨A1, B1, C1, ma, qa, mb, qb, mc, qc⟩ := Q
  obtain ⟨c1, c2, c3⟩ := C
  dsimp only at *
  by_cases b0 : checkC ⟨name, coils, shells, limits, ⟨r, z, nr, nz, step⟩, sensors⟩ = 0
  · have e0 : (checkC ⟨name, coils, shells, limits, ⟨r, z, nr, nz, step⟩, sensors⟩ == 0) = true := by rw [b0]; rfl
    have H5 := H5 b0
    by_cases b1 : ma = ra
    · have e1 := (int_eq ma ra).trans (decide_eq_true b1)
      cases b2 : allW c1 (-1000000) 1000000
      · rw [b2] at H2
        rw [show validC ⟨name, coils, shells, limits, ⟨r, z, nr, nz, step⟩, sensors⟩ ⟨c1, c2, c3⟩ = false by simp [validC, b2]]
        exact valid_case2 name A B C' D ra ca rb cb rc cc rd cd r z nr nz step A1 B1 C1 ma qa mb qb mc qc _ 0 0 w H0 e0 e1 H2
      rw [b2] at H2
      by_cases b3 : mb = rb
      · have e3 := (int_eq mb rb).trans (decide_eq_true b3)
        cases b4 : allW c2 (-1000000) 1000000
        · rw [b4] at H4
          rw [show validC ⟨name, coils, shells, limits, ⟨r, z, nr, nz, step⟩, sensors⟩ ⟨c1, c2, c3⟩ = false by simp [validC, b4]]
          exact valid_case4 name A B C' D ra ca rb cb rc cc rd cd r z nr nz step A1 B1 C1 ma qa mb qb mc qc _ 0 0 w H0 e0 e1 H2 e3 H4
        rw [b4] at H4
        by_cases b5 : (mc : Int) = nr * nz
        · have e5 : ((mc : Int) == nr * nz) = true := by rw [b5]; simp
          cases b6 : allW c3 0 1000000
          · rw [b6] at H6
            rw [show validC ⟨name, coils, shells, limits, ⟨r, z, nr, nz, step⟩, sensors⟩ ⟨c1, c2, c3⟩ = false by simp [validC, b6]]
            exact valid_case6 name A B C' D ra ca rb cb rc cc rd cd r z nr nz step A1 B1 C1 ma qa mb qb mc qc _ _ 0 w H0 e0 e1 H2 e3 H4 H5 e5 H6
          rw [b6] at H6
          by_cases b7 : tot 0 c3 ≤ 1000000
          · rw [show validC ⟨name, coils, shells, limits, ⟨r, z, nr, nz, step⟩, sensors⟩ ⟨c1, c2, c3⟩ = true by simp [validC, b0, b2, b4, b6, b7]; omega]
            exact valid_case8 name A B C' D ra ca rb cb rc cc rd cd r z nr nz step A1 B1 C1 ma qa mb qb mc qc _ _ _ w H0 e0 e1 H2 e3 H4 H5 e5 H6 H7 (decide_eq_true b7)
          · rw [show validC ⟨name, coils, shells, limits, ⟨r, z, nr, nz, step⟩, sensors⟩ ⟨c1, c2, c3⟩ = false by simp [validC, b7]]
            exact valid_case7 name A B C' D ra ca rb cb rc cc rd cd r z nr nz step A1 B1 C1 ma qa mb qb mc qc _ _ _ w H0 e0 e1 H2 e3 H4 H5 e5 H6 H7 (decide_eq_false b7)
        · have e5 : ((mc : Int) == nr * nz) = false := by rw [beq_eq_false_iff_ne]; exact b5
          rw [show validC ⟨name, coils, shells, limits, ⟨r, z, nr, nz, step⟩, sensors⟩ ⟨c1, c2, c3⟩ = false by simp [validC, nc, b5]]
          exact valid_case5 name A B C' D ra ca rb cb rc cc rd cd r z nr nz step A1 B1 C1 ma qa mb qb mc qc _ _ 0 w H0 e0 e1 H2 e3 H4 H5 e5
      · have e3 := (int_eq mb rb).trans (decide_eq_false b3)
        rw [show validC ⟨name, coils, shells, limits, ⟨r, z, nr, nz, step⟩, sensors⟩ ⟨c1, c2, c3⟩ = false by simp [validC, nb, lb, b3]]
        exact valid_case3 name A B C' D ra ca rb cb rc cc rd cd r z nr nz step A1 B1 C1 ma qa mb qb mc qc _ 0 0 w H0 e0 e1 H2 e3
    · have e1 := (int_eq ma ra).trans (decide_eq_false b1)
      rw [show validC ⟨name, coils, shells, limits, ⟨r, z, nr, nz, step⟩, sensors⟩ ⟨c1, c2, c3⟩ = false by simp [validC, na, la, b1]]
      exact valid_case1 name A B C' D ra ca rb cb rc cc rd cd r z nr nz step A1 B1 C1 ma qa mb qb mc qc _ 0 0 w H0 e0 e1
  · have e0 : (checkC ⟨name, coils, shells, limits, ⟨r, z, nr, nz, step⟩, sensors⟩ == 0) = false := by rw [beq_eq_false_iff_ne]; exact b0
    rw [show validC ⟨name, coils, shells, limits, ⟨r, z, nr, nz, step⟩, sensors⟩ ⟨c1, c2, c3⟩ = false by simp [validC, b0]]
    exact valid_case0 name A B C' D ra ca rb cb rc cc rd cd r z nr nz step A1 B1 C1 ma qa mb qb mc qc _ 0 0 w H0 e0

end Go.Proofs.YtfpjhobhmcfpnaaDoor
end
section
/- Package machine: Exact of a flux sensor over a machine that has neither coils nor shells, over this seat's translation. -/
namespace Go.Proofs.YtfpjhobhmcfpnaaDoor
set_option linter.unusedVariables false
set_option linter.unusedSimpArgs false
open Go.RowKit Go.Shelf

theorem validC_check {M : MachD} {C : CurD} (h : validC M C = true) : checkC M = 0 := by
  unfold validC at h; simp only [Bool.and_eq_true, decide_eq_true_eq] at h; exact h.1
theorem validC_cells {M : MachD} {C : CurD} (h : validC M C = true) : (C.plasma.length : Int) = M.grid.nr * M.grid.nz := by
  unfold validC at h; simp only [Bool.and_eq_true, decide_eq_true_eq] at h; exact h.2.2.2.2.2.1

set_option maxRecDepth 100000 in
set_option maxHeartbeats 4000000 in
theorem exact_flux (name : ByteArray) (A B Cl D : Option Addr) (ca cb lc cl ld cd : Nat) (g : GridD) (limits : List PointD) (sensors : List SensorD) (A1 B1 C : Option Addr) (na qa nb qb len cap : Nat) (c1 c2 zs : List Int) (i : Nat) (x : SensorD) (w : World)
    (hM : IsM w ⟨A, B, Cl, D, 0, ca, 0, cb, lc, cl, ld, cd⟩ ⟨name, [], [], limits, g, sensors⟩) (hC : IsC w ⟨A1, B1, C, na, qa, nb, qb, len, cap⟩ ⟨c1, c2, zs⟩) (hv : validC ⟨name, [], [], limits, g, sensors⟩ ⟨c1, c2, zs⟩ = true) (hx : sensors[i]? = some x) (hk : x.kind = 1) :
    Calls Tryd.prog 24 #[.agg #[.string name, .slice A 0 ca, .slice B 0 cb, .slice Cl lc cl, .int .i64 g.r, .int .i64 g.z, .int .i64 g.nr, .int .i64 g.nz, .int .i64 g.step, .slice D ld cd], .agg #[.slice A1 na qa, .slice B1 nb qb, .slice C len cap], .int .i64 i] w
      (Ret (.tuple #[.int .i64 (fluxW (x.r, x.z) 0 (cellSrc g zs len)), .int .i64 0]) w) := by
  have HV := Lib.hid (fun W (hb : Below w.heap.size w W) => show Calls Tryd.prog 23 #[.agg #[.string name, .slice A 0 ca, .slice B 0 cb, .slice Cl lc cl, .int .i64 g.r, .int .i64 g.z, .int .i64 g.nr, .int .i64 g.nz, .int .i64 g.step, .slice D ld cd], .agg #[.slice A1 na qa, .slice B1 nb qb, .slice C len cap]] W (Ret (.bool true) W) from by
    have := validCurrents_any _ _ _ _ W (hM.below hb) (hC.below hb); rw [hv] at this; exact this)
  have hg := fine_grid (grid_of (validC_check hv))
  have hl : len ≤ 1000 := by have h1 := validC_cells hv; have h2 := hC.plasma.1; have h3 := cells_fine hg; dsimp only at h1 h2 h3; omega
  have HF := Lib.hid (fun W (hb : Below w.heap.size w W) => fluxAt_bare name A B Cl D ca cb lc cl ld cd g hg A1 B1 C na qa nb qb len cap zs x.r x.z W (hC.below hb).plasma hl)
  have hi : i < ld := by have h1 := hM.sensors.1; have h2 := (List.getElem?_eq_some_iff.1 hx).1; dsimp only at h1; omega
  obtain ⟨b, o, hD, hb0, hcl⟩ := hM.sensors.2 (show 0 < ld by omega)
  dsimp only at hD hcl
  subst hD
  have X0 : Hid (w.cell? ⟨b, o + i * 5, none⟩ = some (.string x.name)) := Lib.hid (by have h := hcl i x hx 0 _ rfl; simpa using h)
  have X1 : Hid (w.cell? ⟨b, o + i * 5 + 1, none⟩ = some (.int .i64 1)) := Lib.hid (by have h := hcl i x hx 1 _ rfl; rw [hk] at h; simpa using h)
  have X2 : Hid (w.cell? ⟨b, o + i * 5 + 2, none⟩ = some (.int .i64 x.r)) := Lib.hid (by have h := hcl i x hx 2 _ rfl; simpa using h)
  have X3 : Hid (w.cell? ⟨b, o + i * 5 + 3, none⟩ = some (.int .i64 x.z)) := Lib.hid (by have h := hcl i x hx 3 _ rfl; simpa using h)
  have X4 : Hid (w.cell? ⟨b, o + i * 5 + 4, none⟩ = some (.int .i64 x.error)) := Lib.hid (by have h := hcl i x hx 4 _ rfl; simpa using h)
  have hcd := hM.kd
  have hld := hM.ld
  dsimp only at hcd hld
  have hw : wthn (i : Int) 0 ((ld : Int) - 1) = true := wthn_iff.2 (by omega)
  generalize fluxW (x.r, x.z) 0 (cellSrc g zs len) = V at *
  obtain ⟨xn, xk, xr, xz, xe⟩ := x
  dsimp only at *
  clear hM hC hv hx hk hg hcl
  go_enter Tryd.func24, Tryd.ntmps24
  go_wp2_with (first | (go_at_call 23; refine (HV.out _ (by (with_reducible repeat first | exact Below.refl _ _ | assumption | ((first | refine Below.setCell ?_ ?_ _ | refine Below.alloc ?_ ?_ _); rotate_left; exact (by first | omega | (simp; done) | (simp; omega))) | refine Below.drew ?_ | refine Below_drewN ?_ _))).mono ?_; rintro e w1 ⟨rfl, hb⟩; have hB : Below w.heap.size w w1 := Below.trans (by (with_reducible repeat first | exact Below.refl _ _ | assumption | ((first | refine Below.setCell ?_ ?_ _ | refine Below.alloc ?_ ?_ _); rotate_left; exact (by first | omega | (simp; done) | (simp; omega))) | refine Below.drew ?_ | refine Below_drewN ?_ _)) (hb.mono (by first | omega | (simp; done) | (simp; omega))); obtain ⟨hc, hf⟩ := bcell hb; have hs := hb.size; clear hb; (try simp only [World.size_alloc, World.size_setCell] at hc hf); (try simp only [World.size_alloc, World.size_setCell] at hs); (try have hs' := Nat.lt_of_succ_le hs); (try have hs0 : w.heap.size < w1.heap.size := by omega); (try have hs1 : w.heap.size + 1 < w1.heap.size := by omega); (try have hs2 : w.heap.size + 1 + 1 < w1.heap.size := by omega); (try have hs3 : w.heap.size + 1 + 1 + 1 < w1.heap.size := by omega); have y0 := (hB.cell (p := ⟨b, o + i * 5, none⟩) hb0).trans X0.out; have y1 := (hB.cell (p := ⟨b, o + i * 5 + 1, none⟩) hb0).trans X1.out; have y2 := (hB.cell (p := ⟨b, o + i * 5 + 2, none⟩) hb0).trans X2.out; have y3 := (hB.cell (p := ⟨b, o + i * 5 + 3, none⟩) hb0).trans X3.out; have y4 := (hB.cell (p := ⟨b, o + i * 5 + 4, none⟩) hb0).trans X4.out) | (go_at_call 58; refine (mwithin_any _ _ _ _).mono ?_; rintro e w1 ⟨rfl, rfl⟩) | (go_at_call 59; refine (HF.out _ (by (with_reducible repeat first | exact Below.refl _ _ | assumption | ((first | refine Below.setCell ?_ ?_ _ | refine Below.alloc ?_ ?_ _); rotate_left; exact (by first | omega | (simp; done) | (simp; omega))) | refine Below.drew ?_ | refine Below_drewN ?_ _))).mono ?_; rintro e w1 ⟨rfl, hb⟩; have hB : Below w.heap.size w w1 := Below.trans (by (with_reducible repeat first | exact Below.refl _ _ | assumption | ((first | refine Below.setCell ?_ ?_ _ | refine Below.alloc ?_ ?_ _); rotate_left; exact (by first | omega | (simp; done) | (simp; omega))) | refine Below.drew ?_ | refine Below_drewN ?_ _)) (hb.mono (by first | omega | (simp; done) | (simp; omega))); obtain ⟨hc, hf⟩ := bcell hb; have hs := hb.size; clear hb; (try simp only [World.size_alloc, World.size_setCell] at hc hf); (try simp only [World.size_alloc, World.size_setCell] at hs); (try have hs' := Nat.lt_of_succ_le hs); (try have hs0 : w.heap.size < w1.heap.size := by omega); (try have hs1 : w.heap.size + 1 < w1.heap.size := by omega); (try have hs2 : w.heap.size + 1 + 1 < w1.heap.size := by omega); (try have hs3 : w.heap.size + 1 + 1 + 1 < w1.heap.size := by omega)))
  go_ret2
  exact ⟨rfl, by (with_reducible repeat first | exact Below.refl _ _ | assumption | ((first | refine Below.setCell ?_ ?_ _ | refine Below.alloc ?_ ?_ _); rotate_left; exact (by first | omega | (simp; done) | (simp; omega))) | refine Below.drew ?_ | refine Below_drewN ?_ _)⟩

end Go.Proofs.YtfpjhobhmcfpnaaDoor
end
section
/- Package machine: the flux of valid currents as a plain sum; fluxAt over them, over this seat's translation (written by mk_fld.py). -/
namespace Go.Proofs.YtfpjhobhmcfpnaaDoor
set_option linter.unusedVariables false
set_option linter.unusedSimpArgs false
open Go.RowKit Go.Shelf

/-- The flux at a place: each current times its influence there. -/
def fluxP (p : Int × Int) : List Src → Int
  | [] => 0
  | x :: r => infl p.1 p.2 x.1.1 x.1.2 * x.2 + fluxP p r
theorem fluxP_append (p : Int × Int) (a b : List Src) : fluxP p (a ++ b) = fluxP p a + fluxP p b := by
  induction a with
  | nil => simp [fluxP]
  | cons x r ih => simp only [List.cons_append, fluxP, ih]; omega
theorem mul_bd {a b A B : Int} (a0 : 0 ≤ a) (a1 : a ≤ A) (b0 : -B ≤ b) (b1 : b ≤ B) : -(A * B) ≤ a * b ∧ a * b ≤ A * B := by
  have hB : 0 ≤ B := by omega
  have hA : 0 ≤ A := by omega
  have h1 : a * B ≤ A * B := Int.mul_le_mul_of_nonneg_right a1 hB
  have h2 : a * b ≤ a * B := Int.mul_le_mul_of_nonneg_left b1 a0
  have h3 : a * (-B) ≤ a * b := Int.mul_le_mul_of_nonneg_left b0 a0
  rw [Int.mul_neg] at h3
  omega
/-- Currents that are small enough. -/
def Small (S : List Src) : Prop := S.length ≤ 1000 ∧ ∀ x ∈ S, -100000000 ≤ x.2 ∧ x.2 ≤ 100000000
theorem fluxP_bd (p : Int × Int) : ∀ (S : List Src), (∀ x ∈ S, -100000000 ≤ x.2 ∧ x.2 ≤ 100000000) → -(25000000000000 * (S.length : Int)) ≤ fluxP p S ∧ fluxP p S ≤ 25000000000000 * (S.length : Int)
  | [], _ => by simp [fluxP]
  | x :: r, h => by
    have h1 := fluxP_bd p r (fun y hy => h y (List.mem_cons_of_mem _ hy))
    have h2 := h x (by simp)
    have h3 := infl_bd p.1 p.2 x.1.1 x.1.2
    have h4 := mul_bd h3.1 h3.2 h2.1 h2.2
    simp only [fluxP, List.length_cons]
    omega
theorem Small.bd {S : List Src} (h : Small S) (p : Int × Int) : -25000000000000000 ≤ fluxP p S ∧ fluxP p S ≤ 25000000000000000 := by
  have h1 := fluxP_bd p S h.2
  have h2 := h.1
  omega
theorem fluxW_eq (p : Int × Int) : ∀ (S : List Src) (s : Int), (∀ x ∈ S, -100000000 ≤ x.2 ∧ x.2 ≤ 100000000) → -(25000000000000000 : Int) ≤ s - 25000000000000 * (S.length : Int) → s + 25000000000000 * (S.length : Int) ≤ 25000000000000000 → fluxW p s S = s + fluxP p S
  | [], s, _, _, _ => by simp [fluxW, fluxP]
  | x :: r, s, h, h0, h1 => by
    have h2 := h x (by simp)
    have h3 := infl_bd p.1 p.2 x.1.1 x.1.2
    have h4 := mul_bd h3.1 h3.2 h2.1 h2.2
    simp only [List.length_cons] at h0 h1
    simp only [fluxW, fluxP]
    have e1 : wrap64 (infl p.1 p.2 x.1.1 x.1.2 * x.2) = infl p.1 p.2 x.1.1 x.1.2 * x.2 := IntWalk.wrap64_in _ (by omega)
    rw [e1, IntWalk.wrap64_in _ (by omega), fluxW_eq p r _ (fun y hy => h y (List.mem_cons_of_mem _ hy)) (by omega) (by omega)]
    omega
theorem fluxW_plain {S : List Src} (h : Small S) (p : Int × Int) : fluxW p 0 S = fluxP p S := by
  have h1 := h.1
  rw [fluxW_eq p S 0 h.2 (by omega) (by omega)]; omega

theorem eachGo_all {α : Type} {chk : α → List α → Int} : ∀ (l pre : List α), eachGo chk pre l = 0 → ∀ x ∈ l, ∃ e, chk x e = 0
  | [], _, _, x, hx => by cases hx
  | y :: r, pre, h, x, hx => by
    unfold eachGo at h
    by_cases hc : chk y pre = 0
    · rw [if_pos hc] at h
      rcases List.mem_cons.1 hx with rfl | hx
      · exact ⟨pre, hc⟩
      · exact eachGo_all r _ h x hx
    · rw [if_neg hc] at h; exact absurd h hc
theorem eachC_all {α : Type} {chk : α → List α → Int} {most : Int} {l : List α} (h : eachC chk most l = 0) : (l.length : Int) ≤ most ∧ ∀ x ∈ l, ∃ e, chk x e = 0 := by
  unfold eachC at h
  by_cases hm : most < l.length
  · rw [if_pos hm] at h; simp at h
  · rw [if_neg hm] at h; exact ⟨by omega, eachGo_all _ _ h⟩
theorem near_iff {r z f : Int} : nearB r z f = true ↔ (-f ≤ r ∧ r ≤ f) ∧ -f ≤ z ∧ z ≤ f := by simp [nearB, wthn]
theorem coil_ok {c : CoilD} {e : List CoilD} (h : coilC c e = 0) : (1 ≤ c.turns ∧ c.turns ≤ 100) ∧ (-60 ≤ c.r ∧ c.r ≤ 60) ∧ -60 ≤ c.z ∧ c.z ≤ 60 := by
  unfold coilC at h
  split at h
  · split at h
    · simp at h
    · have h1 := rng_zero h
      simp only [Bool.and_eq_true] at h1
      exact ⟨wthn_iff.1 h1.2.1, near_iff.1 h1.1⟩
  · simp at h
theorem shell_ok {c : ShellD} {e : List ShellD} (h : shellC c e = 0) : (-60 ≤ c.r ∧ c.r ≤ 60) ∧ -60 ≤ c.z ∧ c.z ≤ 60 := by
  unfold shellC at h
  have h1 := rng_zero h
  simp only [Bool.and_eq_true] at h1
  exact near_iff.1 h1.1
theorem sensor_ok {c : SensorD} {e : List SensorD} (h : sensorC c e = 0) : (1 ≤ c.kind ∧ c.kind ≤ 3) ∧ ((-60 ≤ c.r ∧ c.r ≤ 60) ∧ -60 ≤ c.z ∧ c.z ≤ 60) ∧ 0 ≤ c.error ∧ c.error ≤ 1000000000 := by
  unfold sensorC at h
  split at h
  · split at h
    · simp at h
    · have h1 := rng_zero h
      simp only [Bool.and_eq_true] at h1
      exact ⟨wthn_iff.1 h1.1, near_iff.1 h1.2.1, wthn_iff.1 h1.2.2⟩
  · simp at h
/-- What a machine without an error is. -/
structure Sound (M : MachD) : Prop where
  coils : (M.coils.length : Int) ≤ 12 ∧ ∀ x ∈ M.coils, (1 ≤ x.turns ∧ x.turns ≤ 100) ∧ (-60 ≤ x.r ∧ x.r ≤ 60) ∧ -60 ≤ x.z ∧ x.z ≤ 60
  shells : (M.shells.length : Int) ≤ 16 ∧ ∀ x ∈ M.shells, (-60 ≤ x.r ∧ x.r ≤ 60) ∧ -60 ≤ x.z ∧ x.z ≤ 60
  sensors : (M.sensors.length : Int) ≤ 24 ∧ ∀ x ∈ M.sensors, (1 ≤ x.kind ∧ x.kind ≤ 3) ∧ ((-60 ≤ x.r ∧ x.r ≤ 60) ∧ -60 ≤ x.z ∧ x.z ≤ 60) ∧ 0 ≤ x.error ∧ x.error ≤ 1000000000
  grid : M.grid.Fine
theorem sound_of {M : MachD} (h : checkC M = 0) : Sound M := by
  have h1 := (orL_zero (orL_zero h).2)
  have h2 := orL_zero h1.2
  have h6 := (orL_zero (orL_zero (orL_zero h2.2).2).2).1
  have c := eachC_all h1.1
  have s := eachC_all h2.1
  have q := eachC_all h6
  exact ⟨⟨c.1, fun x hx => (c.2 x hx).elim fun e he => coil_ok he⟩, ⟨s.1, fun x hx => (s.2 x hx).elim fun e he => shell_ok he⟩, ⟨q.1, fun x hx => (q.2 x hx).elim fun e he => sensor_ok he⟩, fine_grid (grid_of h)⟩
/-- What currents that are valid for a machine are. -/
structure Fit2 (M : MachD) (C : CurD) : Prop where
  check : checkC M = 0
  coils : C.coils.length = M.coils.length ∧ ∀ x ∈ C.coils, -1000000 ≤ x ∧ x ≤ 1000000
  shells : C.shells.length = M.shells.length ∧ ∀ x ∈ C.shells, -1000000 ≤ x ∧ x ≤ 1000000
  plasma : (C.plasma.length : Int) = M.grid.nr * M.grid.nz ∧ ∀ x ∈ C.plasma, 0 ≤ x ∧ x ≤ 1000000
  total : tot 0 C.plasma ≤ 1000000
theorem allW_iff {l : List Int} {a b : Int} : allW l a b = true ↔ ∀ x ∈ l, a ≤ x ∧ x ≤ b := by
  unfold allW; rw [List.all_eq_true]
  exact ⟨fun h x hx => wthn_iff.1 (h x hx), fun h x hx => wthn_iff.2 (h x hx)⟩
theorem fit2_iff {M : MachD} {C : CurD} : validC M C = true ↔ Fit2 M C := by
  unfold validC
  simp only [Bool.and_eq_true, decide_eq_true_eq, allW_iff]
  exact ⟨fun ⟨h0, h1, h2, h3, h4, h5, h6, h7⟩ => ⟨h0, ⟨h1, h2⟩, ⟨h3, h4⟩, ⟨h5, h6⟩, h7⟩, fun h => ⟨h.check, h.coils.1, h.coils.2, h.shells.1, h.shells.2, h.plasma.1, h.plasma.2, h.total⟩⟩
/-- All that makes flux in a machine with its currents. -/
def srcM (M : MachD) (C : CurD) : List Src := srcL M.grid M.coils M.shells C.coils C.shells C.plasma
theorem small_of {M : MachD} {C : CurD} (h : Fit2 M C) : Small (srcM M C) := by
  have hs := sound_of h.check
  have hc := cells_fine hs.grid
  have hp := h.plasma.1
  refine ⟨?_, fun x hx => ?_⟩
  · unfold srcM; rw [srcL_length h.coils.1 h.shells.1]; have := hs.coils.1; have := hs.shells.1; omega
  · unfold srcM srcL at hx
    rcases List.mem_append.1 hx with hx | hx
    · obtain ⟨k, hk, e⟩ := List.mem_iff_getElem.1 hx
      simp at e
      simp at hk
      have h1 := hs.coils.2 _ (List.getElem_mem (show k < M.coils.length by omega))
      have h2 := h.coils.2 _ (List.getElem_mem (show k < C.coils.length by omega))
      have h3 := mul_bd (show 0 ≤ M.coils[k].turns by omega) h1.1.2 h2.1 h2.2
      rw [← e]; dsimp only; omega
    · rcases List.mem_append.1 hx with hx | hx
      · obtain ⟨k, hk, e⟩ := List.mem_iff_getElem.1 hx
        simp at e
        simp at hk
        have h2 := h.shells.2 _ (List.getElem_mem (show k < C.shells.length by omega))
        rw [← e]; dsimp only; omega
      · unfold cellSrc at hx
        obtain ⟨k, hk, e⟩ := List.mem_map.1 hx
        rw [List.mem_range] at hk
        have h2 := h.plasma.2 _ (List.getElem_mem hk)
        rw [← e]; dsimp only
        rw [List.getElem?_eq_getElem hk]; simp only [Option.getD_some]; omega

set_option maxHeartbeats 2000000 in
theorem fluxAt_any (R : MachR) (M : MachD) (Q : CurR) (C : CurD) (p0 p1 : Int) (w : World) (hM : IsM w R M) (hC : IsC w Q C) (hv : Fit2 M C) :
    Calls Tryd.prog 59 #[.agg (machCells R M), Q.v, .agg #[.int .i64 p0, .int .i64 p1]] w (Ret (.int .i64 (fluxP (p0, p1) (srcM M C))) w) := by
  rw [← fluxW_plain (small_of hv)]
  have hs := sound_of hv.check
  have hc := cells_fine hs.grid
  have hla := hM.coils.1
  have hlb := hM.shells.1
  have hlc := hC.plasma.1
  have h1 := hs.coils.1
  have h2 := hs.shells.1
  have h3 := hv.plasma.1
  exact fluxAt_any0 M.name R.A R.B R.C R.D R.la R.ca R.lb R.cb R.lc R.cc R.ld R.cd M.grid hs.grid Q.A Q.B Q.C Q.la Q.ca Q.lb Q.cb Q.lc Q.cc M.coils M.shells C.coils C.shells C.plasma p0 p1 w
    hM.coils hM.shells hC.coils hC.shells hC.plasma hv.coils.1 hv.shells.1 (by omega) (by omega) (by omega)
    (fun k c x hc hx => by
      have t := hs.coils.2 c (List.mem_of_getElem? hc)
      have u := hv.coils.2 x (List.mem_of_getElem? hx)
      have b := mul_bd (show 0 ≤ c.turns by omega) t.1.2 u.1 u.2
      exact IntWalk.i64_in _ (by omega))

end Go.Proofs.YtfpjhobhmcfpnaaDoor
end
