import Derived.Test.YtogcjgjhmlifgaaGreatOAG
import Derived.Test.YtogcjgjhmlifgaaGreatOAI
import Derived.Test.YtogcjgjhmlifgaaGreatOAK
import Derived.Test.YtogcjgjhmlifgaaGreatRows
import Derived.KernelRfl
import Derived.Laws.StructEq
namespace Go.Proofs.YtogcjgjhmlifgaaGreat
set_option linter.unusedVariables false
set_option linter.unusedSimpArgs false
section
open Go.RowKit
theorem rng_zero {b : Bool} (h : rng b = 0) : b = true := by unfold rng at h; split at h <;> simp_all
theorem orL_zero {x : Int} {r : List Int} (h : orL (x :: r) = 0) : x = 0 ∧ orL r = 0 := by
  have : (if x = 0 then orL r else x) = 0 := h
  split at this
  · exact ⟨‹_›, this⟩
  · exact absurd this ‹_›
theorem grid_of {M : MachD} (h : checkC M = 0) : gridC M.grid = 0 := (orL_zero (orL_zero (orL_zero (orL_zero (orL_zero h).2).2).2).2).1
theorem fine_grid {g : GridD} (h : gridC g = 0) : g.Fine := by
  unfold gridC at h
  split at h
  · split at h
    · exact fine_of ‹_› ‹_›
    · cases h
  · cases h
theorem cells_fine {g : GridD} (h : g.Fine) : 1 ≤ g.nr * g.nz ∧ g.nr * g.nz ≤ 64 := by
  have hp := mul_small (x := 8) (y := 8) (show 0 ≤ g.nr by have := h.n0; omega) h.n1 (show 0 ≤ g.nz by have := h.k0; omega) h.k1
  have h3 := Int.mul_le_mul h.n0 h.k0 (by omega) (show 0 ≤ g.nr by have := h.n0; omega)
  omega
theorem int_eq (a b : Nat) : (((a : Int) == b) = decide (a = b)) := by
  by_cases h : a = b
  · subst h; simp
  · rw [decide_eq_false h, beq_eq_false_iff_ne]; omega
set_option maxRecDepth 100000 in
theorem validCurrents_any (R : MachR) (M : MachD) (Q : CurR) (C : CurD) (w : World) (hM : IsM w R M) (hC : IsC w Q C) : Calls Tryz.prog 42 #[(.agg (machCells R M)), Q.v] w (Ret (.bool (validC M C)) w) := by
  have la := hM.coils.1
  have lb := hM.shells.1
  have na := hC.coils.1
  have nb := hC.shells.1
  have nc := hC.plasma.1
  refine calls_ax (vs := [(.agg (machCells R M)), Q.v]) Tryz.func42 rfl rfl ?_
  refine ac_seq (ac_region ?_)
  refine al_new (fun b => .pointer (some ⟨b, 0, none⟩)) (r_box rfl rfl) rfl rfl rfl ?_
  intro b1
  refine al_new (fun b => .pointer (some ⟨b, 0, none⟩)) (r_box rfl rfl) rfl rfl rfl ?_
  intro b2
  refine al_p (q_assign rfl) (al_end (aq_then ?_))
  refine ac_seq (ac_draw 50 (by kernel_rfl) (by kernel_rfl) ?_)
  refine ah_t 0 (fun w9 hs => hs) rfl rfl (by kernel_rfl) (q_loadAll (i := 1) rfl rfl Tryz.isAgg29 Tryz.sizeOf29 rfl) (ah_one 1 rfl (by kernel_rfl) (fun hok1 hcl1 => ?_))
  refine al_call Tryz.call88 (.cons rfl .nil) rfl rfl (fun w1 hs1 => ?_)
  refine (check_any R M _ (hM.below hs1.below)).mono ?_
  rintro e u1 ⟨rfl, hb_1⟩
  refine ⟨_, rfl, hb_1, ?_⟩
  clear hs1
  refine al_end (ah_back hok1 hcl1 (fun w9 hs => (hs.fewer 1 rfl)) ?_)
  refine ah_t 2 (fun w9 hs => (hs.fewer 1 rfl)) rfl rfl (by kernel_rfl) (q_eql rfl rfl) (ah_t 3 (fun w9 hs => (hs.fewer 1 rfl)) rfl rfl (by kernel_rfl) (q_move rfl) ?_)
  refine ah_split 8 rfl (fun hb1 => ?_) (fun hb1 => ?_)
  · have q1 : checkC M = 0 := of_decide_eq_true hb1
    have hcf := cells_fine (fine_grid (grid_of q1))
    refine ah_t 4 (fun w9 hs => (hs.fewer 1 rfl)) rfl rfl (by kernel_rfl) (q_fieldAddr 0 rfl Tryz.runUnderlying32 rfl Tryz.sizeOf30 (by decide) rfl) (ah_t 5 (fun w9 hs => (hs.fewer 1 rfl)) rfl rfl (by kernel_rfl) (q_load (i := 0) rfl rfl rfl Tryz.isAgg30) (ah_t 6 (fun w9 hs => (hs.fewer 1 rfl)) rfl rfl (by kernel_rfl) (q_lenS rfl Tryz.runUnderlying30) ?_))
    refine ah_t 7 (fun w9 hs => (hs.fewer 1 rfl)) rfl rfl (by kernel_rfl) (q_fieldAddr 1 rfl Tryz.runUnderlying29 rfl Tryz.sizeOf22 (by decide) rfl) (ah_t 8 (fun w9 hs => (hs.fewer 1 rfl)) rfl rfl (by kernel_rfl) (q_load (i := 1) rfl rfl rfl Tryz.isAgg22) (ah_t 9 (fun w9 hs => (hs.fewer 1 rfl)) rfl rfl (by kernel_rfl) (q_lenS rfl Tryz.runUnderlying22) (ah_t 10 (fun w9 hs => (hs.fewer 1 rfl)) rfl rfl (by kernel_rfl) (q_eql rfl rfl) (ah_t 11 (fun w9 hs => (hs.fewer 1 rfl)) rfl rfl (by kernel_rfl) (q_pickT rfl rfl) ?_))))
    refine ah_t 12 (fun w9 hs => (hs.fewer 1 rfl)) rfl rfl (by kernel_rfl) (q_move rfl) ?_
    refine ah_split 17 rfl (fun hb2 => ?_) (fun hb2 => ?_)
    · have q2 : Q.la = R.la := by have := of_decide_eq_true hb2; omega
      refine ah_t 13 (fun w9 hs => (hs.fewer 1 rfl)) rfl rfl (by kernel_rfl) (q_fieldAddr 0 rfl Tryz.runUnderlying32 rfl Tryz.sizeOf30 (by decide) rfl) (ah_t 14 (fun w9 hs => (hs.fewer 1 rfl)) rfl rfl (by kernel_rfl) (q_load (i := 0) rfl rfl rfl Tryz.isAgg30) (ah_one 15 rfl (by kernel_rfl) (fun hok2 hcl2 => ?_)))
      refine al_call Tryz.call89 (.cons rfl (.cons rfl (.cons rfl .nil))) rfl rfl (fun w2 hs2 => ?_)
      refine (allWithin_any Q.A Q.la Q.ca C.coils (-1000000) 1000000 _ (hC.coils.below hs2.below) hC.ka).mono ?_
      rintro e u2 ⟨rfl, hb_2⟩
      refine ⟨_, rfl, hb_2, ?_⟩
      clear hs2
      refine al_end (ah_back hok2 hcl2 (fun w9 hs => (hs.fewer 2 rfl)) ?_)
      refine ah_t 16 (fun w9 hs => (hs.fewer 2 rfl)) rfl rfl (by kernel_rfl) (q_pickT rfl rfl) (ah_t 17 (fun w9 hs => (hs.fewer 2 rfl)) rfl rfl (by kernel_rfl) (q_move rfl) ?_)
      refine ah_split 22 rfl (fun hb3 => ?_) (fun hb3 => ?_)
      · have q3 := hb3
        refine ah_t 18 (fun w9 hs => (hs.fewer 2 rfl)) rfl rfl (by kernel_rfl) (q_fieldAddr 1 rfl Tryz.runUnderlying32 rfl Tryz.sizeOf30 (by decide) rfl) (ah_t 19 (fun w9 hs => (hs.fewer 2 rfl)) rfl rfl (by kernel_rfl) (q_load (i := 0) rfl rfl rfl Tryz.isAgg30) (ah_t 20 (fun w9 hs => (hs.fewer 2 rfl)) rfl rfl (by kernel_rfl) (q_lenS rfl Tryz.runUnderlying30) ?_))
        refine ah_t 21 (fun w9 hs => (hs.fewer 2 rfl)) rfl rfl (by kernel_rfl) (q_fieldAddr 2 rfl Tryz.runUnderlying29 rfl Tryz.sizeOf23 (by decide) rfl) (ah_t 22 (fun w9 hs => (hs.fewer 2 rfl)) rfl rfl (by kernel_rfl) (q_load (i := 1) rfl rfl rfl Tryz.isAgg23) (ah_t 23 (fun w9 hs => (hs.fewer 2 rfl)) rfl rfl (by kernel_rfl) (q_lenS rfl Tryz.runUnderlying23) (ah_t 24 (fun w9 hs => (hs.fewer 2 rfl)) rfl rfl (by kernel_rfl) (q_eql rfl rfl) (ah_t 25 (fun w9 hs => (hs.fewer 2 rfl)) rfl rfl (by kernel_rfl) (q_pickT rfl rfl) ?_))))
        refine ah_t 26 (fun w9 hs => (hs.fewer 2 rfl)) rfl rfl (by kernel_rfl) (q_move rfl) ?_
        refine ah_split 31 rfl (fun hb4 => ?_) (fun hb4 => ?_)
        · have q4 : Q.lb = R.lb := by have := of_decide_eq_true hb4; omega
          refine ah_t 27 (fun w9 hs => (hs.fewer 2 rfl)) rfl rfl (by kernel_rfl) (q_fieldAddr 1 rfl Tryz.runUnderlying32 rfl Tryz.sizeOf30 (by decide) rfl) (ah_t 28 (fun w9 hs => (hs.fewer 2 rfl)) rfl rfl (by kernel_rfl) (q_load (i := 0) rfl rfl rfl Tryz.isAgg30) (ah_one 29 rfl (by kernel_rfl) (fun hok3 hcl3 => ?_)))
          refine al_call Tryz.call89 (.cons rfl (.cons rfl (.cons rfl .nil))) rfl rfl (fun w3 hs3 => ?_)
          refine (allWithin_any Q.B Q.lb Q.cb C.shells (-1000000) 1000000 _ (hC.shells.below hs3.below) hC.kb).mono ?_
          rintro e u3 ⟨rfl, hb_3⟩
          refine ⟨_, rfl, hb_3, ?_⟩
          clear hs3
          refine al_end (ah_back hok3 hcl3 (fun w9 hs => (hs.fewer 3 rfl)) ?_)
          refine ah_t 30 (fun w9 hs => (hs.fewer 3 rfl)) rfl rfl (by kernel_rfl) (q_pickT rfl rfl) (ah_t 31 (fun w9 hs => (hs.fewer 3 rfl)) rfl rfl (by kernel_rfl) (q_move rfl) ?_)
          refine ah_split 36 rfl (fun hb5 => ?_) (fun hb5 => ?_)
          · have q5 := hb5
            refine ah_t 32 (fun w9 hs => (hs.fewer 3 rfl)) rfl rfl (by kernel_rfl) (q_fieldAddr 2 rfl Tryz.runUnderlying32 rfl Tryz.sizeOf30 (by decide) rfl) (ah_t 33 (fun w9 hs => (hs.fewer 3 rfl)) rfl rfl (by kernel_rfl) (q_load (i := 0) rfl rfl rfl Tryz.isAgg30) (ah_t 34 (fun w9 hs => (hs.fewer 3 rfl)) rfl rfl (by kernel_rfl) (q_lenS rfl Tryz.runUnderlying30) ?_))
            refine ah_t 35 (fun w9 hs => (hs.fewer 3 rfl)) rfl rfl (by kernel_rfl) (q_fieldAddr 4 rfl Tryz.runUnderlying29 rfl Tryz.sizeOf26 (by decide) rfl) (ah_t 36 (fun w9 hs => (hs.fewer 3 rfl)) rfl rfl (by kernel_rfl) (q_loadSub (i := 1) rfl rfl Tryz.isAgg26 Tryz.sizeOf26 .k4 .k5) (ah_one 37 rfl (by kernel_rfl) (fun hok4 hcl4 => ?_)))
            refine al_call Tryz.call90 (.cons rfl .nil) rfl rfl (fun w4 hs4 => ?_)
            refine (cells_any M.grid _ (by omega) (by omega)).mono ?_
            rintro e u4 ⟨rfl, hb_4⟩
            refine ⟨_, rfl, hb_4, ?_⟩
            clear hs4
            refine al_end (ah_back hok4 hcl4 (fun w9 hs => (hs.fewer 4 rfl)) ?_)
            refine ah_t 38 (fun w9 hs => (hs.fewer 4 rfl)) rfl rfl (by kernel_rfl) (q_eql rfl rfl) (ah_t 39 (fun w9 hs => (hs.fewer 4 rfl)) rfl rfl (by kernel_rfl) (q_pickT rfl rfl) (ah_t 40 (fun w9 hs => (hs.fewer 4 rfl)) rfl rfl (by kernel_rfl) (q_move rfl) ?_))
            refine ah_split 45 rfl (fun hb6 => ?_) (fun hb6 => ?_)
            · have q6 : (Q.lc : Int) = M.grid.nr * M.grid.nz := of_decide_eq_true hb6
              refine ah_t 41 (fun w9 hs => (hs.fewer 4 rfl)) rfl rfl (by kernel_rfl) (q_fieldAddr 2 rfl Tryz.runUnderlying32 rfl Tryz.sizeOf30 (by decide) rfl) (ah_t 42 (fun w9 hs => (hs.fewer 4 rfl)) rfl rfl (by kernel_rfl) (q_load (i := 0) rfl rfl rfl Tryz.isAgg30) (ah_one 43 rfl (by kernel_rfl) (fun hok5 hcl5 => ?_)))
              refine al_call Tryz.call89 (.cons rfl (.cons rfl (.cons rfl .nil))) rfl rfl (fun w5 hs5 => ?_)
              refine (allWithin_any Q.C Q.lc Q.cc C.plasma 0 1000000 _ (hC.plasma.below hs5.below) hC.kc).mono ?_
              rintro e u5 ⟨rfl, hb_5⟩
              refine ⟨_, rfl, hb_5, ?_⟩
              clear hs5
              refine al_end (ah_back hok5 hcl5 (fun w9 hs => (hs.fewer 5 rfl)) ?_)
              refine ah_t 44 (fun w9 hs => (hs.fewer 5 rfl)) rfl rfl (by kernel_rfl) (q_pickT rfl rfl) (ah_t 45 (fun w9 hs => (hs.fewer 5 rfl)) rfl rfl (by kernel_rfl) (q_move rfl) ?_)
              refine ah_split 50 rfl (fun hb7 => ?_) (fun hb7 => ?_)
              · have q7 := hb7
                refine ah_t 46 (fun w9 hs => (hs.fewer 5 rfl)) rfl rfl (by kernel_rfl) (q_loadAll (i := 0) rfl rfl Tryz.isAgg32 Tryz.sizeOf32 rfl) (ah_one 47 rfl (by kernel_rfl) (fun hok6 hcl6 => ?_))
                refine al_call Tryz.call91 (.cons rfl .nil) rfl rfl (fun w6 hs6 => ?_)
                refine (total_any Q.A Q.B Q.C Q.la Q.ca Q.lb Q.cb Q.lc Q.cc C.plasma _ (hC.plasma.below hs6.below) hC.kc).mono ?_
                rintro e u6 ⟨rfl, hb_6⟩
                refine ⟨_, rfl, hb_6, ?_⟩
                clear hs6
                refine al_end (ah_back hok6 hcl6 (fun w9 hs => (hs.fewer 6 rfl)) ?_)
                refine ah_t 48 (fun w9 hs => (hs.fewer 6 rfl)) rfl rfl (by kernel_rfl) (q_leq rfl rfl) (ah_t 49 (fun w9 hs => (hs.fewer 6 rfl)) rfl rfl (by kernel_rfl) (q_pickT rfl rfl) (ah_one 50 rfl (by kernel_rfl) (fun hok7 hcl7 => ?_)))
                refine al_p (q_assign rfl) (al_end (ah_last (by kernel_rfl) ?_))
                refine aq_then (ac_ret (ret1 Tryz.results42 rfl (fun w9 hs => ?_)))
                refine ⟨?_, hs.below⟩; simp [validC, na, la, nb, lb, nc, q1, q2, q3, q4, q5, q6, q7]
              · have q7 := hb7
                refine ah_s 46 (fun w9 hs => (hs.fewer 5 rfl)) rfl rfl (by kernel_rfl) (ah_s 47 (fun w9 hs => (hs.fewer 5 rfl)) rfl rfl (by kernel_rfl) (ah_s 48 (fun w9 hs => (hs.fewer 5 rfl)) rfl rfl (by kernel_rfl) (ah_t 49 (fun w9 hs => (hs.fewer 5 rfl)) rfl rfl (by kernel_rfl) (q_pickF rfl rfl) (ah_one 50 rfl (by kernel_rfl) (fun hok8 hcl8 => ?_)))))
                refine al_p (q_assign rfl) (al_end (ah_last (by kernel_rfl) ?_))
                refine aq_then (ac_ret (ret1 Tryz.results42 rfl (fun w9 hs => ?_)))
                refine ⟨?_, hs.below⟩; simp [validC, na, la, nb, lb, nc, q1, q2, q3, q4, q5, q6, q7]
            · have q6 : ¬ (Q.lc : Int) = M.grid.nr * M.grid.nz := of_decide_eq_false hb6
              refine ah_s 41 (fun w9 hs => (hs.fewer 4 rfl)) rfl rfl (by kernel_rfl) (ah_s 42 (fun w9 hs => (hs.fewer 4 rfl)) rfl rfl (by kernel_rfl) (ah_s 43 (fun w9 hs => (hs.fewer 4 rfl)) rfl rfl (by kernel_rfl) (ah_t 44 (fun w9 hs => (hs.fewer 4 rfl)) rfl rfl (by kernel_rfl) (q_pickF rfl rfl) (ah_t 45 (fun w9 hs => (hs.fewer 4 rfl)) rfl rfl (by kernel_rfl) (q_move rfl) ?_))))
              refine ah_s 46 (fun w9 hs => (hs.fewer 4 rfl)) rfl rfl (by kernel_rfl) (ah_s 47 (fun w9 hs => (hs.fewer 4 rfl)) rfl rfl (by kernel_rfl) (ah_s 48 (fun w9 hs => (hs.fewer 4 rfl)) rfl rfl (by kernel_rfl) (ah_t 49 (fun w9 hs => (hs.fewer 4 rfl)) rfl rfl (by kernel_rfl) (q_pickF rfl rfl) (ah_one 50 rfl (by kernel_rfl) (fun hok9 hcl9 => ?_)))))
              refine al_p (q_assign rfl) (al_end (ah_last (by kernel_rfl) ?_))
              refine aq_then (ac_ret (ret1 Tryz.results42 rfl (fun w9 hs => ?_)))
              refine ⟨?_, hs.below⟩; simp [validC, na, la, nb, lb, nc, q1, q2, q3, q4, q5, q6]
          · have q5 := hb5
            refine ah_s 32 (fun w9 hs => (hs.fewer 3 rfl)) rfl rfl (by kernel_rfl) (ah_s 33 (fun w9 hs => (hs.fewer 3 rfl)) rfl rfl (by kernel_rfl) (ah_s 34 (fun w9 hs => (hs.fewer 3 rfl)) rfl rfl (by kernel_rfl) (ah_s 35 (fun w9 hs => (hs.fewer 3 rfl)) rfl rfl (by kernel_rfl) (ah_s 36 (fun w9 hs => (hs.fewer 3 rfl)) rfl rfl (by kernel_rfl) ?_))))
            refine ah_s 37 (fun w9 hs => (hs.fewer 3 rfl)) rfl rfl (by kernel_rfl) (ah_s 38 (fun w9 hs => (hs.fewer 3 rfl)) rfl rfl (by kernel_rfl) (ah_t 39 (fun w9 hs => (hs.fewer 3 rfl)) rfl rfl (by kernel_rfl) (q_pickF rfl rfl) (ah_t 40 (fun w9 hs => (hs.fewer 3 rfl)) rfl rfl (by kernel_rfl) (q_move rfl) (ah_s 41 (fun w9 hs => (hs.fewer 3 rfl)) rfl rfl (by kernel_rfl) ?_))))
            refine ah_s 42 (fun w9 hs => (hs.fewer 3 rfl)) rfl rfl (by kernel_rfl) (ah_s 43 (fun w9 hs => (hs.fewer 3 rfl)) rfl rfl (by kernel_rfl) (ah_t 44 (fun w9 hs => (hs.fewer 3 rfl)) rfl rfl (by kernel_rfl) (q_pickF rfl rfl) (ah_t 45 (fun w9 hs => (hs.fewer 3 rfl)) rfl rfl (by kernel_rfl) (q_move rfl) (ah_s 46 (fun w9 hs => (hs.fewer 3 rfl)) rfl rfl (by kernel_rfl) ?_))))
            refine ah_s 47 (fun w9 hs => (hs.fewer 3 rfl)) rfl rfl (by kernel_rfl) (ah_s 48 (fun w9 hs => (hs.fewer 3 rfl)) rfl rfl (by kernel_rfl) (ah_t 49 (fun w9 hs => (hs.fewer 3 rfl)) rfl rfl (by kernel_rfl) (q_pickF rfl rfl) (ah_one 50 rfl (by kernel_rfl) (fun hok10 hcl10 => ?_))))
            refine al_p (q_assign rfl) (al_end (ah_last (by kernel_rfl) ?_))
            refine aq_then (ac_ret (ret1 Tryz.results42 rfl (fun w9 hs => ?_)))
            refine ⟨?_, hs.below⟩; simp [validC, na, la, nb, lb, nc, q1, q2, q3, q4, q5]
        · have q4 : ¬ Q.lb = R.lb := by have := of_decide_eq_false hb4; omega
          refine ah_s 27 (fun w9 hs => (hs.fewer 2 rfl)) rfl rfl (by kernel_rfl) (ah_s 28 (fun w9 hs => (hs.fewer 2 rfl)) rfl rfl (by kernel_rfl) (ah_s 29 (fun w9 hs => (hs.fewer 2 rfl)) rfl rfl (by kernel_rfl) (ah_t 30 (fun w9 hs => (hs.fewer 2 rfl)) rfl rfl (by kernel_rfl) (q_pickF rfl rfl) (ah_t 31 (fun w9 hs => (hs.fewer 2 rfl)) rfl rfl (by kernel_rfl) (q_move rfl) ?_))))
          refine ah_s 32 (fun w9 hs => (hs.fewer 2 rfl)) rfl rfl (by kernel_rfl) (ah_s 33 (fun w9 hs => (hs.fewer 2 rfl)) rfl rfl (by kernel_rfl) (ah_s 34 (fun w9 hs => (hs.fewer 2 rfl)) rfl rfl (by kernel_rfl) (ah_s 35 (fun w9 hs => (hs.fewer 2 rfl)) rfl rfl (by kernel_rfl) (ah_s 36 (fun w9 hs => (hs.fewer 2 rfl)) rfl rfl (by kernel_rfl) ?_))))
          refine ah_s 37 (fun w9 hs => (hs.fewer 2 rfl)) rfl rfl (by kernel_rfl) (ah_s 38 (fun w9 hs => (hs.fewer 2 rfl)) rfl rfl (by kernel_rfl) (ah_t 39 (fun w9 hs => (hs.fewer 2 rfl)) rfl rfl (by kernel_rfl) (q_pickF rfl rfl) (ah_t 40 (fun w9 hs => (hs.fewer 2 rfl)) rfl rfl (by kernel_rfl) (q_move rfl) (ah_s 41 (fun w9 hs => (hs.fewer 2 rfl)) rfl rfl (by kernel_rfl) ?_))))
          refine ah_s 42 (fun w9 hs => (hs.fewer 2 rfl)) rfl rfl (by kernel_rfl) (ah_s 43 (fun w9 hs => (hs.fewer 2 rfl)) rfl rfl (by kernel_rfl) (ah_t 44 (fun w9 hs => (hs.fewer 2 rfl)) rfl rfl (by kernel_rfl) (q_pickF rfl rfl) (ah_t 45 (fun w9 hs => (hs.fewer 2 rfl)) rfl rfl (by kernel_rfl) (q_move rfl) (ah_s 46 (fun w9 hs => (hs.fewer 2 rfl)) rfl rfl (by kernel_rfl) ?_))))
          refine ah_s 47 (fun w9 hs => (hs.fewer 2 rfl)) rfl rfl (by kernel_rfl) (ah_s 48 (fun w9 hs => (hs.fewer 2 rfl)) rfl rfl (by kernel_rfl) (ah_t 49 (fun w9 hs => (hs.fewer 2 rfl)) rfl rfl (by kernel_rfl) (q_pickF rfl rfl) (ah_one 50 rfl (by kernel_rfl) (fun hok11 hcl11 => ?_))))
          refine al_p (q_assign rfl) (al_end (ah_last (by kernel_rfl) ?_))
          refine aq_then (aq_keepL [4] (.cons rfl .nil) ?_)
          refine aq_keepB (.drop (.drop .nil)) ?_
          refine ac_ret (ret1 Tryz.results42 rfl (fun w9 hs => ?_))
          refine ⟨?_, hs.below⟩; simp [validC, na, la, nb, lb, nc, q1, q2, q3, q4]
      · have q3 := hb3
        refine ah_s 18 (fun w9 hs => (hs.fewer 2 rfl)) rfl rfl (by kernel_rfl) (ah_s 19 (fun w9 hs => (hs.fewer 2 rfl)) rfl rfl (by kernel_rfl) (ah_s 20 (fun w9 hs => (hs.fewer 2 rfl)) rfl rfl (by kernel_rfl) (ah_s 21 (fun w9 hs => (hs.fewer 2 rfl)) rfl rfl (by kernel_rfl) (ah_s 22 (fun w9 hs => (hs.fewer 2 rfl)) rfl rfl (by kernel_rfl) ?_))))
        refine ah_s 23 (fun w9 hs => (hs.fewer 2 rfl)) rfl rfl (by kernel_rfl) (ah_s 24 (fun w9 hs => (hs.fewer 2 rfl)) rfl rfl (by kernel_rfl) (ah_t 25 (fun w9 hs => (hs.fewer 2 rfl)) rfl rfl (by kernel_rfl) (q_pickF rfl rfl) (ah_t 26 (fun w9 hs => (hs.fewer 2 rfl)) rfl rfl (by kernel_rfl) (q_move rfl) (ah_s 27 (fun w9 hs => (hs.fewer 2 rfl)) rfl rfl (by kernel_rfl) ?_))))
        refine ah_s 28 (fun w9 hs => (hs.fewer 2 rfl)) rfl rfl (by kernel_rfl) (ah_s 29 (fun w9 hs => (hs.fewer 2 rfl)) rfl rfl (by kernel_rfl) (ah_t 30 (fun w9 hs => (hs.fewer 2 rfl)) rfl rfl (by kernel_rfl) (q_pickF rfl rfl) (ah_t 31 (fun w9 hs => (hs.fewer 2 rfl)) rfl rfl (by kernel_rfl) (q_move rfl) (ah_s 32 (fun w9 hs => (hs.fewer 2 rfl)) rfl rfl (by kernel_rfl) ?_))))
        refine ah_s 33 (fun w9 hs => (hs.fewer 2 rfl)) rfl rfl (by kernel_rfl) (ah_s 34 (fun w9 hs => (hs.fewer 2 rfl)) rfl rfl (by kernel_rfl) (ah_s 35 (fun w9 hs => (hs.fewer 2 rfl)) rfl rfl (by kernel_rfl) (ah_s 36 (fun w9 hs => (hs.fewer 2 rfl)) rfl rfl (by kernel_rfl) (ah_s 37 (fun w9 hs => (hs.fewer 2 rfl)) rfl rfl (by kernel_rfl) ?_))))
        refine ah_s 38 (fun w9 hs => (hs.fewer 2 rfl)) rfl rfl (by kernel_rfl) (ah_t 39 (fun w9 hs => (hs.fewer 2 rfl)) rfl rfl (by kernel_rfl) (q_pickF rfl rfl) (ah_t 40 (fun w9 hs => (hs.fewer 2 rfl)) rfl rfl (by kernel_rfl) (q_move rfl) (ah_s 41 (fun w9 hs => (hs.fewer 2 rfl)) rfl rfl (by kernel_rfl) (ah_s 42 (fun w9 hs => (hs.fewer 2 rfl)) rfl rfl (by kernel_rfl) ?_))))
        refine ah_s 43 (fun w9 hs => (hs.fewer 2 rfl)) rfl rfl (by kernel_rfl) (ah_t 44 (fun w9 hs => (hs.fewer 2 rfl)) rfl rfl (by kernel_rfl) (q_pickF rfl rfl) (ah_t 45 (fun w9 hs => (hs.fewer 2 rfl)) rfl rfl (by kernel_rfl) (q_move rfl) (ah_s 46 (fun w9 hs => (hs.fewer 2 rfl)) rfl rfl (by kernel_rfl) (ah_s 47 (fun w9 hs => (hs.fewer 2 rfl)) rfl rfl (by kernel_rfl) ?_))))
        refine ah_s 48 (fun w9 hs => (hs.fewer 2 rfl)) rfl rfl (by kernel_rfl) (ah_t 49 (fun w9 hs => (hs.fewer 2 rfl)) rfl rfl (by kernel_rfl) (q_pickF rfl rfl) (ah_one 50 rfl (by kernel_rfl) (fun hok12 hcl12 => ?_)))
        refine al_p (q_assign rfl) (al_end (ah_last (by kernel_rfl) ?_))
        refine aq_then (ac_ret (ret1 Tryz.results42 rfl (fun w9 hs => ?_)))
        refine ⟨?_, hs.below⟩; simp [validC, na, la, nb, lb, nc, q1, q2, q3]
    · have q2 : ¬ Q.la = R.la := by have := of_decide_eq_false hb2; omega
      refine ah_s 13 (fun w9 hs => (hs.fewer 1 rfl)) rfl rfl (by kernel_rfl) (ah_s 14 (fun w9 hs => (hs.fewer 1 rfl)) rfl rfl (by kernel_rfl) (ah_s 15 (fun w9 hs => (hs.fewer 1 rfl)) rfl rfl (by kernel_rfl) (ah_t 16 (fun w9 hs => (hs.fewer 1 rfl)) rfl rfl (by kernel_rfl) (q_pickF rfl rfl) (ah_t 17 (fun w9 hs => (hs.fewer 1 rfl)) rfl rfl (by kernel_rfl) (q_move rfl) ?_))))
      refine ah_s 18 (fun w9 hs => (hs.fewer 1 rfl)) rfl rfl (by kernel_rfl) (ah_s 19 (fun w9 hs => (hs.fewer 1 rfl)) rfl rfl (by kernel_rfl) (ah_s 20 (fun w9 hs => (hs.fewer 1 rfl)) rfl rfl (by kernel_rfl) (ah_s 21 (fun w9 hs => (hs.fewer 1 rfl)) rfl rfl (by kernel_rfl) (ah_s 22 (fun w9 hs => (hs.fewer 1 rfl)) rfl rfl (by kernel_rfl) ?_))))
      refine ah_s 23 (fun w9 hs => (hs.fewer 1 rfl)) rfl rfl (by kernel_rfl) (ah_s 24 (fun w9 hs => (hs.fewer 1 rfl)) rfl rfl (by kernel_rfl) (ah_t 25 (fun w9 hs => (hs.fewer 1 rfl)) rfl rfl (by kernel_rfl) (q_pickF rfl rfl) (ah_t 26 (fun w9 hs => (hs.fewer 1 rfl)) rfl rfl (by kernel_rfl) (q_move rfl) (ah_s 27 (fun w9 hs => (hs.fewer 1 rfl)) rfl rfl (by kernel_rfl) ?_))))
      refine ah_s 28 (fun w9 hs => (hs.fewer 1 rfl)) rfl rfl (by kernel_rfl) (ah_s 29 (fun w9 hs => (hs.fewer 1 rfl)) rfl rfl (by kernel_rfl) (ah_t 30 (fun w9 hs => (hs.fewer 1 rfl)) rfl rfl (by kernel_rfl) (q_pickF rfl rfl) (ah_t 31 (fun w9 hs => (hs.fewer 1 rfl)) rfl rfl (by kernel_rfl) (q_move rfl) (ah_s 32 (fun w9 hs => (hs.fewer 1 rfl)) rfl rfl (by kernel_rfl) ?_))))
      refine ah_s 33 (fun w9 hs => (hs.fewer 1 rfl)) rfl rfl (by kernel_rfl) (ah_s 34 (fun w9 hs => (hs.fewer 1 rfl)) rfl rfl (by kernel_rfl) (ah_s 35 (fun w9 hs => (hs.fewer 1 rfl)) rfl rfl (by kernel_rfl) (ah_s 36 (fun w9 hs => (hs.fewer 1 rfl)) rfl rfl (by kernel_rfl) (ah_s 37 (fun w9 hs => (hs.fewer 1 rfl)) rfl rfl (by kernel_rfl) ?_))))
      refine ah_s 38 (fun w9 hs => (hs.fewer 1 rfl)) rfl rfl (by kernel_rfl) (ah_t 39 (fun w9 hs => (hs.fewer 1 rfl)) rfl rfl (by kernel_rfl) (q_pickF rfl rfl) (ah_t 40 (fun w9 hs => (hs.fewer 1 rfl)) rfl rfl (by kernel_rfl) (q_move rfl) (ah_s 41 (fun w9 hs => (hs.fewer 1 rfl)) rfl rfl (by kernel_rfl) (ah_s 42 (fun w9 hs => (hs.fewer 1 rfl)) rfl rfl (by kernel_rfl) ?_))))
      refine ah_s 43 (fun w9 hs => (hs.fewer 1 rfl)) rfl rfl (by kernel_rfl) (ah_t 44 (fun w9 hs => (hs.fewer 1 rfl)) rfl rfl (by kernel_rfl) (q_pickF rfl rfl) (ah_t 45 (fun w9 hs => (hs.fewer 1 rfl)) rfl rfl (by kernel_rfl) (q_move rfl) (ah_s 46 (fun w9 hs => (hs.fewer 1 rfl)) rfl rfl (by kernel_rfl) (ah_s 47 (fun w9 hs => (hs.fewer 1 rfl)) rfl rfl (by kernel_rfl) ?_))))
      refine ah_s 48 (fun w9 hs => (hs.fewer 1 rfl)) rfl rfl (by kernel_rfl) (ah_t 49 (fun w9 hs => (hs.fewer 1 rfl)) rfl rfl (by kernel_rfl) (q_pickF rfl rfl) (ah_one 50 rfl (by kernel_rfl) (fun hok13 hcl13 => ?_)))
      refine al_p (q_assign rfl) (al_end (ah_last (by kernel_rfl) ?_))
      refine aq_then (ac_ret (ret1 Tryz.results42 rfl (fun w9 hs => ?_)))
      refine ⟨?_, hs.below⟩; simp [validC, na, la, nb, lb, nc, q1, q2]
  · have q1 : ¬ checkC M = 0 := of_decide_eq_false hb1
    refine ah_s 4 (fun w9 hs => (hs.fewer 1 rfl)) rfl rfl (by kernel_rfl) (ah_s 5 (fun w9 hs => (hs.fewer 1 rfl)) rfl rfl (by kernel_rfl) (ah_s 6 (fun w9 hs => (hs.fewer 1 rfl)) rfl rfl (by kernel_rfl) (ah_s 7 (fun w9 hs => (hs.fewer 1 rfl)) rfl rfl (by kernel_rfl) (ah_s 8 (fun w9 hs => (hs.fewer 1 rfl)) rfl rfl (by kernel_rfl) ?_))))
    refine ah_s 9 (fun w9 hs => (hs.fewer 1 rfl)) rfl rfl (by kernel_rfl) (ah_s 10 (fun w9 hs => (hs.fewer 1 rfl)) rfl rfl (by kernel_rfl) (ah_t 11 (fun w9 hs => (hs.fewer 1 rfl)) rfl rfl (by kernel_rfl) (q_pickF rfl rfl) (ah_t 12 (fun w9 hs => (hs.fewer 1 rfl)) rfl rfl (by kernel_rfl) (q_move rfl) (ah_s 13 (fun w9 hs => (hs.fewer 1 rfl)) rfl rfl (by kernel_rfl) ?_))))
    refine ah_s 14 (fun w9 hs => (hs.fewer 1 rfl)) rfl rfl (by kernel_rfl) (ah_s 15 (fun w9 hs => (hs.fewer 1 rfl)) rfl rfl (by kernel_rfl) (ah_t 16 (fun w9 hs => (hs.fewer 1 rfl)) rfl rfl (by kernel_rfl) (q_pickF rfl rfl) (ah_t 17 (fun w9 hs => (hs.fewer 1 rfl)) rfl rfl (by kernel_rfl) (q_move rfl) (ah_s 18 (fun w9 hs => (hs.fewer 1 rfl)) rfl rfl (by kernel_rfl) ?_))))
    refine ah_s 19 (fun w9 hs => (hs.fewer 1 rfl)) rfl rfl (by kernel_rfl) (ah_s 20 (fun w9 hs => (hs.fewer 1 rfl)) rfl rfl (by kernel_rfl) (ah_s 21 (fun w9 hs => (hs.fewer 1 rfl)) rfl rfl (by kernel_rfl) (ah_s 22 (fun w9 hs => (hs.fewer 1 rfl)) rfl rfl (by kernel_rfl) (ah_s 23 (fun w9 hs => (hs.fewer 1 rfl)) rfl rfl (by kernel_rfl) ?_))))
    refine ah_s 24 (fun w9 hs => (hs.fewer 1 rfl)) rfl rfl (by kernel_rfl) (ah_t 25 (fun w9 hs => (hs.fewer 1 rfl)) rfl rfl (by kernel_rfl) (q_pickF rfl rfl) (ah_t 26 (fun w9 hs => (hs.fewer 1 rfl)) rfl rfl (by kernel_rfl) (q_move rfl) (ah_s 27 (fun w9 hs => (hs.fewer 1 rfl)) rfl rfl (by kernel_rfl) (ah_s 28 (fun w9 hs => (hs.fewer 1 rfl)) rfl rfl (by kernel_rfl) ?_))))
    refine ah_s 29 (fun w9 hs => (hs.fewer 1 rfl)) rfl rfl (by kernel_rfl) (ah_t 30 (fun w9 hs => (hs.fewer 1 rfl)) rfl rfl (by kernel_rfl) (q_pickF rfl rfl) (ah_t 31 (fun w9 hs => (hs.fewer 1 rfl)) rfl rfl (by kernel_rfl) (q_move rfl) (ah_s 32 (fun w9 hs => (hs.fewer 1 rfl)) rfl rfl (by kernel_rfl) (ah_s 33 (fun w9 hs => (hs.fewer 1 rfl)) rfl rfl (by kernel_rfl) ?_))))
    refine ah_s 34 (fun w9 hs => (hs.fewer 1 rfl)) rfl rfl (by kernel_rfl) (ah_s 35 (fun w9 hs => (hs.fewer 1 rfl)) rfl rfl (by kernel_rfl) (ah_s 36 (fun w9 hs => (hs.fewer 1 rfl)) rfl rfl (by kernel_rfl) (ah_s 37 (fun w9 hs => (hs.fewer 1 rfl)) rfl rfl (by kernel_rfl) (ah_s 38 (fun w9 hs => (hs.fewer 1 rfl)) rfl rfl (by kernel_rfl) ?_))))
    refine ah_t 39 (fun w9 hs => (hs.fewer 1 rfl)) rfl rfl (by kernel_rfl) (q_pickF rfl rfl) (ah_t 40 (fun w9 hs => (hs.fewer 1 rfl)) rfl rfl (by kernel_rfl) (q_move rfl) (ah_s 41 (fun w9 hs => (hs.fewer 1 rfl)) rfl rfl (by kernel_rfl) (ah_s 42 (fun w9 hs => (hs.fewer 1 rfl)) rfl rfl (by kernel_rfl) (ah_s 43 (fun w9 hs => (hs.fewer 1 rfl)) rfl rfl (by kernel_rfl) ?_))))
    refine ah_t 44 (fun w9 hs => (hs.fewer 1 rfl)) rfl rfl (by kernel_rfl) (q_pickF rfl rfl) (ah_t 45 (fun w9 hs => (hs.fewer 1 rfl)) rfl rfl (by kernel_rfl) (q_move rfl) (ah_s 46 (fun w9 hs => (hs.fewer 1 rfl)) rfl rfl (by kernel_rfl) (ah_s 47 (fun w9 hs => (hs.fewer 1 rfl)) rfl rfl (by kernel_rfl) (ah_s 48 (fun w9 hs => (hs.fewer 1 rfl)) rfl rfl (by kernel_rfl) ?_))))
    refine ah_t 49 (fun w9 hs => (hs.fewer 1 rfl)) rfl rfl (by kernel_rfl) (q_pickF rfl rfl) (ah_one 50 rfl (by kernel_rfl) (fun hok14 hcl14 => ?_))
    refine al_p (q_assign rfl) (al_end (ah_last (by kernel_rfl) ?_))
    refine aq_then (ac_ret (ret1 Tryz.results42 rfl (fun w9 hs => ?_)))
    refine ⟨?_, hs.below⟩; simp [validC, na, la, nb, lb, nc, q1]
end
section
open Go.RowKit Go.Shelf
end
section
open Go.RowKit Go.Shelf
def fluxP (p : Int × Int) : List Src → Int
  | [] => 0
  | x :: r => infl p.1 p.2 x.1.1 x.1.2 * x.2 + fluxP p r
theorem fluxP_append (p : Int × Int) (a b : List Src) : fluxP p (a ++ b) = fluxP p a + fluxP p b := by
  induction a with
  | nil => simp [fluxP]
  | cons x r ih => simp only [List.cons_append, fluxP, ih]; omega
theorem mul_bd {a b A B : Int} (a0 : 0 ≤ a) (a1 : a ≤ A) (b0 : -B ≤ b) (b1 : b ≤ B) : -(A * B) ≤ a * b ∧ a * b ≤ A * B := by
  have hB : 0 ≤ B := by omega
  have hA : 0 ≤ A := by omega
  have h1 : a * B ≤ A * B := Int.mul_le_mul_of_nonneg_right a1 hB
  have h2 : a * b ≤ a * B := Int.mul_le_mul_of_nonneg_left b1 a0
  have h3 : a * (-B) ≤ a * b := Int.mul_le_mul_of_nonneg_left b0 a0
  rw [Int.mul_neg] at h3
  omega
def Small (S : List Src) : Prop := S.length ≤ 1000 ∧ ∀ x ∈ S, -100000000 ≤ x.2 ∧ x.2 ≤ 100000000
theorem fluxP_bd (p : Int × Int) : ∀ (S : List Src), (∀ x ∈ S, -100000000 ≤ x.2 ∧ x.2 ≤ 100000000) → -(25000000000000 * (S.length : Int)) ≤ fluxP p S ∧ fluxP p S ≤ 25000000000000 * (S.length : Int)
  | [], _ => by simp [fluxP]
  | x :: r, h => by
    have h1 := fluxP_bd p r (fun y hy => h y (List.mem_cons_of_mem _ hy))
    have h2 := h x (by simp)
    have h3 := infl_bd p.1 p.2 x.1.1 x.1.2
    have h4 := mul_bd h3.1 h3.2 h2.1 h2.2
    simp only [fluxP, List.length_cons]
    omega
theorem Small.bd {S : List Src} (h : Small S) (p : Int × Int) : -25000000000000000 ≤ fluxP p S ∧ fluxP p S ≤ 25000000000000000 := by
  have h1 := fluxP_bd p S h.2
  have h2 := h.1
  omega
theorem fluxW_eq (p : Int × Int) : ∀ (S : List Src) (s : Int), (∀ x ∈ S, -100000000 ≤ x.2 ∧ x.2 ≤ 100000000) → -(25000000000000000 : Int) ≤ s - 25000000000000 * (S.length : Int) → s + 25000000000000 * (S.length : Int) ≤ 25000000000000000 → fluxW p s S = s + fluxP p S
  | [], s, _, _, _ => by simp [fluxW, fluxP]
  | x :: r, s, h, h0, h1 => by
    have h2 := h x (by simp)
    have h3 := infl_bd p.1 p.2 x.1.1 x.1.2
    have h4 := mul_bd h3.1 h3.2 h2.1 h2.2
    simp only [List.length_cons] at h0 h1
    simp only [fluxW, fluxP]
    have e1 : wrap64 (infl p.1 p.2 x.1.1 x.1.2 * x.2) = infl p.1 p.2 x.1.1 x.1.2 * x.2 := IntWalk.wrap64_in _ (by omega)
    rw [e1, IntWalk.wrap64_in _ (by omega), fluxW_eq p r _ (fun y hy => h y (List.mem_cons_of_mem _ hy)) (by omega) (by omega)]
    omega
theorem fluxW_plain {S : List Src} (h : Small S) (p : Int × Int) : fluxW p 0 S = fluxP p S := by
  have h1 := h.1
  rw [fluxW_eq p S 0 h.2 (by omega) (by omega)]; omega
theorem eachGo_all {α : Type} {chk : α → List α → Int} : ∀ (l pre : List α), eachGo chk pre l = 0 → ∀ x ∈ l, ∃ e, chk x e = 0
  | [], _, _, x, hx => by cases hx
  | y :: r, pre, h, x, hx => by
    unfold eachGo at h
    by_cases hc : chk y pre = 0
    · rw [if_pos hc] at h
      rcases List.mem_cons.1 hx with rfl | hx
      · exact ⟨pre, hc⟩
      · exact eachGo_all r _ h x hx
    · rw [if_neg hc] at h; exact absurd h hc
theorem eachC_all {α : Type} {chk : α → List α → Int} {most : Int} {l : List α} (h : eachC chk most l = 0) : (l.length : Int) ≤ most ∧ ∀ x ∈ l, ∃ e, chk x e = 0 := by
  unfold eachC at h
  by_cases hm : most < l.length
  · rw [if_pos hm] at h; simp at h
  · rw [if_neg hm] at h; exact ⟨by omega, eachGo_all _ _ h⟩
theorem near_iff {r z f : Int} : nearB r z f = true ↔ (-f ≤ r ∧ r ≤ f) ∧ -f ≤ z ∧ z ≤ f := by simp [nearB, wthn]
theorem coil_ok {c : CoilD} {e : List CoilD} (h : coilC c e = 0) : (1 ≤ c.turns ∧ c.turns ≤ 100) ∧ (-60 ≤ c.r ∧ c.r ≤ 60) ∧ -60 ≤ c.z ∧ c.z ≤ 60 := by
  unfold coilC at h
  split at h
  · split at h
    · simp at h
    · have h1 := rng_zero h
      simp only [Bool.and_eq_true] at h1
      exact ⟨wthn_iff.1 h1.2.1, near_iff.1 h1.1⟩
  · simp at h
theorem shell_ok {c : ShellD} {e : List ShellD} (h : shellC c e = 0) : (-60 ≤ c.r ∧ c.r ≤ 60) ∧ -60 ≤ c.z ∧ c.z ≤ 60 := by
  unfold shellC at h
  have h1 := rng_zero h
  simp only [Bool.and_eq_true] at h1
  exact near_iff.1 h1.1
theorem sensor_ok {c : SensorD} {e : List SensorD} (h : sensorC c e = 0) : (1 ≤ c.kind ∧ c.kind ≤ 3) ∧ ((-60 ≤ c.r ∧ c.r ≤ 60) ∧ -60 ≤ c.z ∧ c.z ≤ 60) ∧ 0 ≤ c.error ∧ c.error ≤ 1000000000 := by
  unfold sensorC at h
  split at h
  · split at h
    · simp at h
    · have h1 := rng_zero h
      simp only [Bool.and_eq_true] at h1
      exact ⟨wthn_iff.1 h1.1, near_iff.1 h1.2.1, wthn_iff.1 h1.2.2⟩
  · simp at h
structure Sound (M : MachD) : Prop where
  coils : (M.coils.length : Int) ≤ 12 ∧ ∀ x ∈ M.coils, (1 ≤ x.turns ∧ x.turns ≤ 100) ∧ (-60 ≤ x.r ∧ x.r ≤ 60) ∧ -60 ≤ x.z ∧ x.z ≤ 60
  shells : (M.shells.length : Int) ≤ 16 ∧ ∀ x ∈ M.shells, (-60 ≤ x.r ∧ x.r ≤ 60) ∧ -60 ≤ x.z ∧ x.z ≤ 60
  sensors : (M.sensors.length : Int) ≤ 24 ∧ ∀ x ∈ M.sensors, (1 ≤ x.kind ∧ x.kind ≤ 3) ∧ ((-60 ≤ x.r ∧ x.r ≤ 60) ∧ -60 ≤ x.z ∧ x.z ≤ 60) ∧ 0 ≤ x.error ∧ x.error ≤ 1000000000
  grid : M.grid.Fine
theorem sound_of {M : MachD} (h : checkC M = 0) : Sound M := by
  have h1 := (orL_zero (orL_zero h).2)
  have h2 := orL_zero h1.2
  have h6 := (orL_zero (orL_zero (orL_zero h2.2).2).2).1
  have c := eachC_all h1.1
  have s := eachC_all h2.1
  have q := eachC_all h6
  exact ⟨⟨c.1, fun x hx => (c.2 x hx).elim fun e he => coil_ok he⟩, ⟨s.1, fun x hx => (s.2 x hx).elim fun e he => shell_ok he⟩, ⟨q.1, fun x hx => (q.2 x hx).elim fun e he => sensor_ok he⟩, fine_grid (grid_of h)⟩
structure Fit2 (M : MachD) (C : CurD) : Prop where
  check : checkC M = 0
  coils : C.coils.length = M.coils.length ∧ ∀ x ∈ C.coils, -1000000 ≤ x ∧ x ≤ 1000000
  shells : C.shells.length = M.shells.length ∧ ∀ x ∈ C.shells, -1000000 ≤ x ∧ x ≤ 1000000
  plasma : (C.plasma.length : Int) = M.grid.nr * M.grid.nz ∧ ∀ x ∈ C.plasma, 0 ≤ x ∧ x ≤ 1000000
  total : tot 0 C.plasma ≤ 1000000
theorem allW_iff {l : List Int} {a b : Int} : allW l a b = true ↔ ∀ x ∈ l, a ≤ x ∧ x ≤ b := by
  unfold allW; rw [List.all_eq_true]
  exact ⟨fun h x hx => wthn_iff.1 (h x hx), fun h x hx => wthn_iff.2 (h x hx)⟩
theorem fit2_iff {M : MachD} {C : CurD} : validC M C = true ↔ Fit2 M C := by
  unfold validC
  simp only [Bool.and_eq_true, decide_eq_true_eq, allW_iff]
  exact ⟨fun ⟨h0, h1, h2, h3, h4, h5, h6, h7⟩ => ⟨h0, ⟨h1, h2⟩, ⟨h3, h4⟩, ⟨h5, h6⟩, h7⟩, fun h => ⟨h.check, h.coils.1, h.coils.2, h.shells.1, h.shells.2, h.plasma.1, h.plasma.2, h.total⟩⟩
def srcM (M : MachD) (C : CurD) : List Src := srcL M.grid M.coils M.shells C.coils C.shells C.plasma
theorem small_of {M : MachD} {C : CurD} (h : Fit2 M C) : Small (srcM M C) := by
  have hs := sound_of h.check
  have hc := cells_fine hs.grid
  have hp := h.plasma.1
  refine ⟨?_, fun x hx => ?_⟩
  · unfold srcM; rw [srcL_length h.coils.1 h.shells.1]; have := hs.coils.1; have := hs.shells.1; omega
  · unfold srcM srcL at hx
    rcases List.mem_append.1 hx with hx | hx
    · obtain ⟨k, hk, e⟩ := List.mem_iff_getElem.1 hx
      simp at e
      simp at hk
      have h1 := hs.coils.2 _ (List.getElem_mem (show k < M.coils.length by omega))
      have h2 := h.coils.2 _ (List.getElem_mem (show k < C.coils.length by omega))
      have h3 := mul_bd (show 0 ≤ M.coils[k].turns by omega) h1.1.2 h2.1 h2.2
      rw [← e]; dsimp only; omega
    · rcases List.mem_append.1 hx with hx | hx
      · obtain ⟨k, hk, e⟩ := List.mem_iff_getElem.1 hx
        simp at e
        simp at hk
        have h2 := h.shells.2 _ (List.getElem_mem (show k < C.shells.length by omega))
        rw [← e]; dsimp only; omega
      · unfold cellSrc at hx
        obtain ⟨k, hk, e⟩ := List.mem_map.1 hx
        rw [List.mem_range] at hk
        have h2 := h.plasma.2 _ (List.getElem_mem hk)
        rw [← e]; dsimp only
        rw [List.getElem?_eq_getElem hk]; simp only [Option.getD_some]; omega
set_option maxHeartbeats 2000000 in
theorem fluxAt_any (R : MachR) (M : MachD) (Q : CurR) (C : CurD) (p0 p1 : Int) (w : World) (hM : IsM w R M) (hC : IsC w Q C) (hv : Fit2 M C) :
    Calls Tryz.prog 77 #[.agg (machCells R M), Q.v, .agg #[.int .i64 p0, .int .i64 p1]] w (Ret (.int .i64 (fluxP (p0, p1) (srcM M C))) w) := by
  rw [← fluxW_plain (small_of hv)]
  have hs := sound_of hv.check
  have hc := cells_fine hs.grid
  have hla := hM.coils.1
  have hlb := hM.shells.1
  have hlc := hC.plasma.1
  have h1 := hs.coils.1
  have h2 := hs.shells.1
  have h3 := hv.plasma.1
  exact fluxAt_any0 M.name R.A R.B R.C R.D R.la R.ca R.lb R.cb R.lc R.cc R.ld R.cd M.grid hs.grid Q.A Q.B Q.C Q.la Q.ca Q.lb Q.cb Q.lc Q.cc M.coils M.shells C.coils C.shells C.plasma p0 p1 w
    hM.coils hM.shells hC.coils hC.shells hC.plasma hv.coils.1 hv.shells.1 (by omega) (by omega) (by omega)
    (fun k c x hc hx => by
      have t := hs.coils.2 c (List.mem_of_getElem? hc)
      have u := hv.coils.2 x (List.mem_of_getElem? hx)
      have b := mul_bd (show 0 ≤ c.turns by omega) t.1.2 u.1 u.2
      exact IntWalk.i64_in _ (by omega))
end
section
open Go.RowKit
structure StD where
  (tick : Int) (C : CurD) (heat : List Int) (trip : List Bool)
structure StR where
  (Q : CurR) (H T : Option Addr) (lh ch lt ct : Nat)
def boolCells (b : Bool) : List Value := [.bool b]
abbrev StR.v (R : StR) (n : Int) : Value := .agg #[.int .i64 n, .slice R.Q.A R.Q.la R.Q.ca, .slice R.Q.B R.Q.lb R.Q.cb, .slice R.Q.C R.Q.lc R.Q.cc, .slice R.H R.lh R.ch, .slice R.T R.lt R.ct]
structure IsS (w : World) (R : StR) (S : StD) : Prop where
  cur : IsC w R.Q S.C
  heat : IsT 1 intCells w R.H R.lh S.heat
  trip : IsT 1 boolCells w R.T R.lt S.trip
  lh : R.lh ≤ R.ch
  lt : R.lt ≤ R.ct
  ch : R.ch ≤ 9223372036854775807
  ct : R.ct ≤ 9223372036854775807
  kh : R.lh ≤ 1000000000000000
  kt : R.lt ≤ 9223372036854775807
theorem IsS.below {w w1 : World} {R : StR} {S : StD} (h : IsS w R S) (hb : Below w.heap.size w w1) : IsS w1 R S :=
  ⟨h.cur.below hb, h.heat.below hb, h.trip.below hb, h.lh, h.lt, h.ch, h.ct, h.kh, h.kt⟩
def iA (l : List Int) (k : Nat) : Int := l.getD k 0
def cA (M : MachD) (k : Nat) : CoilD := M.coils.getD k ⟨⟨#[]⟩, 0, 0, 0, 0, 0, 0, 0⟩
def sA (M : MachD) (k : Nat) : ShellD := M.shells.getD k ⟨0, 0, 0, 0⟩
theorem getD_get {α : Type} {l : List α} {d : α} {k : Nat} (h : k < l.length) : l[k]? = some (l.getD k d) := by
  rw [List.getD_eq_getElem?_getD, List.getElem?_eq_getElem h]; rfl
theorem iA_get {l : List Int} {k : Nat} (h : k < l.length) : l[k]? = some (iA l k) := getD_get h
theorem cA_get {M : MachD} {k : Nat} (h : k < M.coils.length) : M.coils[k]? = some (cA M k) := getD_get h
theorem sA_get {M : MachD} {k : Nat} (h : k < M.shells.length) : M.shells[k]? = some (sA M k) := getD_get h
theorem iA_mem {l : List Int} {k : Nat} (h : k < l.length) : iA l k ∈ l := List.mem_of_getElem? (iA_get h)
theorem iA_of {l : List Int} {k : Nat} {x : Int} (h : l[k]? = some x) : iA l k = x := by simp [iA, List.getD_eq_getElem?_getD, h]
def lst {α : Type} (n : Nat) (f : Nat → α) : List α := (List.range n).map f
theorem lst_length {α : Type} (n : Nat) (f : Nat → α) : (lst n f).length = n := by simp [lst]
theorem lst_get {α : Type} {n k : Nat} (f : Nat → α) (h : k < n) : (lst n f)[k]? = some (f k) := by simp [lst, h]
theorem iA_lst {n k : Nat} (f : Nat → Int) (h : k < n) : iA (lst n f) k = f k := iA_of (lst_get f h)
theorem lst_snoc {α : Type} (k : Nat) (f : Nat → α) : lst (k + 1) f = lst k f ++ [f k] := by simp [lst, List.range_succ]
def cellN (M : MachD) : Nat := (M.grid.nr * M.grid.nz).toNat
def dotTo (f : Nat → Int) : Nat → Int
  | 0 => 0
  | n + 1 => dotTo f n + f n
theorem dotTo_bd {f : Nat → Int} {B : Int} : ∀ n : Nat, (∀ k, k < n → -B ≤ f k ∧ f k ≤ B) → -(n * B) ≤ dotTo f n ∧ dotTo f n ≤ n * B
  | 0, _ => by simp [dotTo]
  | n + 1, h => by
    have h1 := dotTo_bd n (fun k hk => h k (by omega))
    have h2 := h n (by omega)
    have e : ((n + 1 : Nat) : Int) * B = n * B + B := by rw [Int.natCast_succ, Int.add_mul]; omega
    rw [e]
    simp only [dotTo]
    omega
theorem dotTo_ext {f g : Nat → Int} : ∀ n : Nat, (∀ k, k < n → f k = g k) → dotTo f n = dotTo g n
  | 0, _ => rfl
  | n + 1, h => by simp only [dotTo]; rw [dotTo_ext n (fun k hk => h k (by omega)), h n (by omega)]
theorem mulP_bd {x y X Y : Int} (hx : 0 ≤ x ∧ x ≤ X) (hy : -Y ≤ y ∧ y ≤ Y) : -(X * Y) ≤ x * y ∧ x * y ≤ X * Y := by
  have h0 : 0 ≤ Y := by omega
  have h1 : x * y ≤ x * Y := Int.mul_le_mul_of_nonneg_left hy.2 hx.1
  have h2 : x * -Y ≤ x * y := Int.mul_le_mul_of_nonneg_left hy.1 hx.1
  have h3 : x * Y ≤ X * Y := Int.mul_le_mul_of_nonneg_right hx.2 h0
  have h4 : x * -Y = -(x * Y) := by rw [Int.mul_neg]
  omega
end
end Go.Proofs.YtogcjgjhmlifgaaGreat
