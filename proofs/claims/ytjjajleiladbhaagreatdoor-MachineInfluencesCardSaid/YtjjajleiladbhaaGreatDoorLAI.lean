import Derived.Test.YtjjajleiladbhaaGreatDoorLAC
import Derived.Test.YtjjajleiladbhaaGreatDoorLAD
import Derived.Test.YtjjajleiladbhaaGreatDoorLAH
import Derived.Test.YtjjajleiladbhaaGreatDoorRows
import Derived.KernelRfl
import Derived.Laws.StructEq
section
/- Package machine: the contract of ValidCurrents, over this seat's translation (written by ax_mv.py). -/
namespace Go.Proofs.YtjjajleiladbhaaGreatDoor
set_option linter.unusedVariables false
set_option linter.unusedSimpArgs false
open Go.RowKit

theorem rng_zero {b : Bool} (h : rng b = 0) : b = true := by unfold rng at h; split at h <;> simp_all
theorem orL_zero {x : Int} {r : List Int} (h : orL (x :: r) = 0) : x = 0 ∧ orL r = 0 := by
  have : (if x = 0 then orL r else x) = 0 := h
  split at this
  · exact ⟨‹_›, this⟩
  · exact absurd this ‹_›
/-- The grid of a valid machine. -/
theorem grid_of {M : MachD} (h : checkC M = 0) : gridC M.grid = 0 := (orL_zero (orL_zero (orL_zero (orL_zero (orL_zero h).2).2).2).2).1
theorem fine_grid {g : GridD} (h : gridC g = 0) : g.Fine := by
  unfold gridC at h
  split at h
  · split at h
    · exact fine_of ‹_› ‹_›
    · cases h
  · cases h
theorem cells_fine {g : GridD} (h : g.Fine) : 1 ≤ g.nr * g.nz ∧ g.nr * g.nz ≤ 64 := by
  have hp := mul_small (x := 8) (y := 8) (show 0 ≤ g.nr by have := h.n0; omega) h.n1 (show 0 ≤ g.nz by have := h.k0; omega) h.k1
  have h3 := Int.mul_le_mul h.n0 h.k0 (by omega) (show 0 ≤ g.nr by have := h.n0; omega)
  omega

theorem int_eq (a b : Nat) : (((a : Int) == b) = decide (a = b)) := by
  by_cases h : a = b
  · subst h; simp
  · rw [decide_eq_false h, beq_eq_false_iff_ne]; omega

set_option maxRecDepth 100000 in
theorem validCurrents_any (R : MachR) (M : MachD) (Q : CurR) (C : CurD) (w : World) (hM : IsM w R M) (hC : IsC w Q C) : Calls Tryz.prog 38 #[(.agg (machCells R M)), Q.v] w (Ret (.bool (validC M C)) w) := by
  have la := hM.coils.1
  have lb := hM.shells.1
  have na := hC.coils.1
  have nb := hC.shells.1
  have nc := hC.plasma.1
  refine calls_ax (vs := [(.agg (machCells R M)), Q.v]) Tryz.func38 rfl rfl ?_
  refine ac_seq ?_
  refine ac_region ?_
  refine al_new (fun b => .pointer (some ⟨b, 0, none⟩)) (r_box rfl rfl) rfl rfl rfl ?_
  intro b1
  refine al_new (fun b => .pointer (some ⟨b, 0, none⟩)) (r_box rfl rfl) rfl rfl rfl ?_
  intro b2
  refine al_q (q_assign rfl) rfl rfl rfl ?_
  refine al_end ?_
  refine aq_then ?_
  refine ac_seq ?_
  refine ac_draw 50 (by kernel_rfl) (by kernel_rfl) ?_
  refine ah_take 0 (fun w9 hs => hs) rfl rfl rfl (by kernel_rfl) (by kernel_rfl) (by kernel_rfl) (fun _ _ _ h => h) rfl (q_loadAll (i := 1) rfl rfl Tryz.isAgg29 Tryz.sizeOf29 rfl) ?_
  refine ah_one 1 rfl (by kernel_rfl) (fun hok1 hcl1 => ?_)
  refine al_call Tryz.call17 (.cons rfl .nil) rfl rfl (fun w1 hs1 => ?_)
  refine (check_any R M _ (hM.below hs1.below)).mono ?_
  rintro e u1 ⟨rfl, hb_1⟩
  refine ⟨_, rfl, hb_1, ?_⟩
  clear hs1
  refine al_end (ah_back hok1 hcl1 (fun w9 hs => (hs.fewer 1 rfl)) ?_)
  refine ah_take 2 (fun w9 hs => (hs.fewer 1 rfl)) rfl rfl rfl (by kernel_rfl) (by kernel_rfl) (by kernel_rfl) (fun _ _ _ h => h) rfl (q_eql rfl rfl) ?_
  refine ah_take 3 (fun w9 hs => (hs.fewer 1 rfl)) rfl rfl rfl (by kernel_rfl) (by kernel_rfl) (by kernel_rfl) (fun _ _ _ h => h) rfl (q_move rfl) ?_
  refine ah_split 8 rfl (fun hb1 => ?_) (fun hb1 => ?_)
  · have q1 : checkC M = 0 := of_decide_eq_true hb1
    have hcf := cells_fine (fine_grid (grid_of q1))
    refine ah_take 4 (fun w9 hs => (hs.fewer 1 rfl)) rfl rfl rfl (by kernel_rfl) (by kernel_rfl) (by kernel_rfl) (fun _ _ _ h => h) rfl (q_fieldAddr 0 rfl Tryz.runUnderlying34 rfl Tryz.sizeOf32 (by decide) rfl) ?_
    refine ah_take 5 (fun w9 hs => (hs.fewer 1 rfl)) rfl rfl rfl (by kernel_rfl) (by kernel_rfl) (by kernel_rfl) (fun _ _ _ h => h) rfl (q_load (i := 0) rfl rfl rfl Tryz.isAgg32) ?_
    refine ah_take 6 (fun w9 hs => (hs.fewer 1 rfl)) rfl rfl rfl (by kernel_rfl) (by kernel_rfl) (by kernel_rfl) (fun _ _ _ h => h) rfl (q_lenS rfl Tryz.runUnderlying32) ?_
    refine ah_take 7 (fun w9 hs => (hs.fewer 1 rfl)) rfl rfl rfl (by kernel_rfl) (by kernel_rfl) (by kernel_rfl) (fun _ _ _ h => h) rfl (q_fieldAddr 1 rfl Tryz.runUnderlying29 rfl Tryz.sizeOf22 (by decide) rfl) ?_
    refine ah_take 8 (fun w9 hs => (hs.fewer 1 rfl)) rfl rfl rfl (by kernel_rfl) (by kernel_rfl) (by kernel_rfl) (fun _ _ _ h => h) rfl (q_load (i := 1) rfl rfl rfl Tryz.isAgg22) ?_
    refine ah_take 9 (fun w9 hs => (hs.fewer 1 rfl)) rfl rfl rfl (by kernel_rfl) (by kernel_rfl) (by kernel_rfl) (fun _ _ _ h => h) rfl (q_lenS rfl Tryz.runUnderlying22) ?_
    refine ah_take 10 (fun w9 hs => (hs.fewer 1 rfl)) rfl rfl rfl (by kernel_rfl) (by kernel_rfl) (by kernel_rfl) (fun _ _ _ h => h) rfl (q_eql rfl rfl) ?_
    refine ah_take 11 (fun w9 hs => (hs.fewer 1 rfl)) rfl rfl rfl (by kernel_rfl) (by kernel_rfl) (by kernel_rfl) (fun _ _ _ h => h) rfl (q_pickT rfl rfl) ?_
    refine ah_take 12 (fun w9 hs => (hs.fewer 1 rfl)) rfl rfl rfl (by kernel_rfl) (by kernel_rfl) (by kernel_rfl) (fun _ _ _ h => h) rfl (q_move rfl) ?_
    refine ah_split 17 rfl (fun hb2 => ?_) (fun hb2 => ?_)
    · have q2 : Q.la = R.la := by have := of_decide_eq_true hb2; omega
      refine ah_take 13 (fun w9 hs => (hs.fewer 1 rfl)) rfl rfl rfl (by kernel_rfl) (by kernel_rfl) (by kernel_rfl) (fun _ _ _ h => h) rfl (q_fieldAddr 0 rfl Tryz.runUnderlying34 rfl Tryz.sizeOf32 (by decide) rfl) ?_
      refine ah_take 14 (fun w9 hs => (hs.fewer 1 rfl)) rfl rfl rfl (by kernel_rfl) (by kernel_rfl) (by kernel_rfl) (fun _ _ _ h => h) rfl (q_load (i := 0) rfl rfl rfl Tryz.isAgg32) ?_
      refine ah_one 15 rfl (by kernel_rfl) (fun hok2 hcl2 => ?_)
      refine al_call Tryz.call81 (.cons rfl (.cons rfl (.cons rfl .nil))) rfl rfl (fun w2 hs2 => ?_)
      refine (allWithin_any Q.A Q.la Q.ca C.coils (-1000000) 1000000 _ (hC.coils.below hs2.below) hC.ka).mono ?_
      rintro e u2 ⟨rfl, hb_2⟩
      refine ⟨_, rfl, hb_2, ?_⟩
      clear hs2
      refine al_end (ah_back hok2 hcl2 (fun w9 hs => (hs.fewer 2 rfl)) ?_)
      refine ah_take 16 (fun w9 hs => (hs.fewer 2 rfl)) rfl rfl rfl (by kernel_rfl) (by kernel_rfl) (by kernel_rfl) (fun _ _ _ h => h) rfl (q_pickT rfl rfl) ?_
      refine ah_take 17 (fun w9 hs => (hs.fewer 2 rfl)) rfl rfl rfl (by kernel_rfl) (by kernel_rfl) (by kernel_rfl) (fun _ _ _ h => h) rfl (q_move rfl) ?_
      refine ah_split 22 rfl (fun hb3 => ?_) (fun hb3 => ?_)
      · have q3 := hb3
        refine ah_take 18 (fun w9 hs => (hs.fewer 2 rfl)) rfl rfl rfl (by kernel_rfl) (by kernel_rfl) (by kernel_rfl) (fun _ _ _ h => h) rfl (q_fieldAddr 1 rfl Tryz.runUnderlying34 rfl Tryz.sizeOf32 (by decide) rfl) ?_
        refine ah_take 19 (fun w9 hs => (hs.fewer 2 rfl)) rfl rfl rfl (by kernel_rfl) (by kernel_rfl) (by kernel_rfl) (fun _ _ _ h => h) rfl (q_load (i := 0) rfl rfl rfl Tryz.isAgg32) ?_
        refine ah_take 20 (fun w9 hs => (hs.fewer 2 rfl)) rfl rfl rfl (by kernel_rfl) (by kernel_rfl) (by kernel_rfl) (fun _ _ _ h => h) rfl (q_lenS rfl Tryz.runUnderlying32) ?_
        refine ah_take 21 (fun w9 hs => (hs.fewer 2 rfl)) rfl rfl rfl (by kernel_rfl) (by kernel_rfl) (by kernel_rfl) (fun _ _ _ h => h) rfl (q_fieldAddr 2 rfl Tryz.runUnderlying29 rfl Tryz.sizeOf23 (by decide) rfl) ?_
        refine ah_take 22 (fun w9 hs => (hs.fewer 2 rfl)) rfl rfl rfl (by kernel_rfl) (by kernel_rfl) (by kernel_rfl) (fun _ _ _ h => h) rfl (q_load (i := 1) rfl rfl rfl Tryz.isAgg23) ?_
        refine ah_take 23 (fun w9 hs => (hs.fewer 2 rfl)) rfl rfl rfl (by kernel_rfl) (by kernel_rfl) (by kernel_rfl) (fun _ _ _ h => h) rfl (q_lenS rfl Tryz.runUnderlying23) ?_
        refine ah_take 24 (fun w9 hs => (hs.fewer 2 rfl)) rfl rfl rfl (by kernel_rfl) (by kernel_rfl) (by kernel_rfl) (fun _ _ _ h => h) rfl (q_eql rfl rfl) ?_
        refine ah_take 25 (fun w9 hs => (hs.fewer 2 rfl)) rfl rfl rfl (by kernel_rfl) (by kernel_rfl) (by kernel_rfl) (fun _ _ _ h => h) rfl (q_pickT rfl rfl) ?_
        refine ah_take 26 (fun w9 hs => (hs.fewer 2 rfl)) rfl rfl rfl (by kernel_rfl) (by kernel_rfl) (by kernel_rfl) (fun _ _ _ h => h) rfl (q_move rfl) ?_
        refine ah_split 31 rfl (fun hb4 => ?_) (fun hb4 => ?_)
        · have q4 : Q.lb = R.lb := by have := of_decide_eq_true hb4; omega
          refine ah_take 27 (fun w9 hs => (hs.fewer 2 rfl)) rfl rfl rfl (by kernel_rfl) (by kernel_rfl) (by kernel_rfl) (fun _ _ _ h => h) rfl (q_fieldAddr 1 rfl Tryz.runUnderlying34 rfl Tryz.sizeOf32 (by decide) rfl) ?_
          refine ah_take 28 (fun w9 hs => (hs.fewer 2 rfl)) rfl rfl rfl (by kernel_rfl) (by kernel_rfl) (by kernel_rfl) (fun _ _ _ h => h) rfl (q_load (i := 0) rfl rfl rfl Tryz.isAgg32) ?_
          refine ah_one 29 rfl (by kernel_rfl) (fun hok3 hcl3 => ?_)
          refine al_call Tryz.call81 (.cons rfl (.cons rfl (.cons rfl .nil))) rfl rfl (fun w3 hs3 => ?_)
          refine (allWithin_any Q.B Q.lb Q.cb C.shells (-1000000) 1000000 _ (hC.shells.below hs3.below) hC.kb).mono ?_
          rintro e u3 ⟨rfl, hb_3⟩
          refine ⟨_, rfl, hb_3, ?_⟩
          clear hs3
          refine al_end (ah_back hok3 hcl3 (fun w9 hs => (hs.fewer 3 rfl)) ?_)
          refine ah_take 30 (fun w9 hs => (hs.fewer 3 rfl)) rfl rfl rfl (by kernel_rfl) (by kernel_rfl) (by kernel_rfl) (fun _ _ _ h => h) rfl (q_pickT rfl rfl) ?_
          refine ah_take 31 (fun w9 hs => (hs.fewer 3 rfl)) rfl rfl rfl (by kernel_rfl) (by kernel_rfl) (by kernel_rfl) (fun _ _ _ h => h) rfl (q_move rfl) ?_
          refine ah_split 36 rfl (fun hb5 => ?_) (fun hb5 => ?_)
          · have q5 := hb5
            refine ah_take 32 (fun w9 hs => (hs.fewer 3 rfl)) rfl rfl rfl (by kernel_rfl) (by kernel_rfl) (by kernel_rfl) (fun _ _ _ h => h) rfl (q_fieldAddr 2 rfl Tryz.runUnderlying34 rfl Tryz.sizeOf32 (by decide) rfl) ?_
            refine ah_take 33 (fun w9 hs => (hs.fewer 3 rfl)) rfl rfl rfl (by kernel_rfl) (by kernel_rfl) (by kernel_rfl) (fun _ _ _ h => h) rfl (q_load (i := 0) rfl rfl rfl Tryz.isAgg32) ?_
            refine ah_take 34 (fun w9 hs => (hs.fewer 3 rfl)) rfl rfl rfl (by kernel_rfl) (by kernel_rfl) (by kernel_rfl) (fun _ _ _ h => h) rfl (q_lenS rfl Tryz.runUnderlying32) ?_
            refine ah_take 35 (fun w9 hs => (hs.fewer 3 rfl)) rfl rfl rfl (by kernel_rfl) (by kernel_rfl) (by kernel_rfl) (fun _ _ _ h => h) rfl (q_fieldAddr 4 rfl Tryz.runUnderlying29 rfl Tryz.sizeOf26 (by decide) rfl) ?_
            refine ah_take 36 (fun w9 hs => (hs.fewer 3 rfl)) rfl rfl rfl (by kernel_rfl) (by kernel_rfl) (by kernel_rfl) (fun _ _ _ h => h) rfl (q_loadSub (i := 1) rfl rfl Tryz.isAgg26 Tryz.sizeOf26 .k4 .k5) ?_
            refine ah_one 37 rfl (by kernel_rfl) (fun hok4 hcl4 => ?_)
            refine al_call Tryz.call75 (.cons rfl .nil) rfl rfl (fun w4 hs4 => ?_)
            refine (cells_any M.grid _ (by omega) (by omega)).mono ?_
            rintro e u4 ⟨rfl, hb_4⟩
            refine ⟨_, rfl, hb_4, ?_⟩
            clear hs4
            refine al_end (ah_back hok4 hcl4 (fun w9 hs => (hs.fewer 4 rfl)) ?_)
            refine ah_take 38 (fun w9 hs => (hs.fewer 4 rfl)) rfl rfl rfl (by kernel_rfl) (by kernel_rfl) (by kernel_rfl) (fun _ _ _ h => h) rfl (q_eql rfl rfl) ?_
            refine ah_take 39 (fun w9 hs => (hs.fewer 4 rfl)) rfl rfl rfl (by kernel_rfl) (by kernel_rfl) (by kernel_rfl) (fun _ _ _ h => h) rfl (q_pickT rfl rfl) ?_
            refine ah_take 40 (fun w9 hs => (hs.fewer 4 rfl)) rfl rfl rfl (by kernel_rfl) (by kernel_rfl) (by kernel_rfl) (fun _ _ _ h => h) rfl (q_move rfl) ?_
            refine ah_split 45 rfl (fun hb6 => ?_) (fun hb6 => ?_)
            · have q6 : (Q.lc : Int) = M.grid.nr * M.grid.nz := of_decide_eq_true hb6
              refine ah_take 41 (fun w9 hs => (hs.fewer 4 rfl)) rfl rfl rfl (by kernel_rfl) (by kernel_rfl) (by kernel_rfl) (fun _ _ _ h => h) rfl (q_fieldAddr 2 rfl Tryz.runUnderlying34 rfl Tryz.sizeOf32 (by decide) rfl) ?_
              refine ah_take 42 (fun w9 hs => (hs.fewer 4 rfl)) rfl rfl rfl (by kernel_rfl) (by kernel_rfl) (by kernel_rfl) (fun _ _ _ h => h) rfl (q_load (i := 0) rfl rfl rfl Tryz.isAgg32) ?_
              refine ah_one 43 rfl (by kernel_rfl) (fun hok5 hcl5 => ?_)
              refine al_call Tryz.call81 (.cons rfl (.cons rfl (.cons rfl .nil))) rfl rfl (fun w5 hs5 => ?_)
              refine (allWithin_any Q.C Q.lc Q.cc C.plasma 0 1000000 _ (hC.plasma.below hs5.below) hC.kc).mono ?_
              rintro e u5 ⟨rfl, hb_5⟩
              refine ⟨_, rfl, hb_5, ?_⟩
              clear hs5
              refine al_end (ah_back hok5 hcl5 (fun w9 hs => (hs.fewer 5 rfl)) ?_)
              refine ah_take 44 (fun w9 hs => (hs.fewer 5 rfl)) rfl rfl rfl (by kernel_rfl) (by kernel_rfl) (by kernel_rfl) (fun _ _ _ h => h) rfl (q_pickT rfl rfl) ?_
              refine ah_take 45 (fun w9 hs => (hs.fewer 5 rfl)) rfl rfl rfl (by kernel_rfl) (by kernel_rfl) (by kernel_rfl) (fun _ _ _ h => h) rfl (q_move rfl) ?_
              refine ah_split 50 rfl (fun hb7 => ?_) (fun hb7 => ?_)
              · have q7 := hb7
                refine ah_take 46 (fun w9 hs => (hs.fewer 5 rfl)) rfl rfl rfl (by kernel_rfl) (by kernel_rfl) (by kernel_rfl) (fun _ _ _ h => h) rfl (q_loadAll (i := 0) rfl rfl Tryz.isAgg34 Tryz.sizeOf34 rfl) ?_
                refine ah_one 47 rfl (by kernel_rfl) (fun hok6 hcl6 => ?_)
                refine al_call Tryz.call40 (.cons rfl .nil) rfl rfl (fun w6 hs6 => ?_)
                refine (total_any Q.A Q.B Q.C Q.la Q.ca Q.lb Q.cb Q.lc Q.cc C.plasma _ (hC.plasma.below hs6.below) hC.kc).mono ?_
                rintro e u6 ⟨rfl, hb_6⟩
                refine ⟨_, rfl, hb_6, ?_⟩
                clear hs6
                refine al_end (ah_back hok6 hcl6 (fun w9 hs => (hs.fewer 6 rfl)) ?_)
                refine ah_take 48 (fun w9 hs => (hs.fewer 6 rfl)) rfl rfl rfl (by kernel_rfl) (by kernel_rfl) (by kernel_rfl) (fun _ _ _ h => h) rfl (q_leq rfl rfl) ?_
                refine ah_take 49 (fun w9 hs => (hs.fewer 6 rfl)) rfl rfl rfl (by kernel_rfl) (by kernel_rfl) (by kernel_rfl) (fun _ _ _ h => h) rfl (q_pickT rfl rfl) ?_
                refine ah_one 50 rfl (by kernel_rfl) (fun hok7 hcl7 => ?_)
                refine al_q (q_assign rfl) rfl rfl rfl ?_
                refine al_end (ah_last (by kernel_rfl) ?_)
                refine aq_then ?_
                refine ac_ret ?_
                refine ret1 Tryz.results38 rfl (fun w9 hs => ?_)
                refine ⟨?_, hs.below⟩; simp [validC, na, la, nb, lb, nc, q1, q2, q3, q4, q5, q6, q7]
              · have q7 := hb7
                refine ah_skip 46 (fun w9 hs => (hs.fewer 5 rfl)) rfl rfl rfl (by kernel_rfl) (by kernel_rfl) (by kernel_rfl) (fun _ _ _ h => h) rfl ?_
                refine ah_skip 47 (fun w9 hs => (hs.fewer 5 rfl)) rfl rfl rfl (by kernel_rfl) (by kernel_rfl) (by kernel_rfl) (fun _ _ _ h => h) rfl ?_
                refine ah_skip 48 (fun w9 hs => (hs.fewer 5 rfl)) rfl rfl rfl (by kernel_rfl) (by kernel_rfl) (by kernel_rfl) (fun _ _ _ h => h) rfl ?_
                refine ah_take 49 (fun w9 hs => (hs.fewer 5 rfl)) rfl rfl rfl (by kernel_rfl) (by kernel_rfl) (by kernel_rfl) (fun _ _ _ h => h) rfl (q_pickF rfl rfl) ?_
                refine ah_one 50 rfl (by kernel_rfl) (fun hok8 hcl8 => ?_)
                refine al_q (q_assign rfl) rfl rfl rfl ?_
                refine al_end (ah_last (by kernel_rfl) ?_)
                refine aq_then ?_
                refine ac_ret ?_
                refine ret1 Tryz.results38 rfl (fun w9 hs => ?_)
                refine ⟨?_, hs.below⟩; simp [validC, na, la, nb, lb, nc, q1, q2, q3, q4, q5, q6, q7]
            · have q6 : ¬ (Q.lc : Int) = M.grid.nr * M.grid.nz := of_decide_eq_false hb6
              refine ah_skip 41 (fun w9 hs => (hs.fewer 4 rfl)) rfl rfl rfl (by kernel_rfl) (by kernel_rfl) (by kernel_rfl) (fun _ _ _ h => h) rfl ?_
              refine ah_skip 42 (fun w9 hs => (hs.fewer 4 rfl)) rfl rfl rfl (by kernel_rfl) (by kernel_rfl) (by kernel_rfl) (fun _ _ _ h => h) rfl ?_
              refine ah_skip 43 (fun w9 hs => (hs.fewer 4 rfl)) rfl rfl rfl (by kernel_rfl) (by kernel_rfl) (by kernel_rfl) (fun _ _ _ h => h) rfl ?_
              refine ah_take 44 (fun w9 hs => (hs.fewer 4 rfl)) rfl rfl rfl (by kernel_rfl) (by kernel_rfl) (by kernel_rfl) (fun _ _ _ h => h) rfl (q_pickF rfl rfl) ?_
              refine ah_take 45 (fun w9 hs => (hs.fewer 4 rfl)) rfl rfl rfl (by kernel_rfl) (by kernel_rfl) (by kernel_rfl) (fun _ _ _ h => h) rfl (q_move rfl) ?_
              refine ah_skip 46 (fun w9 hs => (hs.fewer 4 rfl)) rfl rfl rfl (by kernel_rfl) (by kernel_rfl) (by kernel_rfl) (fun _ _ _ h => h) rfl ?_
              refine ah_skip 47 (fun w9 hs => (hs.fewer 4 rfl)) rfl rfl rfl (by kernel_rfl) (by kernel_rfl) (by kernel_rfl) (fun _ _ _ h => h) rfl ?_
              refine ah_skip 48 (fun w9 hs => (hs.fewer 4 rfl)) rfl rfl rfl (by kernel_rfl) (by kernel_rfl) (by kernel_rfl) (fun _ _ _ h => h) rfl ?_
              refine ah_take 49 (fun w9 hs => (hs.fewer 4 rfl)) rfl rfl rfl (by kernel_rfl) (by kernel_rfl) (by kernel_rfl) (fun _ _ _ h => h) rfl (q_pickF rfl rfl) ?_
              refine ah_one 50 rfl (by kernel_rfl) (fun hok9 hcl9 => ?_)
              refine al_q (q_assign rfl) rfl rfl rfl ?_
              refine al_end (ah_last (by kernel_rfl) ?_)
              refine aq_then ?_
              refine ac_ret ?_
              refine ret1 Tryz.results38 rfl (fun w9 hs => ?_)
              refine ⟨?_, hs.below⟩; simp [validC, na, la, nb, lb, nc, q1, q2, q3, q4, q5, q6]
          · have q5 := hb5
            refine ah_skip 32 (fun w9 hs => (hs.fewer 3 rfl)) rfl rfl rfl (by kernel_rfl) (by kernel_rfl) (by kernel_rfl) (fun _ _ _ h => h) rfl ?_
            refine ah_skip 33 (fun w9 hs => (hs.fewer 3 rfl)) rfl rfl rfl (by kernel_rfl) (by kernel_rfl) (by kernel_rfl) (fun _ _ _ h => h) rfl ?_
            refine ah_skip 34 (fun w9 hs => (hs.fewer 3 rfl)) rfl rfl rfl (by kernel_rfl) (by kernel_rfl) (by kernel_rfl) (fun _ _ _ h => h) rfl ?_
            refine ah_skip 35 (fun w9 hs => (hs.fewer 3 rfl)) rfl rfl rfl (by kernel_rfl) (by kernel_rfl) (by kernel_rfl) (fun _ _ _ h => h) rfl ?_
            refine ah_skip 36 (fun w9 hs => (hs.fewer 3 rfl)) rfl rfl rfl (by kernel_rfl) (by kernel_rfl) (by kernel_rfl) (fun _ _ _ h => h) rfl ?_
            refine ah_skip 37 (fun w9 hs => (hs.fewer 3 rfl)) rfl rfl rfl (by kernel_rfl) (by kernel_rfl) (by kernel_rfl) (fun _ _ _ h => h) rfl ?_
            refine ah_skip 38 (fun w9 hs => (hs.fewer 3 rfl)) rfl rfl rfl (by kernel_rfl) (by kernel_rfl) (by kernel_rfl) (fun _ _ _ h => h) rfl ?_
            refine ah_take 39 (fun w9 hs => (hs.fewer 3 rfl)) rfl rfl rfl (by kernel_rfl) (by kernel_rfl) (by kernel_rfl) (fun _ _ _ h => h) rfl (q_pickF rfl rfl) ?_
            refine ah_take 40 (fun w9 hs => (hs.fewer 3 rfl)) rfl rfl rfl (by kernel_rfl) (by kernel_rfl) (by kernel_rfl) (fun _ _ _ h => h) rfl (q_move rfl) ?_
            refine ah_skip 41 (fun w9 hs => (hs.fewer 3 rfl)) rfl rfl rfl (by kernel_rfl) (by kernel_rfl) (by kernel_rfl) (fun _ _ _ h => h) rfl ?_
            refine ah_skip 42 (fun w9 hs => (hs.fewer 3 rfl)) rfl rfl rfl (by kernel_rfl) (by kernel_rfl) (by kernel_rfl) (fun _ _ _ h => h) rfl ?_
            refine ah_skip 43 (fun w9 hs => (hs.fewer 3 rfl)) rfl rfl rfl (by kernel_rfl) (by kernel_rfl) (by kernel_rfl) (fun _ _ _ h => h) rfl ?_
            refine ah_take 44 (fun w9 hs => (hs.fewer 3 rfl)) rfl rfl rfl (by kernel_rfl) (by kernel_rfl) (by kernel_rfl) (fun _ _ _ h => h) rfl (q_pickF rfl rfl) ?_
            refine ah_take 45 (fun w9 hs => (hs.fewer 3 rfl)) rfl rfl rfl (by kernel_rfl) (by kernel_rfl) (by kernel_rfl) (fun _ _ _ h => h) rfl (q_move rfl) ?_
            refine ah_skip 46 (fun w9 hs => (hs.fewer 3 rfl)) rfl rfl rfl (by kernel_rfl) (by kernel_rfl) (by kernel_rfl) (fun _ _ _ h => h) rfl ?_
            refine ah_skip 47 (fun w9 hs => (hs.fewer 3 rfl)) rfl rfl rfl (by kernel_rfl) (by kernel_rfl) (by kernel_rfl) (fun _ _ _ h => h) rfl ?_
            refine ah_skip 48 (fun w9 hs => (hs.fewer 3 rfl)) rfl rfl rfl (by kernel_rfl) (by kernel_rfl) (by kernel_rfl) (fun _ _ _ h => h) rfl ?_
            refine ah_take 49 (fun w9 hs => (hs.fewer 3 rfl)) rfl rfl rfl (by kernel_rfl) (by kernel_rfl) (by kernel_rfl) (fun _ _ _ h => h) rfl (q_pickF rfl rfl) ?_
            refine ah_one 50 rfl (by kernel_rfl) (fun hok10 hcl10 => ?_)
            refine al_q (q_assign rfl) rfl rfl rfl ?_
            refine al_end (ah_last (by kernel_rfl) ?_)
            refine aq_then ?_
            refine ac_ret ?_
            refine ret1 Tryz.results38 rfl (fun w9 hs => ?_)
            refine ⟨?_, hs.below⟩; simp [validC, na, la, nb, lb, nc, q1, q2, q3, q4, q5]
        · have q4 : ¬ Q.lb = R.lb := by have := of_decide_eq_false hb4; omega
          refine ah_skip 27 (fun w9 hs => (hs.fewer 2 rfl)) rfl rfl rfl (by kernel_rfl) (by kernel_rfl) (by kernel_rfl) (fun _ _ _ h => h) rfl ?_
          refine ah_skip 28 (fun w9 hs => (hs.fewer 2 rfl)) rfl rfl rfl (by kernel_rfl) (by kernel_rfl) (by kernel_rfl) (fun _ _ _ h => h) rfl ?_
          refine ah_skip 29 (fun w9 hs => (hs.fewer 2 rfl)) rfl rfl rfl (by kernel_rfl) (by kernel_rfl) (by kernel_rfl) (fun _ _ _ h => h) rfl ?_
          refine ah_take 30 (fun w9 hs => (hs.fewer 2 rfl)) rfl rfl rfl (by kernel_rfl) (by kernel_rfl) (by kernel_rfl) (fun _ _ _ h => h) rfl (q_pickF rfl rfl) ?_
          refine ah_take 31 (fun w9 hs => (hs.fewer 2 rfl)) rfl rfl rfl (by kernel_rfl) (by kernel_rfl) (by kernel_rfl) (fun _ _ _ h => h) rfl (q_move rfl) ?_
          refine ah_skip 32 (fun w9 hs => (hs.fewer 2 rfl)) rfl rfl rfl (by kernel_rfl) (by kernel_rfl) (by kernel_rfl) (fun _ _ _ h => h) rfl ?_
          refine ah_skip 33 (fun w9 hs => (hs.fewer 2 rfl)) rfl rfl rfl (by kernel_rfl) (by kernel_rfl) (by kernel_rfl) (fun _ _ _ h => h) rfl ?_
          refine ah_skip 34 (fun w9 hs => (hs.fewer 2 rfl)) rfl rfl rfl (by kernel_rfl) (by kernel_rfl) (by kernel_rfl) (fun _ _ _ h => h) rfl ?_
          refine ah_skip 35 (fun w9 hs => (hs.fewer 2 rfl)) rfl rfl rfl (by kernel_rfl) (by kernel_rfl) (by kernel_rfl) (fun _ _ _ h => h) rfl ?_
          refine ah_skip 36 (fun w9 hs => (hs.fewer 2 rfl)) rfl rfl rfl (by kernel_rfl) (by kernel_rfl) (by kernel_rfl) (fun _ _ _ h => h) rfl ?_
          refine ah_skip 37 (fun w9 hs => (hs.fewer 2 rfl)) rfl rfl rfl (by kernel_rfl) (by kernel_rfl) (by kernel_rfl) (fun _ _ _ h => h) rfl ?_
          refine ah_skip 38 (fun w9 hs => (hs.fewer 2 rfl)) rfl rfl rfl (by kernel_rfl) (by kernel_rfl) (by kernel_rfl) (fun _ _ _ h => h) rfl ?_
          refine ah_take 39 (fun w9 hs => (hs.fewer 2 rfl)) rfl rfl rfl (by kernel_rfl) (by kernel_rfl) (by kernel_rfl) (fun _ _ _ h => h) rfl (q_pickF rfl rfl) ?_
          refine ah_take 40 (fun w9 hs => (hs.fewer 2 rfl)) rfl rfl rfl (by kernel_rfl) (by kernel_rfl) (by kernel_rfl) (fun _ _ _ h => h) rfl (q_move rfl) ?_
          refine ah_skip 41 (fun w9 hs => (hs.fewer 2 rfl)) rfl rfl rfl (by kernel_rfl) (by kernel_rfl) (by kernel_rfl) (fun _ _ _ h => h) rfl ?_
          refine ah_skip 42 (fun w9 hs => (hs.fewer 2 rfl)) rfl rfl rfl (by kernel_rfl) (by kernel_rfl) (by kernel_rfl) (fun _ _ _ h => h) rfl ?_
          refine ah_skip 43 (fun w9 hs => (hs.fewer 2 rfl)) rfl rfl rfl (by kernel_rfl) (by kernel_rfl) (by kernel_rfl) (fun _ _ _ h => h) rfl ?_
          refine ah_take 44 (fun w9 hs => (hs.fewer 2 rfl)) rfl rfl rfl (by kernel_rfl) (by kernel_rfl) (by kernel_rfl) (fun _ _ _ h => h) rfl (q_pickF rfl rfl) ?_
          refine ah_take 45 (fun w9 hs => (hs.fewer 2 rfl)) rfl rfl rfl (by kernel_rfl) (by kernel_rfl) (by kernel_rfl) (fun _ _ _ h => h) rfl (q_move rfl) ?_
          refine ah_skip 46 (fun w9 hs => (hs.fewer 2 rfl)) rfl rfl rfl (by kernel_rfl) (by kernel_rfl) (by kernel_rfl) (fun _ _ _ h => h) rfl ?_
          refine ah_skip 47 (fun w9 hs => (hs.fewer 2 rfl)) rfl rfl rfl (by kernel_rfl) (by kernel_rfl) (by kernel_rfl) (fun _ _ _ h => h) rfl ?_
          refine ah_skip 48 (fun w9 hs => (hs.fewer 2 rfl)) rfl rfl rfl (by kernel_rfl) (by kernel_rfl) (by kernel_rfl) (fun _ _ _ h => h) rfl ?_
          refine ah_take 49 (fun w9 hs => (hs.fewer 2 rfl)) rfl rfl rfl (by kernel_rfl) (by kernel_rfl) (by kernel_rfl) (fun _ _ _ h => h) rfl (q_pickF rfl rfl) ?_
          refine ah_one 50 rfl (by kernel_rfl) (fun hok11 hcl11 => ?_)
          refine al_q (q_assign rfl) rfl rfl rfl ?_
          refine al_end (ah_last (by kernel_rfl) ?_)
          refine aq_then ?_
          refine aq_keepL [4] (.cons rfl .nil) ?_
          refine aq_keepB (.drop (.drop .nil)) ?_
          refine ac_ret ?_
          refine ret1 Tryz.results38 rfl (fun w9 hs => ?_)
          refine ⟨?_, hs.below⟩; simp [validC, na, la, nb, lb, nc, q1, q2, q3, q4]
      · have q3 := hb3
        refine ah_skip 18 (fun w9 hs => (hs.fewer 2 rfl)) rfl rfl rfl (by kernel_rfl) (by kernel_rfl) (by kernel_rfl) (fun _ _ _ h => h) rfl ?_
        refine ah_skip 19 (fun w9 hs => (hs.fewer 2 rfl)) rfl rfl rfl (by kernel_rfl) (by kernel_rfl) (by kernel_rfl) (fun _ _ _ h => h) rfl ?_
        refine ah_skip 20 (fun w9 hs => (hs.fewer 2 rfl)) rfl rfl rfl (by kernel_rfl) (by kernel_rfl) (by kernel_rfl) (fun _ _ _ h => h) rfl ?_
        refine ah_skip 21 (fun w9 hs => (hs.fewer 2 rfl)) rfl rfl rfl (by kernel_rfl) (by kernel_rfl) (by kernel_rfl) (fun _ _ _ h => h) rfl ?_
        refine ah_skip 22 (fun w9 hs => (hs.fewer 2 rfl)) rfl rfl rfl (by kernel_rfl) (by kernel_rfl) (by kernel_rfl) (fun _ _ _ h => h) rfl ?_
        refine ah_skip 23 (fun w9 hs => (hs.fewer 2 rfl)) rfl rfl rfl (by kernel_rfl) (by kernel_rfl) (by kernel_rfl) (fun _ _ _ h => h) rfl ?_
        refine ah_skip 24 (fun w9 hs => (hs.fewer 2 rfl)) rfl rfl rfl (by kernel_rfl) (by kernel_rfl) (by kernel_rfl) (fun _ _ _ h => h) rfl ?_
        refine ah_take 25 (fun w9 hs => (hs.fewer 2 rfl)) rfl rfl rfl (by kernel_rfl) (by kernel_rfl) (by kernel_rfl) (fun _ _ _ h => h) rfl (q_pickF rfl rfl) ?_
        refine ah_take 26 (fun w9 hs => (hs.fewer 2 rfl)) rfl rfl rfl (by kernel_rfl) (by kernel_rfl) (by kernel_rfl) (fun _ _ _ h => h) rfl (q_move rfl) ?_
        refine ah_skip 27 (fun w9 hs => (hs.fewer 2 rfl)) rfl rfl rfl (by kernel_rfl) (by kernel_rfl) (by kernel_rfl) (fun _ _ _ h => h) rfl ?_
        refine ah_skip 28 (fun w9 hs => (hs.fewer 2 rfl)) rfl rfl rfl (by kernel_rfl) (by kernel_rfl) (by kernel_rfl) (fun _ _ _ h => h) rfl ?_
        refine ah_skip 29 (fun w9 hs => (hs.fewer 2 rfl)) rfl rfl rfl (by kernel_rfl) (by kernel_rfl) (by kernel_rfl) (fun _ _ _ h => h) rfl ?_
        refine ah_take 30 (fun w9 hs => (hs.fewer 2 rfl)) rfl rfl rfl (by kernel_rfl) (by kernel_rfl) (by kernel_rfl) (fun _ _ _ h => h) rfl (q_pickF rfl rfl) ?_
        refine ah_take 31 (fun w9 hs => (hs.fewer 2 rfl)) rfl rfl rfl (by kernel_rfl) (by kernel_rfl) (by kernel_rfl) (fun _ _ _ h => h) rfl (q_move rfl) ?_
        refine ah_skip 32 (fun w9 hs => (hs.fewer 2 rfl)) rfl rfl rfl (by kernel_rfl) (by kernel_rfl) (by kernel_rfl) (fun _ _ _ h => h) rfl ?_
        refine ah_skip 33 (fun w9 hs => (hs.fewer 2 rfl)) rfl rfl rfl (by kernel_rfl) (by kernel_rfl) (by kernel_rfl) (fun _ _ _ h => h) rfl ?_
        refine ah_skip 34 (fun w9 hs => (hs.fewer 2 rfl)) rfl rfl rfl (by kernel_rfl) (by kernel_rfl) (by kernel_rfl) (fun _ _ _ h => h) rfl ?_
        refine ah_skip 35 (fun w9 hs => (hs.fewer 2 rfl)) rfl rfl rfl (by kernel_rfl) (by kernel_rfl) (by kernel_rfl) (fun _ _ _ h => h) rfl ?_
        refine ah_skip 36 (fun w9 hs => (hs.fewer 2 rfl)) rfl rfl rfl (by kernel_rfl) (by kernel_rfl) (by kernel_rfl) (fun _ _ _ h => h) rfl ?_
        refine ah_skip 37 (fun w9 hs => (hs.fewer 2 rfl)) rfl rfl rfl (by kernel_rfl) (by kernel_rfl) (by kernel_rfl) (fun _ _ _ h => h) rfl ?_
        refine ah_skip 38 (fun w9 hs => (hs.fewer 2 rfl)) rfl rfl rfl (by kernel_rfl) (by kernel_rfl) (by kernel_rfl) (fun _ _ _ h => h) rfl ?_
        refine ah_take 39 (fun w9 hs => (hs.fewer 2 rfl)) rfl rfl rfl (by kernel_rfl) (by kernel_rfl) (by kernel_rfl) (fun _ _ _ h => h) rfl (q_pickF rfl rfl) ?_
        refine ah_take 40 (fun w9 hs => (hs.fewer 2 rfl)) rfl rfl rfl (by kernel_rfl) (by kernel_rfl) (by kernel_rfl) (fun _ _ _ h => h) rfl (q_move rfl) ?_
        refine ah_skip 41 (fun w9 hs => (hs.fewer 2 rfl)) rfl rfl rfl (by kernel_rfl) (by kernel_rfl) (by kernel_rfl) (fun _ _ _ h => h) rfl ?_
        refine ah_skip 42 (fun w9 hs => (hs.fewer 2 rfl)) rfl rfl rfl (by kernel_rfl) (by kernel_rfl) (by kernel_rfl) (fun _ _ _ h => h) rfl ?_
        refine ah_skip 43 (fun w9 hs => (hs.fewer 2 rfl)) rfl rfl rfl (by kernel_rfl) (by kernel_rfl) (by kernel_rfl) (fun _ _ _ h => h) rfl ?_
        refine ah_take 44 (fun w9 hs => (hs.fewer 2 rfl)) rfl rfl rfl (by kernel_rfl) (by kernel_rfl) (by kernel_rfl) (fun _ _ _ h => h) rfl (q_pickF rfl rfl) ?_
        refine ah_take 45 (fun w9 hs => (hs.fewer 2 rfl)) rfl rfl rfl (by kernel_rfl) (by kernel_rfl) (by kernel_rfl) (fun _ _ _ h => h) rfl (q_move rfl) ?_
        refine ah_skip 46 (fun w9 hs => (hs.fewer 2 rfl)) rfl rfl rfl (by kernel_rfl) (by kernel_rfl) (by kernel_rfl) (fun _ _ _ h => h) rfl ?_
        refine ah_skip 47 (fun w9 hs => (hs.fewer 2 rfl)) rfl rfl rfl (by kernel_rfl) (by kernel_rfl) (by kernel_rfl) (fun _ _ _ h => h) rfl ?_
        refine ah_skip 48 (fun w9 hs => (hs.fewer 2 rfl)) rfl rfl rfl (by kernel_rfl) (by kernel_rfl) (by kernel_rfl) (fun _ _ _ h => h) rfl ?_
        refine ah_take 49 (fun w9 hs => (hs.fewer 2 rfl)) rfl rfl rfl (by kernel_rfl) (by kernel_rfl) (by kernel_rfl) (fun _ _ _ h => h) rfl (q_pickF rfl rfl) ?_
        refine ah_one 50 rfl (by kernel_rfl) (fun hok12 hcl12 => ?_)
        refine al_q (q_assign rfl) rfl rfl rfl ?_
        refine al_end (ah_last (by kernel_rfl) ?_)
        refine aq_then ?_
        refine ac_ret ?_
        refine ret1 Tryz.results38 rfl (fun w9 hs => ?_)
        refine ⟨?_, hs.below⟩; simp [validC, na, la, nb, lb, nc, q1, q2, q3]
    · have q2 : ¬ Q.la = R.la := by have := of_decide_eq_false hb2; omega
      refine ah_skip 13 (fun w9 hs => (hs.fewer 1 rfl)) rfl rfl rfl (by kernel_rfl) (by kernel_rfl) (by kernel_rfl) (fun _ _ _ h => h) rfl ?_
      refine ah_skip 14 (fun w9 hs => (hs.fewer 1 rfl)) rfl rfl rfl (by kernel_rfl) (by kernel_rfl) (by kernel_rfl) (fun _ _ _ h => h) rfl ?_
      refine ah_skip 15 (fun w9 hs => (hs.fewer 1 rfl)) rfl rfl rfl (by kernel_rfl) (by kernel_rfl) (by kernel_rfl) (fun _ _ _ h => h) rfl ?_
      refine ah_take 16 (fun w9 hs => (hs.fewer 1 rfl)) rfl rfl rfl (by kernel_rfl) (by kernel_rfl) (by kernel_rfl) (fun _ _ _ h => h) rfl (q_pickF rfl rfl) ?_
      refine ah_take 17 (fun w9 hs => (hs.fewer 1 rfl)) rfl rfl rfl (by kernel_rfl) (by kernel_rfl) (by kernel_rfl) (fun _ _ _ h => h) rfl (q_move rfl) ?_
      refine ah_skip 18 (fun w9 hs => (hs.fewer 1 rfl)) rfl rfl rfl (by kernel_rfl) (by kernel_rfl) (by kernel_rfl) (fun _ _ _ h => h) rfl ?_
      refine ah_skip 19 (fun w9 hs => (hs.fewer 1 rfl)) rfl rfl rfl (by kernel_rfl) (by kernel_rfl) (by kernel_rfl) (fun _ _ _ h => h) rfl ?_
      refine ah_skip 20 (fun w9 hs => (hs.fewer 1 rfl)) rfl rfl rfl (by kernel_rfl) (by kernel_rfl) (by kernel_rfl) (fun _ _ _ h => h) rfl ?_
      refine ah_skip 21 (fun w9 hs => (hs.fewer 1 rfl)) rfl rfl rfl (by kernel_rfl) (by kernel_rfl) (by kernel_rfl) (fun _ _ _ h => h) rfl ?_
      refine ah_skip 22 (fun w9 hs => (hs.fewer 1 rfl)) rfl rfl rfl (by kernel_rfl) (by kernel_rfl) (by kernel_rfl) (fun _ _ _ h => h) rfl ?_
      refine ah_skip 23 (fun w9 hs => (hs.fewer 1 rfl)) rfl rfl rfl (by kernel_rfl) (by kernel_rfl) (by kernel_rfl) (fun _ _ _ h => h) rfl ?_
      refine ah_skip 24 (fun w9 hs => (hs.fewer 1 rfl)) rfl rfl rfl (by kernel_rfl) (by kernel_rfl) (by kernel_rfl) (fun _ _ _ h => h) rfl ?_
      refine ah_take 25 (fun w9 hs => (hs.fewer 1 rfl)) rfl rfl rfl (by kernel_rfl) (by kernel_rfl) (by kernel_rfl) (fun _ _ _ h => h) rfl (q_pickF rfl rfl) ?_
      refine ah_take 26 (fun w9 hs => (hs.fewer 1 rfl)) rfl rfl rfl (by kernel_rfl) (by kernel_rfl) (by kernel_rfl) (fun _ _ _ h => h) rfl (q_move rfl) ?_
      refine ah_skip 27 (fun w9 hs => (hs.fewer 1 rfl)) rfl rfl rfl (by kernel_rfl) (by kernel_rfl) (by kernel_rfl) (fun _ _ _ h => h) rfl ?_
      refine ah_skip 28 (fun w9 hs => (hs.fewer 1 rfl)) rfl rfl rfl (by kernel_rfl) (by kernel_rfl) (by kernel_rfl) (fun _ _ _ h => h) rfl ?_
      refine ah_skip 29 (fun w9 hs => (hs.fewer 1 rfl)) rfl rfl rfl (by kernel_rfl) (by kernel_rfl) (by kernel_rfl) (fun _ _ _ h => h) rfl ?_
      refine ah_take 30 (fun w9 hs => (hs.fewer 1 rfl)) rfl rfl rfl (by kernel_rfl) (by kernel_rfl) (by kernel_rfl) (fun _ _ _ h => h) rfl (q_pickF rfl rfl) ?_
      refine ah_take 31 (fun w9 hs => (hs.fewer 1 rfl)) rfl rfl rfl (by kernel_rfl) (by kernel_rfl) (by kernel_rfl) (fun _ _ _ h => h) rfl (q_move rfl) ?_
      refine ah_skip 32 (fun w9 hs => (hs.fewer 1 rfl)) rfl rfl rfl (by kernel_rfl) (by kernel_rfl) (by kernel_rfl) (fun _ _ _ h => h) rfl ?_
      refine ah_skip 33 (fun w9 hs => (hs.fewer 1 rfl)) rfl rfl rfl (by kernel_rfl) (by kernel_rfl) (by kernel_rfl) (fun _ _ _ h => h) rfl ?_
      refine ah_skip 34 (fun w9 hs => (hs.fewer 1 rfl)) rfl rfl rfl (by kernel_rfl) (by kernel_rfl) (by kernel_rfl) (fun _ _ _ h => h) rfl ?_
      refine ah_skip 35 (fun w9 hs => (hs.fewer 1 rfl)) rfl rfl rfl (by kernel_rfl) (by kernel_rfl) (by kernel_rfl) (fun _ _ _ h => h) rfl ?_
      refine ah_skip 36 (fun w9 hs => (hs.fewer 1 rfl)) rfl rfl rfl (by kernel_rfl) (by kernel_rfl) (by kernel_rfl) (fun _ _ _ h => h) rfl ?_
      refine ah_skip 37 (fun w9 hs => (hs.fewer 1 rfl)) rfl rfl rfl (by kernel_rfl) (by kernel_rfl) (by kernel_rfl) (fun _ _ _ h => h) rfl ?_
      refine ah_skip 38 (fun w9 hs => (hs.fewer 1 rfl)) rfl rfl rfl (by kernel_rfl) (by kernel_rfl) (by kernel_rfl) (fun _ _ _ h => h) rfl ?_
      refine ah_take 39 (fun w9 hs => (hs.fewer 1 rfl)) rfl rfl rfl (by kernel_rfl) (by kernel_rfl) (by kernel_rfl) (fun _ _ _ h => h) rfl (q_pickF rfl rfl) ?_
      refine ah_take 40 (fun w9 hs => (hs.fewer 1 rfl)) rfl rfl rfl (by kernel_rfl) (by kernel_rfl) (by kernel_rfl) (fun _ _ _ h => h) rfl (q_move rfl) ?_
      refine ah_skip 41 (fun w9 hs => (hs.fewer 1 rfl)) rfl rfl rfl (by kernel_rfl) (by kernel_rfl) (by kernel_rfl) (fun _ _ _ h => h) rfl ?_
      refine ah_skip 42 (fun w9 hs => (hs.fewer 1 rfl)) rfl rfl rfl (by kernel_rfl) (by kernel_rfl) (by kernel_rfl) (fun _ _ _ h => h) rfl ?_
      refine ah_skip 43 (fun w9 hs => (hs.fewer 1 rfl)) rfl rfl rfl (by kernel_rfl) (by kernel_rfl) (by kernel_rfl) (fun _ _ _ h => h) rfl ?_
      refine ah_take 44 (fun w9 hs => (hs.fewer 1 rfl)) rfl rfl rfl (by kernel_rfl) (by kernel_rfl) (by kernel_rfl) (fun _ _ _ h => h) rfl (q_pickF rfl rfl) ?_
      refine ah_take 45 (fun w9 hs => (hs.fewer 1 rfl)) rfl rfl rfl (by kernel_rfl) (by kernel_rfl) (by kernel_rfl) (fun _ _ _ h => h) rfl (q_move rfl) ?_
      refine ah_skip 46 (fun w9 hs => (hs.fewer 1 rfl)) rfl rfl rfl (by kernel_rfl) (by kernel_rfl) (by kernel_rfl) (fun _ _ _ h => h) rfl ?_
      refine ah_skip 47 (fun w9 hs => (hs.fewer 1 rfl)) rfl rfl rfl (by kernel_rfl) (by kernel_rfl) (by kernel_rfl) (fun _ _ _ h => h) rfl ?_
      refine ah_skip 48 (fun w9 hs => (hs.fewer 1 rfl)) rfl rfl rfl (by kernel_rfl) (by kernel_rfl) (by kernel_rfl) (fun _ _ _ h => h) rfl ?_
      refine ah_take 49 (fun w9 hs => (hs.fewer 1 rfl)) rfl rfl rfl (by kernel_rfl) (by kernel_rfl) (by kernel_rfl) (fun _ _ _ h => h) rfl (q_pickF rfl rfl) ?_
      refine ah_one 50 rfl (by kernel_rfl) (fun hok13 hcl13 => ?_)
      refine al_q (q_assign rfl) rfl rfl rfl ?_
      refine al_end (ah_last (by kernel_rfl) ?_)
      refine aq_then ?_
      refine ac_ret ?_
      refine ret1 Tryz.results38 rfl (fun w9 hs => ?_)
      refine ⟨?_, hs.below⟩; simp [validC, na, la, nb, lb, nc, q1, q2]
  · have q1 : ¬ checkC M = 0 := of_decide_eq_false hb1
    refine ah_skip 4 (fun w9 hs => (hs.fewer 1 rfl)) rfl rfl rfl (by kernel_rfl) (by kernel_rfl) (by kernel_rfl) (fun _ _ _ h => h) rfl ?_
    refine ah_skip 5 (fun w9 hs => (hs.fewer 1 rfl)) rfl rfl rfl (by kernel_rfl) (by kernel_rfl) (by kernel_rfl) (fun _ _ _ h => h) rfl ?_
    refine ah_skip 6 (fun w9 hs => (hs.fewer 1 rfl)) rfl rfl rfl (by kernel_rfl) (by kernel_rfl) (by kernel_rfl) (fun _ _ _ h => h) rfl ?_
    refine ah_skip 7 (fun w9 hs => (hs.fewer 1 rfl)) rfl rfl rfl (by kernel_rfl) (by kernel_rfl) (by kernel_rfl) (fun _ _ _ h => h) rfl ?_
    refine ah_skip 8 (fun w9 hs => (hs.fewer 1 rfl)) rfl rfl rfl (by kernel_rfl) (by kernel_rfl) (by kernel_rfl) (fun _ _ _ h => h) rfl ?_
    refine ah_skip 9 (fun w9 hs => (hs.fewer 1 rfl)) rfl rfl rfl (by kernel_rfl) (by kernel_rfl) (by kernel_rfl) (fun _ _ _ h => h) rfl ?_
    refine ah_skip 10 (fun w9 hs => (hs.fewer 1 rfl)) rfl rfl rfl (by kernel_rfl) (by kernel_rfl) (by kernel_rfl) (fun _ _ _ h => h) rfl ?_
    refine ah_take 11 (fun w9 hs => (hs.fewer 1 rfl)) rfl rfl rfl (by kernel_rfl) (by kernel_rfl) (by kernel_rfl) (fun _ _ _ h => h) rfl (q_pickF rfl rfl) ?_
    refine ah_take 12 (fun w9 hs => (hs.fewer 1 rfl)) rfl rfl rfl (by kernel_rfl) (by kernel_rfl) (by kernel_rfl) (fun _ _ _ h => h) rfl (q_move rfl) ?_
    refine ah_skip 13 (fun w9 hs => (hs.fewer 1 rfl)) rfl rfl rfl (by kernel_rfl) (by kernel_rfl) (by kernel_rfl) (fun _ _ _ h => h) rfl ?_
    refine ah_skip 14 (fun w9 hs => (hs.fewer 1 rfl)) rfl rfl rfl (by kernel_rfl) (by kernel_rfl) (by kernel_rfl) (fun _ _ _ h => h) rfl ?_
    refine ah_skip 15 (fun w9 hs => (hs.fewer 1 rfl)) rfl rfl rfl (by kernel_rfl) (by kernel_rfl) (by kernel_rfl) (fun _ _ _ h => h) rfl ?_
    refine ah_take 16 (fun w9 hs => (hs.fewer 1 rfl)) rfl rfl rfl (by kernel_rfl) (by kernel_rfl) (by kernel_rfl) (fun _ _ _ h => h) rfl (q_pickF rfl rfl) ?_
    refine ah_take 17 (fun w9 hs => (hs.fewer 1 rfl)) rfl rfl rfl (by kernel_rfl) (by kernel_rfl) (by kernel_rfl) (fun _ _ _ h => h) rfl (q_move rfl) ?_
    refine ah_skip 18 (fun w9 hs => (hs.fewer 1 rfl)) rfl rfl rfl (by kernel_rfl) (by kernel_rfl) (by kernel_rfl) (fun _ _ _ h => h) rfl ?_
    refine ah_skip 19 (fun w9 hs => (hs.fewer 1 rfl)) rfl rfl rfl (by kernel_rfl) (by kernel_rfl) (by kernel_rfl) (fun _ _ _ h => h) rfl ?_
    refine ah_skip 20 (fun w9 hs => (hs.fewer 1 rfl)) rfl rfl rfl (by kernel_rfl) (by kernel_rfl) (by kernel_rfl) (fun _ _ _ h => h) rfl ?_
    refine ah_skip 21 (fun w9 hs => (hs.fewer 1 rfl)) rfl rfl rfl (by kernel_rfl) (by kernel_rfl) (by kernel_rfl) (fun _ _ _ h => h) rfl ?_
    refine ah_skip 22 (fun w9 hs => (hs.fewer 1 rfl)) rfl rfl rfl (by kernel_rfl) (by kernel_rfl) (by kernel_rfl) (fun _ _ _ h => h) rfl ?_
    refine ah_skip 23 (fun w9 hs => (hs.fewer 1 rfl)) rfl rfl rfl (by kernel_rfl) (by kernel_rfl) (by kernel_rfl) (fun _ _ _ h => h) rfl ?_
    refine ah_skip 24 (fun w9 hs => (hs.fewer 1 rfl)) rfl rfl rfl (by kernel_rfl) (by kernel_rfl) (by kernel_rfl) (fun _ _ _ h => h) rfl ?_
    refine ah_take 25 (fun w9 hs => (hs.fewer 1 rfl)) rfl rfl rfl (by kernel_rfl) (by kernel_rfl) (by kernel_rfl) (fun _ _ _ h => h) rfl (q_pickF rfl rfl) ?_
    refine ah_take 26 (fun w9 hs => (hs.fewer 1 rfl)) rfl rfl rfl (by kernel_rfl) (by kernel_rfl) (by kernel_rfl) (fun _ _ _ h => h) rfl (q_move rfl) ?_
    refine ah_skip 27 (fun w9 hs => (hs.fewer 1 rfl)) rfl rfl rfl (by kernel_rfl) (by kernel_rfl) (by kernel_rfl) (fun _ _ _ h => h) rfl ?_
    refine ah_skip 28 (fun w9 hs => (hs.fewer 1 rfl)) rfl rfl rfl (by kernel_rfl) (by kernel_rfl) (by kernel_rfl) (fun _ _ _ h => h) rfl ?_
    refine ah_skip 29 (fun w9 hs => (hs.fewer 1 rfl)) rfl rfl rfl (by kernel_rfl) (by kernel_rfl) (by kernel_rfl) (fun _ _ _ h => h) rfl ?_
    refine ah_take 30 (fun w9 hs => (hs.fewer 1 rfl)) rfl rfl rfl (by kernel_rfl) (by kernel_rfl) (by kernel_rfl) (fun _ _ _ h => h) rfl (q_pickF rfl rfl) ?_
    refine ah_take 31 (fun w9 hs => (hs.fewer 1 rfl)) rfl rfl rfl (by kernel_rfl) (by kernel_rfl) (by kernel_rfl) (fun _ _ _ h => h) rfl (q_move rfl) ?_
    refine ah_skip 32 (fun w9 hs => (hs.fewer 1 rfl)) rfl rfl rfl (by kernel_rfl) (by kernel_rfl) (by kernel_rfl) (fun _ _ _ h => h) rfl ?_
    refine ah_skip 33 (fun w9 hs => (hs.fewer 1 rfl)) rfl rfl rfl (by kernel_rfl) (by kernel_rfl) (by kernel_rfl) (fun _ _ _ h => h) rfl ?_
    refine ah_skip 34 (fun w9 hs => (hs.fewer 1 rfl)) rfl rfl rfl (by kernel_rfl) (by kernel_rfl) (by kernel_rfl) (fun _ _ _ h => h) rfl ?_
    refine ah_skip 35 (fun w9 hs => (hs.fewer 1 rfl)) rfl rfl rfl (by kernel_rfl) (by kernel_rfl) (by kernel_rfl) (fun _ _ _ h => h) rfl ?_
    refine ah_skip 36 (fun w9 hs => (hs.fewer 1 rfl)) rfl rfl rfl (by kernel_rfl) (by kernel_rfl) (by kernel_rfl) (fun _ _ _ h => h) rfl ?_
    refine ah_skip 37 (fun w9 hs => (hs.fewer 1 rfl)) rfl rfl rfl (by kernel_rfl) (by kernel_rfl) (by kernel_rfl) (fun _ _ _ h => h) rfl ?_
    refine ah_skip 38 (fun w9 hs => (hs.fewer 1 rfl)) rfl rfl rfl (by kernel_rfl) (by kernel_rfl) (by kernel_rfl) (fun _ _ _ h => h) rfl ?_
    refine ah_take 39 (fun w9 hs => (hs.fewer 1 rfl)) rfl rfl rfl (by kernel_rfl) (by kernel_rfl) (by kernel_rfl) (fun _ _ _ h => h) rfl (q_pickF rfl rfl) ?_
    refine ah_take 40 (fun w9 hs => (hs.fewer 1 rfl)) rfl rfl rfl (by kernel_rfl) (by kernel_rfl) (by kernel_rfl) (fun _ _ _ h => h) rfl (q_move rfl) ?_
    refine ah_skip 41 (fun w9 hs => (hs.fewer 1 rfl)) rfl rfl rfl (by kernel_rfl) (by kernel_rfl) (by kernel_rfl) (fun _ _ _ h => h) rfl ?_
    refine ah_skip 42 (fun w9 hs => (hs.fewer 1 rfl)) rfl rfl rfl (by kernel_rfl) (by kernel_rfl) (by kernel_rfl) (fun _ _ _ h => h) rfl ?_
    refine ah_skip 43 (fun w9 hs => (hs.fewer 1 rfl)) rfl rfl rfl (by kernel_rfl) (by kernel_rfl) (by kernel_rfl) (fun _ _ _ h => h) rfl ?_
    refine ah_take 44 (fun w9 hs => (hs.fewer 1 rfl)) rfl rfl rfl (by kernel_rfl) (by kernel_rfl) (by kernel_rfl) (fun _ _ _ h => h) rfl (q_pickF rfl rfl) ?_
    refine ah_take 45 (fun w9 hs => (hs.fewer 1 rfl)) rfl rfl rfl (by kernel_rfl) (by kernel_rfl) (by kernel_rfl) (fun _ _ _ h => h) rfl (q_move rfl) ?_
    refine ah_skip 46 (fun w9 hs => (hs.fewer 1 rfl)) rfl rfl rfl (by kernel_rfl) (by kernel_rfl) (by kernel_rfl) (fun _ _ _ h => h) rfl ?_
    refine ah_skip 47 (fun w9 hs => (hs.fewer 1 rfl)) rfl rfl rfl (by kernel_rfl) (by kernel_rfl) (by kernel_rfl) (fun _ _ _ h => h) rfl ?_
    refine ah_skip 48 (fun w9 hs => (hs.fewer 1 rfl)) rfl rfl rfl (by kernel_rfl) (by kernel_rfl) (by kernel_rfl) (fun _ _ _ h => h) rfl ?_
    refine ah_take 49 (fun w9 hs => (hs.fewer 1 rfl)) rfl rfl rfl (by kernel_rfl) (by kernel_rfl) (by kernel_rfl) (fun _ _ _ h => h) rfl (q_pickF rfl rfl) ?_
    refine ah_one 50 rfl (by kernel_rfl) (fun hok14 hcl14 => ?_)
    refine al_q (q_assign rfl) rfl rfl rfl ?_
    refine al_end (ah_last (by kernel_rfl) ?_)
    refine aq_then ?_
    refine ac_ret ?_
    refine ret1 Tryz.results38 rfl (fun w9 hs => ?_)
    refine ⟨?_, hs.below⟩; simp [validC, na, la, nb, lb, nc, q1]

end Go.Proofs.YtjjajleiladbhaaGreatDoor
end
section
/- Package machine: the contract of Influence, over this seat's translation. -/
namespace Go.Proofs.YtjjajleiladbhaaGreatDoor
set_option linter.unusedVariables false
set_option linter.unusedSimpArgs false
open Go.RowKit

/-- The influence of two places. -/
def infl (a b c d : Int) : Int := if nearB a b 1000 = true ∧ nearB c d 1000 = true then 1000000 / (4 + (a - c) * (a - c) + (b - d) * (b - d)) else 0

theorem sq_bd {x : Int} (h0 : -2000 ≤ x) (h1 : x ≤ 2000) : 0 ≤ x * x ∧ x * x ≤ 4000000 := by
  rcases Int.le_total 0 x with h | h
  · exact ⟨Int.mul_nonneg h h, Int.mul_le_mul h1 h1 h (by omega)⟩
  · rw [← Int.neg_mul_neg]
    exact ⟨Int.mul_nonneg (by omega) (by omega), Int.mul_le_mul (a := -x) (b := -x) (c := 2000) (d := 2000) (by omega) (by omega) (by omega) (by omega)⟩
theorem nearB_bd {r z f : Int} (h : nearB r z f = true) : (-f ≤ r ∧ r ≤ f) ∧ -f ≤ z ∧ z ≤ f := by simpa [nearB, wthn] using h
theorem infl_bd (a b c d : Int) : 0 ≤ infl a b c d ∧ infl a b c d ≤ 250000 := by
  unfold infl
  split
  · rename_i h
    have h1 := nearB_bd h.1
    have h2 := nearB_bd h.2
    have s1 := sq_bd (x := a - c) (by omega) (by omega)
    have s2 := sq_bd (x := b - d) (by omega) (by omega)
    generalize (a - c) * (a - c) = p at *
    generalize (b - d) * (b - d) = q at *
    refine ⟨Int.ediv_nonneg (by omega) (by omega), ?_⟩
    have : 1000000 / (4 + p + q) ≤ 1000000 / 4 := by
      rw [Int.le_ediv_iff_mul_le (by omega)]
      have h4 : 1000000 / (4 + p + q) * (4 + p + q) ≤ 1000000 := Int.ediv_mul_le _ (by omega)
      have h5 : 0 ≤ 1000000 / (4 + p + q) := Int.ediv_nonneg (by omega) (by omega)
      have h6 : 1000000 / (4 + p + q) * 4 ≤ 1000000 / (4 + p + q) * (4 + p + q) := Int.mul_le_mul_of_nonneg_left (by omega) h5
      omega
    omega
  · omega

set_option maxRecDepth 100000 in
set_option maxHeartbeats 2000000 in
theorem influence_any (a b c d : Int) (w : World) :
    Calls Tryz.prog 30 #[.agg #[.int .i64 a, .int .i64 b], .agg #[.int .i64 c, .int .i64 d]] w (Ret (.int .i64 (infl a b c d)) w) := by
  cases n1 : nearB a b 1000
  · have HE : Hid (infl a b c d = 0) := Lib.hid (by unfold infl; rw [if_neg (by simp [n1])])
    go_enter Tryz.func30, Tryz.ntmps30
    go_wp2_with (go_at_call 80; refine (near_any _ _ _ _ (by omega) (by omega)).mono ?_; rintro e w1 ⟨rfl, rfl⟩)
    go_ret
    exact ⟨by rw [HE.out]; rfl, by (with_reducible repeat first | exact Below.refl _ _ | assumption | ((first | refine Below.setCell ?_ ?_ _ | refine Below.alloc ?_ ?_ _); rotate_left; exact (by first | omega | (simp; done) | (simp; omega))) | refine Below.drew ?_ | refine Below_drewN ?_ _)⟩
  cases n2 : nearB c d 1000
  · have HE : Hid (infl a b c d = 0) := Lib.hid (by unfold infl; rw [if_neg (by simp [n2])])
    go_enter Tryz.func30, Tryz.ntmps30
    go_wp2_with (go_at_call 80; refine (near_any _ _ _ _ (by omega) (by omega)).mono ?_; rintro e w1 ⟨rfl, rfl⟩)
    go_ret
    exact ⟨by rw [HE.out]; rfl, by (with_reducible repeat first | exact Below.refl _ _ | assumption | ((first | refine Below.setCell ?_ ?_ _ | refine Below.alloc ?_ ?_ _); rotate_left; exact (by first | omega | (simp; done) | (simp; omega))) | refine Below.drew ?_ | refine Below_drewN ?_ _)⟩
  have HE : Hid (infl a b c d = 1000000 / (4 + (a - c) * (a - c) + (b - d) * (b - d))) := Lib.hid (by unfold infl; rw [if_pos ⟨n1, n2⟩])
  obtain ⟨⟨a0, a1⟩, b0, b1⟩ := nearB_bd n1
  obtain ⟨⟨c0, c1⟩, d0, d1⟩ := nearB_bd n2
  have s1 := sq_bd (x := a - c) (by omega) (by omega)
  have s2 := sq_bd (x := b - d) (by omega) (by omega)
  have e1 : IntKind.i64.wrap (a - c) = a - c := IntWalk.i64_in _ (by omega)
  have e2 : IntKind.i64.wrap (b - d) = b - d := IntWalk.i64_in _ (by omega)
  go_enter Tryz.func30, Tryz.ntmps30
  go_wp2_with (go_at_call 80; refine (near_any _ _ _ _ (by omega) (by omega)).mono ?_; rintro e w1 ⟨rfl, rfl⟩)
  go_quiet (fail)
  obtain ⟨g0, g1⟩ := infl_bd a b c d
  generalize infl a b c d = G at *
  generalize hx : a - c = x at *
  generalize hy : b - d = y at *
  clear n1 n2
  generalize hp : x * x = p at *
  generalize hq : y * y = q at *
  have k0 : ¬(4 + p + q = 0) := by omega
  have k1 : ((4 + p + q) == 0) = false := by rw [beq_eq_false_iff_ne]; omega
  have k2 : (1000000 : Int).tdiv (4 + p + q) = G := by rw [HE.out]; exact Int.tdiv_eq_ediv_of_nonneg (by omega)
  have k3 : (1000000 : Int) / (4 + p + q) = G := HE.out.symm
  clear HE
  go_wp2_with fail
  go_ret
  exact ⟨rfl, by (with_reducible repeat first | exact Below.refl _ _ | assumption | ((first | refine Below.setCell ?_ ?_ _ | refine Below.alloc ?_ ?_ _); rotate_left; exact (by first | omega | (simp; done) | (simp; omega))) | refine Below.drew ?_ | refine Below_drewN ?_ _)⟩

end Go.Proofs.YtjjajleiladbhaaGreatDoor
end
