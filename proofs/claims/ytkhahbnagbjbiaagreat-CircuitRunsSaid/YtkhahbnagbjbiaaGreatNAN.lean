import Derived.Test.YtkhahbnagbjbiaaGreatNAE
import Derived.Test.YtkhahbnagbjbiaaGreatNAJ
import Derived.Test.YtkhahbnagbjbiaaGreatNAK
import Derived.Test.YtkhahbnagbjbiaaGreatNAL
import Derived.Test.YtkhahbnagbjbiaaGreatNAM
import Derived.Test.YtkhahbnagbjbiaaGreatRows
import Derived.KernelRfl
import Derived.Laws.StructEq
import Derived.Recover
section
/- Package machine: ValidCurrents of lists of any length, over this seat's translation (written by ax_ci1.py). -/
namespace Go.Proofs.YtkhahbnagbjbiaaGreat
set_option linter.unusedVariables false
set_option linter.unusedSimpArgs false
open Go.RowKit

structure IsCw (w : World) (R : CurR) (C : CurD) : Prop where
  coils : IsT 1 intCells w R.A R.la C.coils
  shells : IsT 1 intCells w R.B R.lb C.shells
  plasma : IsT 1 intCells w R.C R.lc C.plasma
  la : R.la ≤ R.ca
  lb : R.lb ≤ R.cb
  lc : R.lc ≤ R.cc
  ca : R.ca ≤ 9223372036854775807
  cb : R.cb ≤ 9223372036854775807
  cc : R.cc ≤ 9223372036854775807

set_option maxRecDepth 100000 in
theorem validCurrents_w (R : MachR) (M : MachD) (Q : CurR) (C : CurD) (w : World) (hM : IsM w R M) (hC : IsCw w Q C) : Calls Tryz.prog 48 #[(.agg (machCells R M)), Q.v] w (Ret (.bool (validC M C)) w) := by
  have ka := hM.ka
  have kb := hM.kb
  have la := hM.coils.1
  have lb := hM.shells.1
  have na := hC.coils.1
  have nb := hC.shells.1
  have nc := hC.plasma.1
  refine calls_ax (vs := [(.agg (machCells R M)), Q.v]) Tryz.func48 rfl rfl ?_
  refine ac_seq (ac_region ?_)
  refine al_new (fun b => .pointer (some ⟨b, 0, none⟩)) (r_box rfl rfl) rfl rfl rfl ?_
  intro b1
  refine al_new (fun b => .pointer (some ⟨b, 0, none⟩)) (r_box rfl rfl) rfl rfl rfl ?_
  intro b2
  refine al_p (q_assign rfl) ?_
  refine al_end (aq_then ?_)
  refine ac_seq ?_
  refine ac_draw 50 (by kernel_rfl) (by kernel_rfl) ?_
  refine ah_t 0 (fun w9 hs => hs) rfl rfl (by kernel_rfl) (q_loadAll (i := 1) rfl rfl Tryz.isAgg29 Tryz.sizeOf29 rfl) ?_
  refine ah_one 1 rfl (by kernel_rfl) (fun hok1 hcl1 => ?_)
  refine al_call Tryz.call40 (.cons rfl .nil) rfl rfl (fun w1 hs1 => ?_)
  refine (check_any R M _ (hM.below hs1.below)).mono ?_
  rintro e u1 ⟨rfl, hb_1⟩
  refine ⟨_, rfl, hb_1, ?_⟩
  clear hs1
  refine al_end (ah_back hok1 hcl1 (fun w9 hs => (hs.fewer 1 rfl)) ?_)
  refine ah_t 2 (fun w9 hs => (hs.fewer 1 rfl)) rfl rfl (by kernel_rfl) (q_eql rfl rfl) ?_
  refine ah_t 3 (fun w9 hs => (hs.fewer 1 rfl)) rfl rfl (by kernel_rfl) (q_move rfl) ?_
  refine ah_split 8 rfl (fun hb1 => ?_) (fun hb1 => ?_)
  · have q1 : checkC M = 0 := of_decide_eq_true hb1
    have hcf := cells_fine (fine_grid (grid_of q1))
    refine ah_t 4 (fun w9 hs => (hs.fewer 1 rfl)) rfl rfl (by kernel_rfl) (q_fieldAddr 0 rfl Tryz.runUnderlying32 rfl Tryz.sizeOf30 (by decide) rfl) ?_
    refine ah_t 5 (fun w9 hs => (hs.fewer 1 rfl)) rfl rfl (by kernel_rfl) (q_load (i := 0) rfl rfl rfl Tryz.isAgg30) ?_
    refine ah_t 6 (fun w9 hs => (hs.fewer 1 rfl)) rfl rfl (by kernel_rfl) (q_lenS rfl Tryz.runUnderlying30) ?_
    refine ah_t 7 (fun w9 hs => (hs.fewer 1 rfl)) rfl rfl (by kernel_rfl) (q_fieldAddr 1 rfl Tryz.runUnderlying29 rfl Tryz.sizeOf22 (by decide) rfl) ?_
    refine ah_t 8 (fun w9 hs => (hs.fewer 1 rfl)) rfl rfl (by kernel_rfl) (q_load (i := 1) rfl rfl rfl Tryz.isAgg22) ?_
    refine ah_t 9 (fun w9 hs => (hs.fewer 1 rfl)) rfl rfl (by kernel_rfl) (q_lenS rfl Tryz.runUnderlying22) ?_
    refine ah_t 10 (fun w9 hs => (hs.fewer 1 rfl)) rfl rfl (by kernel_rfl) (q_eql rfl rfl) ?_
    refine ah_t 11 (fun w9 hs => (hs.fewer 1 rfl)) rfl rfl (by kernel_rfl) (q_pickT rfl rfl) ?_
    refine ah_t 12 (fun w9 hs => (hs.fewer 1 rfl)) rfl rfl (by kernel_rfl) (q_move rfl) ?_
    refine ah_split 17 rfl (fun hb2 => ?_) (fun hb2 => ?_)
    · have q2 : Q.la = R.la := by have := of_decide_eq_true hb2; omega
      refine ah_t 13 (fun w9 hs => (hs.fewer 1 rfl)) rfl rfl (by kernel_rfl) (q_fieldAddr 0 rfl Tryz.runUnderlying32 rfl Tryz.sizeOf30 (by decide) rfl) ?_
      refine ah_t 14 (fun w9 hs => (hs.fewer 1 rfl)) rfl rfl (by kernel_rfl) (q_load (i := 0) rfl rfl rfl Tryz.isAgg30) ?_
      refine ah_one 15 rfl (by kernel_rfl) (fun hok2 hcl2 => ?_)
      refine al_call Tryz.call95 (.cons rfl (.cons rfl (.cons rfl .nil))) rfl rfl (fun w2 hs2 => ?_)
      refine (allWithin_any Q.A Q.la Q.ca C.coils (-1000000) 1000000 _ (hC.coils.below hs2.below) (by omega)).mono ?_
      rintro e u2 ⟨rfl, hb_2⟩
      refine ⟨_, rfl, hb_2, ?_⟩
      clear hs2
      refine al_end (ah_back hok2 hcl2 (fun w9 hs => (hs.fewer 2 rfl)) ?_)
      refine ah_t 16 (fun w9 hs => (hs.fewer 2 rfl)) rfl rfl (by kernel_rfl) (q_pickT rfl rfl) ?_
      refine ah_t 17 (fun w9 hs => (hs.fewer 2 rfl)) rfl rfl (by kernel_rfl) (q_move rfl) ?_
      refine ah_split 22 rfl (fun hb3 => ?_) (fun hb3 => ?_)
      · have q3 := hb3
        refine ah_t 18 (fun w9 hs => (hs.fewer 2 rfl)) rfl rfl (by kernel_rfl) (q_fieldAddr 1 rfl Tryz.runUnderlying32 rfl Tryz.sizeOf30 (by decide) rfl) ?_
        refine ah_t 19 (fun w9 hs => (hs.fewer 2 rfl)) rfl rfl (by kernel_rfl) (q_load (i := 0) rfl rfl rfl Tryz.isAgg30) ?_
        refine ah_t 20 (fun w9 hs => (hs.fewer 2 rfl)) rfl rfl (by kernel_rfl) (q_lenS rfl Tryz.runUnderlying30) ?_
        refine ah_t 21 (fun w9 hs => (hs.fewer 2 rfl)) rfl rfl (by kernel_rfl) (q_fieldAddr 2 rfl Tryz.runUnderlying29 rfl Tryz.sizeOf23 (by decide) rfl) ?_
        refine ah_t 22 (fun w9 hs => (hs.fewer 2 rfl)) rfl rfl (by kernel_rfl) (q_load (i := 1) rfl rfl rfl Tryz.isAgg23) ?_
        refine ah_t 23 (fun w9 hs => (hs.fewer 2 rfl)) rfl rfl (by kernel_rfl) (q_lenS rfl Tryz.runUnderlying23) ?_
        refine ah_t 24 (fun w9 hs => (hs.fewer 2 rfl)) rfl rfl (by kernel_rfl) (q_eql rfl rfl) ?_
        refine ah_t 25 (fun w9 hs => (hs.fewer 2 rfl)) rfl rfl (by kernel_rfl) (q_pickT rfl rfl) ?_
        refine ah_t 26 (fun w9 hs => (hs.fewer 2 rfl)) rfl rfl (by kernel_rfl) (q_move rfl) ?_
        refine ah_split 31 rfl (fun hb4 => ?_) (fun hb4 => ?_)
        · have q4 : Q.lb = R.lb := by have := of_decide_eq_true hb4; omega
          refine ah_t 27 (fun w9 hs => (hs.fewer 2 rfl)) rfl rfl (by kernel_rfl) (q_fieldAddr 1 rfl Tryz.runUnderlying32 rfl Tryz.sizeOf30 (by decide) rfl) ?_
          refine ah_t 28 (fun w9 hs => (hs.fewer 2 rfl)) rfl rfl (by kernel_rfl) (q_load (i := 0) rfl rfl rfl Tryz.isAgg30) ?_
          refine ah_one 29 rfl (by kernel_rfl) (fun hok3 hcl3 => ?_)
          refine al_call Tryz.call95 (.cons rfl (.cons rfl (.cons rfl .nil))) rfl rfl (fun w3 hs3 => ?_)
          refine (allWithin_any Q.B Q.lb Q.cb C.shells (-1000000) 1000000 _ (hC.shells.below hs3.below) (by omega)).mono ?_
          rintro e u3 ⟨rfl, hb_3⟩
          refine ⟨_, rfl, hb_3, ?_⟩
          clear hs3
          refine al_end (ah_back hok3 hcl3 (fun w9 hs => (hs.fewer 3 rfl)) ?_)
          refine ah_t 30 (fun w9 hs => (hs.fewer 3 rfl)) rfl rfl (by kernel_rfl) (q_pickT rfl rfl) ?_
          refine ah_t 31 (fun w9 hs => (hs.fewer 3 rfl)) rfl rfl (by kernel_rfl) (q_move rfl) ?_
          refine ah_split 36 rfl (fun hb5 => ?_) (fun hb5 => ?_)
          · have q5 := hb5
            refine ah_t 32 (fun w9 hs => (hs.fewer 3 rfl)) rfl rfl (by kernel_rfl) (q_fieldAddr 2 rfl Tryz.runUnderlying32 rfl Tryz.sizeOf30 (by decide) rfl) ?_
            refine ah_t 33 (fun w9 hs => (hs.fewer 3 rfl)) rfl rfl (by kernel_rfl) (q_load (i := 0) rfl rfl rfl Tryz.isAgg30) ?_
            refine ah_t 34 (fun w9 hs => (hs.fewer 3 rfl)) rfl rfl (by kernel_rfl) (q_lenS rfl Tryz.runUnderlying30) ?_
            refine ah_t 35 (fun w9 hs => (hs.fewer 3 rfl)) rfl rfl (by kernel_rfl) (q_fieldAddr 4 rfl Tryz.runUnderlying29 rfl Tryz.sizeOf26 (by decide) rfl) ?_
            refine ah_t 36 (fun w9 hs => (hs.fewer 3 rfl)) rfl rfl (by kernel_rfl) (q_loadSub (i := 1) rfl rfl Tryz.isAgg26 Tryz.sizeOf26 .k4 .k5) ?_
            refine ah_one 37 rfl (by kernel_rfl) (fun hok4 hcl4 => ?_)
            refine al_call Tryz.call83 (.cons rfl .nil) rfl rfl (fun w4 hs4 => ?_)
            refine (cells_any M.grid _ (by omega) (by omega)).mono ?_
            rintro e u4 ⟨rfl, hb_4⟩
            refine ⟨_, rfl, hb_4, ?_⟩
            clear hs4
            refine al_end (ah_back hok4 hcl4 (fun w9 hs => (hs.fewer 4 rfl)) ?_)
            refine ah_t 38 (fun w9 hs => (hs.fewer 4 rfl)) rfl rfl (by kernel_rfl) (q_eql rfl rfl) ?_
            refine ah_t 39 (fun w9 hs => (hs.fewer 4 rfl)) rfl rfl (by kernel_rfl) (q_pickT rfl rfl) ?_
            refine ah_t 40 (fun w9 hs => (hs.fewer 4 rfl)) rfl rfl (by kernel_rfl) (q_move rfl) ?_
            refine ah_split 45 rfl (fun hb6 => ?_) (fun hb6 => ?_)
            · have q6 : (Q.lc : Int) = M.grid.nr * M.grid.nz := of_decide_eq_true hb6
              refine ah_t 41 (fun w9 hs => (hs.fewer 4 rfl)) rfl rfl (by kernel_rfl) (q_fieldAddr 2 rfl Tryz.runUnderlying32 rfl Tryz.sizeOf30 (by decide) rfl) ?_
              refine ah_t 42 (fun w9 hs => (hs.fewer 4 rfl)) rfl rfl (by kernel_rfl) (q_load (i := 0) rfl rfl rfl Tryz.isAgg30) ?_
              refine ah_one 43 rfl (by kernel_rfl) (fun hok5 hcl5 => ?_)
              refine al_call Tryz.call95 (.cons rfl (.cons rfl (.cons rfl .nil))) rfl rfl (fun w5 hs5 => ?_)
              refine (allWithin_any Q.C Q.lc Q.cc C.plasma 0 1000000 _ (hC.plasma.below hs5.below) (by omega)).mono ?_
              rintro e u5 ⟨rfl, hb_5⟩
              refine ⟨_, rfl, hb_5, ?_⟩
              clear hs5
              refine al_end (ah_back hok5 hcl5 (fun w9 hs => (hs.fewer 5 rfl)) ?_)
              refine ah_t 44 (fun w9 hs => (hs.fewer 5 rfl)) rfl rfl (by kernel_rfl) (q_pickT rfl rfl) ?_
              refine ah_t 45 (fun w9 hs => (hs.fewer 5 rfl)) rfl rfl (by kernel_rfl) (q_move rfl) ?_
              refine ah_split 50 rfl (fun hb7 => ?_) (fun hb7 => ?_)
              · have q7 := hb7
                refine ah_t 46 (fun w9 hs => (hs.fewer 5 rfl)) rfl rfl (by kernel_rfl) (q_loadAll (i := 0) rfl rfl Tryz.isAgg32 Tryz.sizeOf32 rfl) ?_
                refine ah_one 47 rfl (by kernel_rfl) (fun hok6 hcl6 => ?_)
                refine al_call Tryz.call96 (.cons rfl .nil) rfl rfl (fun w6 hs6 => ?_)
                refine (total_any Q.A Q.B Q.C Q.la Q.ca Q.lb Q.cb Q.lc Q.cc C.plasma _ (hC.plasma.below hs6.below) (by omega)).mono ?_
                rintro e u6 ⟨rfl, hb_6⟩
                refine ⟨_, rfl, hb_6, ?_⟩
                clear hs6
                refine al_end (ah_back hok6 hcl6 (fun w9 hs => (hs.fewer 6 rfl)) ?_)
                refine ah_t 48 (fun w9 hs => (hs.fewer 6 rfl)) rfl rfl (by kernel_rfl) (q_leq rfl rfl) ?_
                refine ah_t 49 (fun w9 hs => (hs.fewer 6 rfl)) rfl rfl (by kernel_rfl) (q_pickT rfl rfl) ?_
                refine ah_one 50 rfl (by kernel_rfl) (fun hok7 hcl7 => ?_)
                refine al_p (q_assign rfl) ?_
                refine al_end (ah_last (by kernel_rfl) ?_)
                refine aq_then ?_
                refine ac_ret ?_
                refine ret1 Tryz.results48 rfl (fun w9 hs => ?_)
                refine ⟨?_, hs.below⟩; simp [validC, na, la, nb, lb, nc, q1, q2, q3, q4, q5, q6, q7]
              · have q7 := hb7
                refine ah_s 46 (fun w9 hs => (hs.fewer 5 rfl)) rfl rfl (by kernel_rfl) ?_
                refine ah_s 47 (fun w9 hs => (hs.fewer 5 rfl)) rfl rfl (by kernel_rfl) ?_
                refine ah_s 48 (fun w9 hs => (hs.fewer 5 rfl)) rfl rfl (by kernel_rfl) ?_
                refine ah_t 49 (fun w9 hs => (hs.fewer 5 rfl)) rfl rfl (by kernel_rfl) (q_pickF rfl rfl) ?_
                refine ah_one 50 rfl (by kernel_rfl) (fun hok8 hcl8 => ?_)
                refine al_p (q_assign rfl) ?_
                refine al_end (ah_last (by kernel_rfl) ?_)
                refine aq_then ?_
                refine ac_ret ?_
                refine ret1 Tryz.results48 rfl (fun w9 hs => ?_)
                refine ⟨?_, hs.below⟩; simp [validC, na, la, nb, lb, nc, q1, q2, q3, q4, q5, q6, q7]
            · have q6 : ¬ (Q.lc : Int) = M.grid.nr * M.grid.nz := of_decide_eq_false hb6
              refine ah_s 41 (fun w9 hs => (hs.fewer 4 rfl)) rfl rfl (by kernel_rfl) ?_
              refine ah_s 42 (fun w9 hs => (hs.fewer 4 rfl)) rfl rfl (by kernel_rfl) ?_
              refine ah_s 43 (fun w9 hs => (hs.fewer 4 rfl)) rfl rfl (by kernel_rfl) ?_
              refine ah_t 44 (fun w9 hs => (hs.fewer 4 rfl)) rfl rfl (by kernel_rfl) (q_pickF rfl rfl) ?_
              refine ah_t 45 (fun w9 hs => (hs.fewer 4 rfl)) rfl rfl (by kernel_rfl) (q_move rfl) ?_
              refine ah_s 46 (fun w9 hs => (hs.fewer 4 rfl)) rfl rfl (by kernel_rfl) ?_
              refine ah_s 47 (fun w9 hs => (hs.fewer 4 rfl)) rfl rfl (by kernel_rfl) ?_
              refine ah_s 48 (fun w9 hs => (hs.fewer 4 rfl)) rfl rfl (by kernel_rfl) ?_
              refine ah_t 49 (fun w9 hs => (hs.fewer 4 rfl)) rfl rfl (by kernel_rfl) (q_pickF rfl rfl) ?_
              refine ah_one 50 rfl (by kernel_rfl) (fun hok9 hcl9 => ?_)
              refine al_p (q_assign rfl) ?_
              refine al_end (ah_last (by kernel_rfl) ?_)
              refine aq_then ?_
              refine ac_ret ?_
              refine ret1 Tryz.results48 rfl (fun w9 hs => ?_)
              refine ⟨?_, hs.below⟩; simp [validC, na, la, nb, lb, nc, q1, q2, q3, q4, q5, q6]
          · have q5 := hb5
            refine ah_s 32 (fun w9 hs => (hs.fewer 3 rfl)) rfl rfl (by kernel_rfl) ?_
            refine ah_s 33 (fun w9 hs => (hs.fewer 3 rfl)) rfl rfl (by kernel_rfl) ?_
            refine ah_s 34 (fun w9 hs => (hs.fewer 3 rfl)) rfl rfl (by kernel_rfl) ?_
            refine ah_s 35 (fun w9 hs => (hs.fewer 3 rfl)) rfl rfl (by kernel_rfl) ?_
            refine ah_s 36 (fun w9 hs => (hs.fewer 3 rfl)) rfl rfl (by kernel_rfl) ?_
            refine ah_s 37 (fun w9 hs => (hs.fewer 3 rfl)) rfl rfl (by kernel_rfl) ?_
            refine ah_s 38 (fun w9 hs => (hs.fewer 3 rfl)) rfl rfl (by kernel_rfl) ?_
            refine ah_t 39 (fun w9 hs => (hs.fewer 3 rfl)) rfl rfl (by kernel_rfl) (q_pickF rfl rfl) ?_
            refine ah_t 40 (fun w9 hs => (hs.fewer 3 rfl)) rfl rfl (by kernel_rfl) (q_move rfl) ?_
            refine ah_s 41 (fun w9 hs => (hs.fewer 3 rfl)) rfl rfl (by kernel_rfl) ?_
            refine ah_s 42 (fun w9 hs => (hs.fewer 3 rfl)) rfl rfl (by kernel_rfl) ?_
            refine ah_s 43 (fun w9 hs => (hs.fewer 3 rfl)) rfl rfl (by kernel_rfl) ?_
            refine ah_t 44 (fun w9 hs => (hs.fewer 3 rfl)) rfl rfl (by kernel_rfl) (q_pickF rfl rfl) ?_
            refine ah_t 45 (fun w9 hs => (hs.fewer 3 rfl)) rfl rfl (by kernel_rfl) (q_move rfl) ?_
            refine ah_s 46 (fun w9 hs => (hs.fewer 3 rfl)) rfl rfl (by kernel_rfl) ?_
            refine ah_s 47 (fun w9 hs => (hs.fewer 3 rfl)) rfl rfl (by kernel_rfl) ?_
            refine ah_s 48 (fun w9 hs => (hs.fewer 3 rfl)) rfl rfl (by kernel_rfl) ?_
            refine ah_t 49 (fun w9 hs => (hs.fewer 3 rfl)) rfl rfl (by kernel_rfl) (q_pickF rfl rfl) ?_
            refine ah_one 50 rfl (by kernel_rfl) (fun hok10 hcl10 => ?_)
            refine al_p (q_assign rfl) ?_
            refine al_end (ah_last (by kernel_rfl) ?_)
            refine aq_then ?_
            refine ac_ret ?_
            refine ret1 Tryz.results48 rfl (fun w9 hs => ?_)
            refine ⟨?_, hs.below⟩; simp [validC, na, la, nb, lb, nc, q1, q2, q3, q4, q5]
        · have q4 : ¬ Q.lb = R.lb := by have := of_decide_eq_false hb4; omega
          refine ah_s 27 (fun w9 hs => (hs.fewer 2 rfl)) rfl rfl (by kernel_rfl) ?_
          refine ah_s 28 (fun w9 hs => (hs.fewer 2 rfl)) rfl rfl (by kernel_rfl) ?_
          refine ah_s 29 (fun w9 hs => (hs.fewer 2 rfl)) rfl rfl (by kernel_rfl) ?_
          refine ah_t 30 (fun w9 hs => (hs.fewer 2 rfl)) rfl rfl (by kernel_rfl) (q_pickF rfl rfl) ?_
          refine ah_t 31 (fun w9 hs => (hs.fewer 2 rfl)) rfl rfl (by kernel_rfl) (q_move rfl) ?_
          refine ah_s 32 (fun w9 hs => (hs.fewer 2 rfl)) rfl rfl (by kernel_rfl) ?_
          refine ah_s 33 (fun w9 hs => (hs.fewer 2 rfl)) rfl rfl (by kernel_rfl) ?_
          refine ah_s 34 (fun w9 hs => (hs.fewer 2 rfl)) rfl rfl (by kernel_rfl) ?_
          refine ah_s 35 (fun w9 hs => (hs.fewer 2 rfl)) rfl rfl (by kernel_rfl) ?_
          refine ah_s 36 (fun w9 hs => (hs.fewer 2 rfl)) rfl rfl (by kernel_rfl) ?_
          refine ah_s 37 (fun w9 hs => (hs.fewer 2 rfl)) rfl rfl (by kernel_rfl) ?_
          refine ah_s 38 (fun w9 hs => (hs.fewer 2 rfl)) rfl rfl (by kernel_rfl) ?_
          refine ah_t 39 (fun w9 hs => (hs.fewer 2 rfl)) rfl rfl (by kernel_rfl) (q_pickF rfl rfl) ?_
          refine ah_t 40 (fun w9 hs => (hs.fewer 2 rfl)) rfl rfl (by kernel_rfl) (q_move rfl) ?_
          refine ah_s 41 (fun w9 hs => (hs.fewer 2 rfl)) rfl rfl (by kernel_rfl) ?_
          refine ah_s 42 (fun w9 hs => (hs.fewer 2 rfl)) rfl rfl (by kernel_rfl) ?_
          refine ah_s 43 (fun w9 hs => (hs.fewer 2 rfl)) rfl rfl (by kernel_rfl) ?_
          refine ah_t 44 (fun w9 hs => (hs.fewer 2 rfl)) rfl rfl (by kernel_rfl) (q_pickF rfl rfl) ?_
          refine ah_t 45 (fun w9 hs => (hs.fewer 2 rfl)) rfl rfl (by kernel_rfl) (q_move rfl) ?_
          refine ah_s 46 (fun w9 hs => (hs.fewer 2 rfl)) rfl rfl (by kernel_rfl) ?_
          refine ah_s 47 (fun w9 hs => (hs.fewer 2 rfl)) rfl rfl (by kernel_rfl) ?_
          refine ah_s 48 (fun w9 hs => (hs.fewer 2 rfl)) rfl rfl (by kernel_rfl) ?_
          refine ah_t 49 (fun w9 hs => (hs.fewer 2 rfl)) rfl rfl (by kernel_rfl) (q_pickF rfl rfl) ?_
          refine ah_one 50 rfl (by kernel_rfl) (fun hok11 hcl11 => ?_)
          refine al_p (q_assign rfl) ?_
          refine al_end (ah_last (by kernel_rfl) ?_)
          refine aq_then ?_
          refine aq_keepL [4] (.cons rfl .nil) ?_
          refine aq_keepB (.drop (.drop .nil)) ?_
          refine ac_ret ?_
          refine ret1 Tryz.results48 rfl (fun w9 hs => ?_)
          refine ⟨?_, hs.below⟩; simp [validC, na, la, nb, lb, nc, q1, q2, q3, q4]
      · have q3 := hb3
        refine ah_s 18 (fun w9 hs => (hs.fewer 2 rfl)) rfl rfl (by kernel_rfl) ?_
        refine ah_s 19 (fun w9 hs => (hs.fewer 2 rfl)) rfl rfl (by kernel_rfl) ?_
        refine ah_s 20 (fun w9 hs => (hs.fewer 2 rfl)) rfl rfl (by kernel_rfl) ?_
        refine ah_s 21 (fun w9 hs => (hs.fewer 2 rfl)) rfl rfl (by kernel_rfl) ?_
        refine ah_s 22 (fun w9 hs => (hs.fewer 2 rfl)) rfl rfl (by kernel_rfl) ?_
        refine ah_s 23 (fun w9 hs => (hs.fewer 2 rfl)) rfl rfl (by kernel_rfl) ?_
        refine ah_s 24 (fun w9 hs => (hs.fewer 2 rfl)) rfl rfl (by kernel_rfl) ?_
        refine ah_t 25 (fun w9 hs => (hs.fewer 2 rfl)) rfl rfl (by kernel_rfl) (q_pickF rfl rfl) ?_
        refine ah_t 26 (fun w9 hs => (hs.fewer 2 rfl)) rfl rfl (by kernel_rfl) (q_move rfl) ?_
        refine ah_s 27 (fun w9 hs => (hs.fewer 2 rfl)) rfl rfl (by kernel_rfl) ?_
        refine ah_s 28 (fun w9 hs => (hs.fewer 2 rfl)) rfl rfl (by kernel_rfl) ?_
        refine ah_s 29 (fun w9 hs => (hs.fewer 2 rfl)) rfl rfl (by kernel_rfl) ?_
        refine ah_t 30 (fun w9 hs => (hs.fewer 2 rfl)) rfl rfl (by kernel_rfl) (q_pickF rfl rfl) ?_
        refine ah_t 31 (fun w9 hs => (hs.fewer 2 rfl)) rfl rfl (by kernel_rfl) (q_move rfl) ?_
        refine ah_s 32 (fun w9 hs => (hs.fewer 2 rfl)) rfl rfl (by kernel_rfl) ?_
        refine ah_s 33 (fun w9 hs => (hs.fewer 2 rfl)) rfl rfl (by kernel_rfl) ?_
        refine ah_s 34 (fun w9 hs => (hs.fewer 2 rfl)) rfl rfl (by kernel_rfl) ?_
        refine ah_s 35 (fun w9 hs => (hs.fewer 2 rfl)) rfl rfl (by kernel_rfl) ?_
        refine ah_s 36 (fun w9 hs => (hs.fewer 2 rfl)) rfl rfl (by kernel_rfl) ?_
        refine ah_s 37 (fun w9 hs => (hs.fewer 2 rfl)) rfl rfl (by kernel_rfl) ?_
        refine ah_s 38 (fun w9 hs => (hs.fewer 2 rfl)) rfl rfl (by kernel_rfl) ?_
        refine ah_t 39 (fun w9 hs => (hs.fewer 2 rfl)) rfl rfl (by kernel_rfl) (q_pickF rfl rfl) ?_
        refine ah_t 40 (fun w9 hs => (hs.fewer 2 rfl)) rfl rfl (by kernel_rfl) (q_move rfl) ?_
        refine ah_s 41 (fun w9 hs => (hs.fewer 2 rfl)) rfl rfl (by kernel_rfl) ?_
        refine ah_s 42 (fun w9 hs => (hs.fewer 2 rfl)) rfl rfl (by kernel_rfl) ?_
        refine ah_s 43 (fun w9 hs => (hs.fewer 2 rfl)) rfl rfl (by kernel_rfl) ?_
        refine ah_t 44 (fun w9 hs => (hs.fewer 2 rfl)) rfl rfl (by kernel_rfl) (q_pickF rfl rfl) ?_
        refine ah_t 45 (fun w9 hs => (hs.fewer 2 rfl)) rfl rfl (by kernel_rfl) (q_move rfl) ?_
        refine ah_s 46 (fun w9 hs => (hs.fewer 2 rfl)) rfl rfl (by kernel_rfl) ?_
        refine ah_s 47 (fun w9 hs => (hs.fewer 2 rfl)) rfl rfl (by kernel_rfl) ?_
        refine ah_s 48 (fun w9 hs => (hs.fewer 2 rfl)) rfl rfl (by kernel_rfl) ?_
        refine ah_t 49 (fun w9 hs => (hs.fewer 2 rfl)) rfl rfl (by kernel_rfl) (q_pickF rfl rfl) ?_
        refine ah_one 50 rfl (by kernel_rfl) (fun hok12 hcl12 => ?_)
        refine al_p (q_assign rfl) ?_
        refine al_end (ah_last (by kernel_rfl) ?_)
        refine aq_then ?_
        refine ac_ret ?_
        refine ret1 Tryz.results48 rfl (fun w9 hs => ?_)
        refine ⟨?_, hs.below⟩; simp [validC, na, la, nb, lb, nc, q1, q2, q3]
    · have q2 : ¬ Q.la = R.la := by have := of_decide_eq_false hb2; omega
      refine ah_s 13 (fun w9 hs => (hs.fewer 1 rfl)) rfl rfl (by kernel_rfl) ?_
      refine ah_s 14 (fun w9 hs => (hs.fewer 1 rfl)) rfl rfl (by kernel_rfl) ?_
      refine ah_s 15 (fun w9 hs => (hs.fewer 1 rfl)) rfl rfl (by kernel_rfl) ?_
      refine ah_t 16 (fun w9 hs => (hs.fewer 1 rfl)) rfl rfl (by kernel_rfl) (q_pickF rfl rfl) ?_
      refine ah_t 17 (fun w9 hs => (hs.fewer 1 rfl)) rfl rfl (by kernel_rfl) (q_move rfl) ?_
      refine ah_s 18 (fun w9 hs => (hs.fewer 1 rfl)) rfl rfl (by kernel_rfl) ?_
      refine ah_s 19 (fun w9 hs => (hs.fewer 1 rfl)) rfl rfl (by kernel_rfl) ?_
      refine ah_s 20 (fun w9 hs => (hs.fewer 1 rfl)) rfl rfl (by kernel_rfl) ?_
      refine ah_s 21 (fun w9 hs => (hs.fewer 1 rfl)) rfl rfl (by kernel_rfl) ?_
      refine ah_s 22 (fun w9 hs => (hs.fewer 1 rfl)) rfl rfl (by kernel_rfl) ?_
      refine ah_s 23 (fun w9 hs => (hs.fewer 1 rfl)) rfl rfl (by kernel_rfl) ?_
      refine ah_s 24 (fun w9 hs => (hs.fewer 1 rfl)) rfl rfl (by kernel_rfl) ?_
      refine ah_t 25 (fun w9 hs => (hs.fewer 1 rfl)) rfl rfl (by kernel_rfl) (q_pickF rfl rfl) ?_
      refine ah_t 26 (fun w9 hs => (hs.fewer 1 rfl)) rfl rfl (by kernel_rfl) (q_move rfl) ?_
      refine ah_s 27 (fun w9 hs => (hs.fewer 1 rfl)) rfl rfl (by kernel_rfl) ?_
      refine ah_s 28 (fun w9 hs => (hs.fewer 1 rfl)) rfl rfl (by kernel_rfl) ?_
      refine ah_s 29 (fun w9 hs => (hs.fewer 1 rfl)) rfl rfl (by kernel_rfl) ?_
      refine ah_t 30 (fun w9 hs => (hs.fewer 1 rfl)) rfl rfl (by kernel_rfl) (q_pickF rfl rfl) ?_
      refine ah_t 31 (fun w9 hs => (hs.fewer 1 rfl)) rfl rfl (by kernel_rfl) (q_move rfl) ?_
      refine ah_s 32 (fun w9 hs => (hs.fewer 1 rfl)) rfl rfl (by kernel_rfl) ?_
      refine ah_s 33 (fun w9 hs => (hs.fewer 1 rfl)) rfl rfl (by kernel_rfl) ?_
      refine ah_s 34 (fun w9 hs => (hs.fewer 1 rfl)) rfl rfl (by kernel_rfl) ?_
      refine ah_s 35 (fun w9 hs => (hs.fewer 1 rfl)) rfl rfl (by kernel_rfl) ?_
      refine ah_s 36 (fun w9 hs => (hs.fewer 1 rfl)) rfl rfl (by kernel_rfl) ?_
      refine ah_s 37 (fun w9 hs => (hs.fewer 1 rfl)) rfl rfl (by kernel_rfl) ?_
      refine ah_s 38 (fun w9 hs => (hs.fewer 1 rfl)) rfl rfl (by kernel_rfl) ?_
      refine ah_t 39 (fun w9 hs => (hs.fewer 1 rfl)) rfl rfl (by kernel_rfl) (q_pickF rfl rfl) ?_
      refine ah_t 40 (fun w9 hs => (hs.fewer 1 rfl)) rfl rfl (by kernel_rfl) (q_move rfl) ?_
      refine ah_s 41 (fun w9 hs => (hs.fewer 1 rfl)) rfl rfl (by kernel_rfl) ?_
      refine ah_s 42 (fun w9 hs => (hs.fewer 1 rfl)) rfl rfl (by kernel_rfl) ?_
      refine ah_s 43 (fun w9 hs => (hs.fewer 1 rfl)) rfl rfl (by kernel_rfl) ?_
      refine ah_t 44 (fun w9 hs => (hs.fewer 1 rfl)) rfl rfl (by kernel_rfl) (q_pickF rfl rfl) ?_
      refine ah_t 45 (fun w9 hs => (hs.fewer 1 rfl)) rfl rfl (by kernel_rfl) (q_move rfl) ?_
      refine ah_s 46 (fun w9 hs => (hs.fewer 1 rfl)) rfl rfl (by kernel_rfl) ?_
      refine ah_s 47 (fun w9 hs => (hs.fewer 1 rfl)) rfl rfl (by kernel_rfl) ?_
      refine ah_s 48 (fun w9 hs => (hs.fewer 1 rfl)) rfl rfl (by kernel_rfl) ?_
      refine ah_t 49 (fun w9 hs => (hs.fewer 1 rfl)) rfl rfl (by kernel_rfl) (q_pickF rfl rfl) ?_
      refine ah_one 50 rfl (by kernel_rfl) (fun hok13 hcl13 => ?_)
      refine al_p (q_assign rfl) ?_
      refine al_end (ah_last (by kernel_rfl) ?_)
      refine aq_then ?_
      refine ac_ret ?_
      refine ret1 Tryz.results48 rfl (fun w9 hs => ?_)
      refine ⟨?_, hs.below⟩; simp [validC, na, la, nb, lb, nc, q1, q2]
  · have q1 : ¬ checkC M = 0 := of_decide_eq_false hb1
    refine ah_s 4 (fun w9 hs => (hs.fewer 1 rfl)) rfl rfl (by kernel_rfl) ?_
    refine ah_s 5 (fun w9 hs => (hs.fewer 1 rfl)) rfl rfl (by kernel_rfl) ?_
    refine ah_s 6 (fun w9 hs => (hs.fewer 1 rfl)) rfl rfl (by kernel_rfl) ?_
    refine ah_s 7 (fun w9 hs => (hs.fewer 1 rfl)) rfl rfl (by kernel_rfl) ?_
    refine ah_s 8 (fun w9 hs => (hs.fewer 1 rfl)) rfl rfl (by kernel_rfl) ?_
    refine ah_s 9 (fun w9 hs => (hs.fewer 1 rfl)) rfl rfl (by kernel_rfl) ?_
    refine ah_s 10 (fun w9 hs => (hs.fewer 1 rfl)) rfl rfl (by kernel_rfl) ?_
    refine ah_t 11 (fun w9 hs => (hs.fewer 1 rfl)) rfl rfl (by kernel_rfl) (q_pickF rfl rfl) ?_
    refine ah_t 12 (fun w9 hs => (hs.fewer 1 rfl)) rfl rfl (by kernel_rfl) (q_move rfl) ?_
    refine ah_s 13 (fun w9 hs => (hs.fewer 1 rfl)) rfl rfl (by kernel_rfl) ?_
    refine ah_s 14 (fun w9 hs => (hs.fewer 1 rfl)) rfl rfl (by kernel_rfl) ?_
    refine ah_s 15 (fun w9 hs => (hs.fewer 1 rfl)) rfl rfl (by kernel_rfl) ?_
    refine ah_t 16 (fun w9 hs => (hs.fewer 1 rfl)) rfl rfl (by kernel_rfl) (q_pickF rfl rfl) ?_
    refine ah_t 17 (fun w9 hs => (hs.fewer 1 rfl)) rfl rfl (by kernel_rfl) (q_move rfl) ?_
    refine ah_s 18 (fun w9 hs => (hs.fewer 1 rfl)) rfl rfl (by kernel_rfl) ?_
    refine ah_s 19 (fun w9 hs => (hs.fewer 1 rfl)) rfl rfl (by kernel_rfl) ?_
    refine ah_s 20 (fun w9 hs => (hs.fewer 1 rfl)) rfl rfl (by kernel_rfl) ?_
    refine ah_s 21 (fun w9 hs => (hs.fewer 1 rfl)) rfl rfl (by kernel_rfl) ?_
    refine ah_s 22 (fun w9 hs => (hs.fewer 1 rfl)) rfl rfl (by kernel_rfl) ?_
    refine ah_s 23 (fun w9 hs => (hs.fewer 1 rfl)) rfl rfl (by kernel_rfl) ?_
    refine ah_s 24 (fun w9 hs => (hs.fewer 1 rfl)) rfl rfl (by kernel_rfl) ?_
    refine ah_t 25 (fun w9 hs => (hs.fewer 1 rfl)) rfl rfl (by kernel_rfl) (q_pickF rfl rfl) ?_
    refine ah_t 26 (fun w9 hs => (hs.fewer 1 rfl)) rfl rfl (by kernel_rfl) (q_move rfl) ?_
    refine ah_s 27 (fun w9 hs => (hs.fewer 1 rfl)) rfl rfl (by kernel_rfl) ?_
    refine ah_s 28 (fun w9 hs => (hs.fewer 1 rfl)) rfl rfl (by kernel_rfl) ?_
    refine ah_s 29 (fun w9 hs => (hs.fewer 1 rfl)) rfl rfl (by kernel_rfl) ?_
    refine ah_t 30 (fun w9 hs => (hs.fewer 1 rfl)) rfl rfl (by kernel_rfl) (q_pickF rfl rfl) ?_
    refine ah_t 31 (fun w9 hs => (hs.fewer 1 rfl)) rfl rfl (by kernel_rfl) (q_move rfl) ?_
    refine ah_s 32 (fun w9 hs => (hs.fewer 1 rfl)) rfl rfl (by kernel_rfl) ?_
    refine ah_s 33 (fun w9 hs => (hs.fewer 1 rfl)) rfl rfl (by kernel_rfl) ?_
    refine ah_s 34 (fun w9 hs => (hs.fewer 1 rfl)) rfl rfl (by kernel_rfl) ?_
    refine ah_s 35 (fun w9 hs => (hs.fewer 1 rfl)) rfl rfl (by kernel_rfl) ?_
    refine ah_s 36 (fun w9 hs => (hs.fewer 1 rfl)) rfl rfl (by kernel_rfl) ?_
    refine ah_s 37 (fun w9 hs => (hs.fewer 1 rfl)) rfl rfl (by kernel_rfl) ?_
    refine ah_s 38 (fun w9 hs => (hs.fewer 1 rfl)) rfl rfl (by kernel_rfl) ?_
    refine ah_t 39 (fun w9 hs => (hs.fewer 1 rfl)) rfl rfl (by kernel_rfl) (q_pickF rfl rfl) ?_
    refine ah_t 40 (fun w9 hs => (hs.fewer 1 rfl)) rfl rfl (by kernel_rfl) (q_move rfl) ?_
    refine ah_s 41 (fun w9 hs => (hs.fewer 1 rfl)) rfl rfl (by kernel_rfl) ?_
    refine ah_s 42 (fun w9 hs => (hs.fewer 1 rfl)) rfl rfl (by kernel_rfl) ?_
    refine ah_s 43 (fun w9 hs => (hs.fewer 1 rfl)) rfl rfl (by kernel_rfl) ?_
    refine ah_t 44 (fun w9 hs => (hs.fewer 1 rfl)) rfl rfl (by kernel_rfl) (q_pickF rfl rfl) ?_
    refine ah_t 45 (fun w9 hs => (hs.fewer 1 rfl)) rfl rfl (by kernel_rfl) (q_move rfl) ?_
    refine ah_s 46 (fun w9 hs => (hs.fewer 1 rfl)) rfl rfl (by kernel_rfl) ?_
    refine ah_s 47 (fun w9 hs => (hs.fewer 1 rfl)) rfl rfl (by kernel_rfl) ?_
    refine ah_s 48 (fun w9 hs => (hs.fewer 1 rfl)) rfl rfl (by kernel_rfl) ?_
    refine ah_t 49 (fun w9 hs => (hs.fewer 1 rfl)) rfl rfl (by kernel_rfl) (q_pickF rfl rfl) ?_
    refine ah_one 50 rfl (by kernel_rfl) (fun hok14 hcl14 => ?_)
    refine al_p (q_assign rfl) ?_
    refine al_end (ah_last (by kernel_rfl) ?_)
    refine aq_then ?_
    refine ac_ret ?_
    refine ret1 Tryz.results48 rfl (fun w9 hs => ?_)
    refine ⟨?_, hs.below⟩; simp [validC, na, la, nb, lb, nc, q1]

end Go.Proofs.YtkhahbnagbjbiaaGreat
end
section
/- Abstract walking: deferred calls that recover nothing. -/
namespace Go.Proofs.YtkhahbnagbjbiaaGreat
set_option linter.unusedVariables false
set_option linter.unusedSimpArgs false
set_option autoImplicit false
open Go.RowKit

section
variable {P : Program} {e0 : Cfg} {U : Snaps} {l : Slots} {L : Boxes} {ops : Array Oper} {Q : Exit → Act → World → Prop} {rest : List Oper} {d : Nat} {v : Value}
variable {ty : TypeId} {pos : String} {af : Array Edge} {g : Option (Nat × Bool)} {dd : Option Nat}

theorem Fr.defer {n : Nat} {D : List Deferred} {w0 : World} {bs : List Nat} {a : Act} (h : Fr ⟨n, D, w0, bs⟩ l a) (x : Deferred) (u : Value) : Fr ⟨n, x :: D, w0, bs⟩ l ({ a with defers := x :: a.defers }.put none u) :=
  ⟨h.size, by show x :: a.defers = x :: D; rw [h.defers], h.slot⟩
end

end Go.Proofs.YtkhahbnagbjbiaaGreat
end
section
/- Abstract walking: lists in own boxes as the lists that the contracts speak of. -/
namespace Go.Proofs.YtkhahbnagbjbiaaGreat
set_option linter.unusedVariables false
set_option linter.unusedSimpArgs false
open Go.RowKit

theorem flat_get {α : Type} {n : Nat} {enc : α → List Value} (hl : ∀ x, (enc x).length = n) : ∀ (zs : List α) (j : Nat) (x : α), zs[j]? = some x → ∀ (i : Nat) (v : Value), (enc x)[i]? = some v → (zs.flatMap enc)[j * n + i]? = some v
  | [], j, x, h, i, v, hv => by simp at h
  | z :: zs, 0, x, h, i, v, hv => by
    obtain rfl : z = x := by simpa using h
    have hi := (List.getElem?_eq_some_iff.1 hv).1
    simp only [List.flatMap_cons, Nat.zero_mul, Nat.zero_add]
    rw [List.getElem?_append_left hi]; exact hv
  | z :: zs, j + 1, x, h, i, v, hv => by
    simp only [List.flatMap_cons]
    rw [List.getElem?_append_right (by rw [hl, Nat.add_mul]; omega), hl]
    have e : (j + 1) * n + i - n = j * n + i := by rw [Nat.add_mul]; omega
    rw [e]
    exact flat_get hl zs j x (by simpa using h) i v hv
theorem isT_box {α : Type} {n : Nat} {enc : α → List Value} (hl : ∀ x, (enc x).length = n) {w : World} {b : Nat} {cs sp : List Value} {zs : List α} {len : Nat} (h : BoxAt w b (.cells (cs ++ sp))) (hz : zs.flatMap enc = cs) (hn : zs.length = len) : IsT n enc w (some ⟨b, 0, none⟩) len zs := by
  refine ⟨hn, fun _ => ⟨b, 0, rfl, h.lt, fun j x hx i v hv => ?_⟩⟩
  have hc := flat_get hl zs j x hx i v hv
  rw [hz] at hc
  have hlt := (List.getElem?_eq_some_iff.1 hc).1
  rw [Nat.zero_add]
  exact (h.cell _ rfl _ v (by rw [List.getElem?_append_left hlt]; exact hc)).1
theorem isT_box0 {α : Type} {n : Nat} {enc : α → List Value} (hl : ∀ x, (enc x).length = n) {w : World} {b : Nat} {cs : List Value} {zs : List α} {len : Nat} (h : BoxAt w b (.cells cs)) (hz : zs.flatMap enc = cs) (hn : zs.length = len) : IsT n enc w (some ⟨b, 0, none⟩) len zs :=
  isT_box (sp := []) hl (by simpa using h) hz hn
theorem Sta.at {E : Cfg} {U : Snaps} {L : Boxes} {w : World} (h : Sta E U L w) (i : Nat) {b : Nat} {c : Cont} (hi : L[i]? = some (b, c)) : BoxAt w b c := (h.box i b c hi).2
/-- a list that lay there at a snapshot -/
theorem Sta.isT {α : Type} {n : Nat} {enc : α → List Value} {E : Cfg} {U : Snaps} {L : Boxes} {w : World} (h : Sta E U L w) {lo : Nat} {u : World} (hu : (lo, u) ∈ U) {A : Option Addr} {len : Nat} {zs : List α} (hz : IsT n enc u A len zs)
    (hA : ∀ b o, A = some ⟨b, o, none⟩ → lo ≤ b ∨ b < E.w.heap.size ∧ b ∉ E.lent) : IsT n enc w A len zs :=
  ⟨hz.1, fun h0 => by
    obtain ⟨b, o, e, h1, h2⟩ := hz.2 h0
    have hk : w.heap[b]? = u.heap[b]? := h.old hu (by rcases hA b o e with g | g; exact Or.inl ⟨g, h1⟩; exact Or.inr g)
    refine ⟨b, o, e, ?_, fun j x hx i v hv => ?_⟩
    · have := (h.snap lo u hu).2.2.1; omega
    · rw [World.cell?_of_block (w := u) (w' := w) (a := ⟨b, _, none⟩) hk]; exact h2 j x hx i v hv⟩
/-- a machine's lists lie in blocks that are new since w -/
structure NewM (w : World) (R : MachR) : Prop where
  a : ∀ b o, R.A = some ⟨b, o, none⟩ → w.heap.size ≤ b
  b : ∀ b o, R.B = some ⟨b, o, none⟩ → w.heap.size ≤ b
  c : ∀ b o, R.C = some ⟨b, o, none⟩ → w.heap.size ≤ b
  d : ∀ b o, R.D = some ⟨b, o, none⟩ → w.heap.size ≤ b
theorem NewM.mono {w v : World} {R : MachR} (h : NewM v R) (hz : w.heap.size ≤ v.heap.size) : NewM w R :=
  ⟨fun b o e => Nat.le_trans hz (h.a b o e), fun b o e => Nat.le_trans hz (h.b b o e), fun b o e => Nat.le_trans hz (h.c b o e), fun b o e => Nat.le_trans hz (h.d b o e)⟩
theorem Sta.new {n : Nat} {D : List Deferred} {w0 : World} {U : Snaps} {L : Boxes} {w : World} (h : Sta ⟨n, D, w0, []⟩ U L w) (i : Nat) {b : Nat} {c : Cont} (hi : L[i]? = some (b, c)) : ∀ b' o, some (⟨b, 0, none⟩ : Addr) = some ⟨b', o, none⟩ → w0.heap.size ≤ b' := fun b' o e => by
  cases e
  rcases (h.box i b c hi).1 with g | g
  · exact g
  · cases g
theorem new_none (w : World) : ∀ b o, (none : Option Addr) = some ⟨b, o, none⟩ → w.heap.size ≤ b := fun b o e => by cases e
theorem Sta.isM {E : Cfg} {U : Snaps} {L : Boxes} {w : World} (h : Sta E U L w) {v u : World} (hu : (v.heap.size, u) ∈ U) {R : MachR} {M : MachD} (hM : IsM u R M) (hN : NewM v R) : IsM w R M :=
  ⟨h.isT hu hM.coils fun b o e => Or.inl (hN.a b o e), h.isT hu hM.shells fun b o e => Or.inl (hN.b b o e), h.isT hu hM.limits fun b o e => Or.inl (hN.c b o e), h.isT hu hM.sensors fun b o e => Or.inl (hN.d b o e), hM.la, hM.lb, hM.lc, hM.ld, hM.ca, hM.cb, hM.cc, hM.cd, hM.ka, hM.kb, hM.kc, hM.kd⟩

end Go.Proofs.YtkhahbnagbjbiaaGreat
end
