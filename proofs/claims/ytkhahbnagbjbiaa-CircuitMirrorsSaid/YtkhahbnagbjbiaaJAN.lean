import Derived.Test.YtkhahbnagbjbiaaJAB
import Derived.Test.YtkhahbnagbjbiaaJAJ
import Derived.Test.YtkhahbnagbjbiaaJAL
import Derived.Test.YtkhahbnagbjbiaaJAM
import Derived.Test.YtkhahbnagbjbiaaRows
import Derived.KernelRfl
import Derived.Laws.StructEq
section
/- Package machine: Quiet, checkField, Flux, Field, over this seat's translation (written by ax_mq.py). -/
namespace Go.Proofs.Ytkhahbnagbjbiaa
set_option linter.unusedVariables false
set_option linter.unusedSimpArgs false
open Go.RowKit

def zeros (n : Nat) : List Value := List.replicate n (.int .i64 0)
theorem mcq_bl_apiCurrents_0_1_2 (a0 a1 a2 : Value) (ha0 : a0.oneCell' = true) (ha1 : a1.oneCell' = true) (ha2 : a2.oneCell' = true) : ∀ w, (Instr.build 32 #[(0, a0), (1, a1), (2, a2)]).run Try.prog w = .ok (.agg #[a0, a1, a2]) w := by
  have ea0 : a0.cells = #[a0] := cells_one ha0
  have ea1 : a1.cells = #[a1] := cells_one ha1
  have ea2 : a2.cells = #[a2] := cells_one ha2
  intro w; simp [Instr.build, Instr.fill, cells_agg, Try.runUnderlying32, Try.zeroValue32, Try.sizeOf30, ea0, ea1, ea2]

set_option maxRecDepth 100000 in
theorem quiet_ok (R : MachR) (M : MachD) (w : World) (hM : IsM w R M) (hc : checkC M = 0) : Calls Try.prog 28 #[(.agg (machCells R M))] w (fun e w' => ∃ b1 b2 b3, e = .returned (.agg #[.slice (some ⟨b1, 0, none⟩) R.la R.la, .slice (some ⟨b2, 0, none⟩) R.lb R.lb, .slice (some ⟨b3, 0, none⟩) (M.grid.nr * M.grid.nz).toNat (M.grid.nr * M.grid.nz).toNat]) ∧ Own w [(b1, .cells (List.replicate R.la (.int .i64 0))), (b2, .cells (List.replicate R.lb (.int .i64 0))), (b3, .cells (List.replicate (M.grid.nr * M.grid.nz).toNat (.int .i64 0)))] w') := by
  have hs0 := sound_of hc
  have hg := cells_fine hs0.grid
  have hsc := hs0.coils.1
  have hss := hs0.shells.1
  have ga := hM.coils.1
  have gb := hM.shells.1
  refine calls_ax (vs := [(.agg (machCells R M))]) Try.func28 rfl rfl ?_
  refine ac_seq ?_
  refine ac_region ?_
  refine al_new (fun b => .pointer (some ⟨b, 0, none⟩)) (r_box rfl rfl) rfl rfl rfl ?_
  intro b1
  refine al_new (fun b => .pointer (some ⟨b, 0, none⟩)) (r_alloc Try.zeroValue32 rfl) rfl rfl rfl ?_
  intro b2
  refine al_end ?_
  refine aq_then ?_
  refine ac_seq ?_
  refine ac_seq ?_
  refine ac_region ?_
  refine al_q (q_loadAll (i := 1) rfl rfl Try.isAgg29 Try.sizeOf29 rfl) rfl rfl rfl ?_
  refine al_call Try.call27 (.cons rfl .nil) rfl rfl (fun w1 hs1 => ?_)
  refine (check_any R M _ (hM.below hs1.below)).mono ?_
  rintro e u1 ⟨rfl, hb_1⟩
  refine ⟨_, rfl, hb_1, ?_⟩
  clear hs1
  refine al_q (q_neq rfl rfl) rfl rfl rfl ?_
  refine al_end ?_
  refine aq_then ?_
  refine ac_cond rfl (fun h1 => ?_) (fun h1 => ?_)
  · exact absurd h1 (by simp [hc])
  · refine ac_skip ?_
    refine aq_then ?_
    refine ac_seq ?_
    refine ac_draw 13 (by kernel_rfl) (by kernel_rfl) ?_
    refine ah_take 0 (fun w9 hs => hs) rfl rfl rfl (by kernel_rfl) (by kernel_rfl) (by kernel_rfl) (fun _ _ _ h => h) rfl (q_fieldAddr 1 rfl Try.runUnderlying29 rfl Try.sizeOf22 (by decide) rfl) ?_
    refine ah_take 1 (fun w9 hs => hs) rfl rfl rfl (by kernel_rfl) (by kernel_rfl) (by kernel_rfl) (fun _ _ _ h => h) rfl (q_load (i := 1) rfl rfl rfl Try.isAgg22) ?_
    refine ah_take 2 (fun w9 hs => hs) rfl rfl rfl (by kernel_rfl) (by kernel_rfl) (by kernel_rfl) (fun _ _ _ h => h) rfl (q_lenS rfl Try.runUnderlying22) ?_
    refine ah_take 4 (fun w9 hs => hs) rfl rfl rfl (by kernel_rfl) (by kernel_rfl) (by kernel_rfl) (fun _ _ _ h => h) rfl (q_fieldAddr 2 rfl Try.runUnderlying29 rfl Try.sizeOf23 (by decide) rfl) ?_
    refine ah_take 5 (fun w9 hs => hs) rfl rfl rfl (by kernel_rfl) (by kernel_rfl) (by kernel_rfl) (fun _ _ _ h => h) rfl (q_load (i := 1) rfl rfl rfl Try.isAgg23) ?_
    refine ah_take 6 (fun w9 hs => hs) rfl rfl rfl (by kernel_rfl) (by kernel_rfl) (by kernel_rfl) (fun _ _ _ h => h) rfl (q_lenS rfl Try.runUnderlying23) ?_
    refine ah_take 8 (fun w9 hs => hs) rfl rfl rfl (by kernel_rfl) (by kernel_rfl) (by kernel_rfl) (fun _ _ _ h => h) rfl (q_fieldAddr 4 rfl Try.runUnderlying29 rfl Try.sizeOf26 (by decide) rfl) ?_
    refine ah_take 9 (fun w9 hs => hs) rfl rfl rfl (by kernel_rfl) (by kernel_rfl) (by kernel_rfl) (fun _ _ _ h => h) rfl (q_loadSub (i := 1) rfl rfl Try.isAgg26 Try.sizeOf26 .k4 .k5) ?_
    refine ah_three 3 7 10 rfl rfl rfl  (by kernel_rfl) (fun hok1 hcl1 => ?_) (fun hok1 hcl1 => ?_) (fun hok1 hcl1 => ?_)
    · refine al_makeInts (n := R.la) (z := (.int .i64 0)) (bytes := 8) rfl rfl rfl Try.underlying30 (by kernel_rfl) rfl (by omega) (by decide) rfl rfl ?_
      intro b3
      refine al_end (ah_back hok1 hcl1 (fun w9 hs => (hs.tail 1 rfl)) ?_)
      refine ah_two 7 10 rfl rfl  (by kernel_rfl) (fun hok2 hcl2 => ?_) (fun hok2 hcl2 => ?_)
      · refine al_makeInts (n := R.lb) (z := (.int .i64 0)) (bytes := 8) rfl rfl rfl Try.underlying30 (by kernel_rfl) rfl (by omega) (by decide) rfl rfl ?_
        intro b4
        refine al_end (ah_back hok2 hcl2 (fun w9 hs => (hs.tail 2 rfl)) ?_)
        refine ah_one 10 rfl (by kernel_rfl) (fun hok3 hcl3 => ?_)
        refine al_call Try.call53 (.cons rfl .nil) rfl rfl (fun w2 hs2 => ?_)
        refine (cells_any M.grid _ (by omega) (by omega)).mono ?_
        rintro e u2 ⟨rfl, hb_2⟩
        refine ⟨_, rfl, hb_2, ?_⟩
        clear hs2
        refine al_end (ah_back hok3 hcl3 (fun w9 hs => ((hs.fewer 1 rfl).tail 2 rfl)) ?_)
        refine ah_one 11 rfl (by kernel_rfl) (fun hok4 hcl4 => ?_)
        refine al_makeInts (n := (M.grid.nr * M.grid.nz).toNat) (z := (.int .i64 0)) (bytes := 8) rfl rfl (by omega) Try.underlying30 (by kernel_rfl) rfl (by omega) (by decide) rfl rfl ?_
        intro b5
        refine al_end (ah_back hok4 hcl4 (fun w9 hs => ((hs.fewer 1 rfl).tail 3 rfl)) ?_)
        refine ah_take 12 (fun w9 hs => ((hs.fewer 1 rfl).tail 3 rfl)) rfl rfl rfl (by kernel_rfl) (by kernel_rfl) (by kernel_rfl) (fun _ _ _ h => h) rfl (q_build (.cons rfl (.cons rfl (.cons rfl .nil))) (mcq_bl_apiCurrents_0_1_2 _ _ _ rfl rfl rfl)) ?_
        refine ah_one 13 rfl (by kernel_rfl) (fun hok5 hcl5 => ?_)
        refine al_storeAll (i := 3) rfl rfl rfl rfl Try.sizeOf32 rfl rfl .k3 rfl ?_
        refine al_end (ah_last (by kernel_rfl) ?_)
        refine aq_then ?_
        refine ac_ret ?_
        refine retR Try.results28 (.agg (i := 3) rfl rfl Try.isAgg32 Try.sizeOf32 rfl .nil) .one (fun w9 hs => ?_)
        exact ⟨b3, b4, b5, rfl, hs.own (.cons (j := 2) rfl (.cons (j := 1) rfl (.cons (j := 0) rfl .nil))) (by decide)⟩
      · refine al_call Try.call53 (.cons rfl .nil) rfl rfl (fun w3 hs3 => ?_)
        refine (cells_any M.grid _ (by omega) (by omega)).mono ?_
        rintro e u3 ⟨rfl, hb_3⟩
        refine ⟨_, rfl, hb_3, ?_⟩
        clear hs3
        refine al_end (ah_back hok2 hcl2 (fun w9 hs => ((hs.fewer 1 rfl).tail 1 rfl)) ?_)
        refine ah_two 7 11 rfl rfl  (by kernel_rfl) (fun hok6 hcl6 => ?_) (fun hok6 hcl6 => ?_)
        · refine al_makeInts (n := R.lb) (z := (.int .i64 0)) (bytes := 8) rfl rfl rfl Try.underlying30 (by kernel_rfl) rfl (by omega) (by decide) rfl rfl ?_
          intro b6
          refine al_end (ah_back hok6 hcl6 (fun w9 hs => ((hs.fewer 1 rfl).tail 2 rfl)) ?_)
          refine ah_one 11 rfl (by kernel_rfl) (fun hok7 hcl7 => ?_)
          refine al_makeInts (n := (M.grid.nr * M.grid.nz).toNat) (z := (.int .i64 0)) (bytes := 8) rfl rfl (by omega) Try.underlying30 (by kernel_rfl) rfl (by omega) (by decide) rfl rfl ?_
          intro b7
          refine al_end (ah_back hok7 hcl7 (fun w9 hs => ((hs.fewer 1 rfl).tail 3 rfl)) ?_)
          refine ah_take 12 (fun w9 hs => ((hs.fewer 1 rfl).tail 3 rfl)) rfl rfl rfl (by kernel_rfl) (by kernel_rfl) (by kernel_rfl) (fun _ _ _ h => h) rfl (q_build (.cons rfl (.cons rfl (.cons rfl .nil))) (mcq_bl_apiCurrents_0_1_2 _ _ _ rfl rfl rfl)) ?_
          refine ah_one 13 rfl (by kernel_rfl) (fun hok8 hcl8 => ?_)
          refine al_storeAll (i := 3) rfl rfl rfl rfl Try.sizeOf32 rfl rfl .k3 rfl ?_
          refine al_end (ah_last (by kernel_rfl) ?_)
          refine aq_then ?_
          refine ac_ret ?_
          refine retR Try.results28 (.agg (i := 3) rfl rfl Try.isAgg32 Try.sizeOf32 rfl .nil) .one (fun w9 hs => ?_)
          exact ⟨b3, b6, b7, rfl, hs.own (.cons (j := 2) rfl (.cons (j := 1) rfl (.cons (j := 0) rfl .nil))) (by decide)⟩
        · refine al_makeInts (n := (M.grid.nr * M.grid.nz).toNat) (z := (.int .i64 0)) (bytes := 8) rfl rfl (by omega) Try.underlying30 (by kernel_rfl) rfl (by omega) (by decide) rfl rfl ?_
          intro b8
          refine al_end (ah_back hok6 hcl6 (fun w9 hs => ((hs.fewer 1 rfl).tail 2 rfl)) ?_)
          refine ah_one 7 rfl (by kernel_rfl) (fun hok9 hcl9 => ?_)
          refine al_makeInts (n := R.lb) (z := (.int .i64 0)) (bytes := 8) rfl rfl rfl Try.underlying30 (by kernel_rfl) rfl (by omega) (by decide) rfl rfl ?_
          intro b9
          refine al_end (ah_back hok9 hcl9 (fun w9 hs => ((hs.fewer 1 rfl).tail 3 rfl)) ?_)
          refine ah_take 12 (fun w9 hs => ((hs.fewer 1 rfl).tail 3 rfl)) rfl rfl rfl (by kernel_rfl) (by kernel_rfl) (by kernel_rfl) (fun _ _ _ h => h) rfl (q_build (.cons rfl (.cons rfl (.cons rfl .nil))) (mcq_bl_apiCurrents_0_1_2 _ _ _ rfl rfl rfl)) ?_
          refine ah_one 13 rfl (by kernel_rfl) (fun hok10 hcl10 => ?_)
          refine al_storeAll (i := 3) rfl rfl rfl rfl Try.sizeOf32 rfl rfl .k3 rfl ?_
          refine al_end (ah_last (by kernel_rfl) ?_)
          refine aq_then ?_
          refine ac_ret ?_
          refine retR Try.results28 (.agg (i := 3) rfl rfl Try.isAgg32 Try.sizeOf32 rfl .nil) .one (fun w9 hs => ?_)
          exact ⟨b3, b9, b8, rfl, hs.own (.cons (j := 2) rfl (.cons (j := 0) rfl (.cons (j := 1) rfl .nil))) (by decide)⟩
    · refine al_makeInts (n := R.lb) (z := (.int .i64 0)) (bytes := 8) rfl rfl rfl Try.underlying30 (by kernel_rfl) rfl (by omega) (by decide) rfl rfl ?_
      intro b10
      refine al_end (ah_back hok1 hcl1 (fun w9 hs => (hs.tail 1 rfl)) ?_)
      refine ah_two 3 10 rfl rfl  (by kernel_rfl) (fun hok11 hcl11 => ?_) (fun hok11 hcl11 => ?_)
      · refine al_makeInts (n := R.la) (z := (.int .i64 0)) (bytes := 8) rfl rfl rfl Try.underlying30 (by kernel_rfl) rfl (by omega) (by decide) rfl rfl ?_
        intro b11
        refine al_end (ah_back hok11 hcl11 (fun w9 hs => (hs.tail 2 rfl)) ?_)
        refine ah_one 10 rfl (by kernel_rfl) (fun hok12 hcl12 => ?_)
        refine al_call Try.call53 (.cons rfl .nil) rfl rfl (fun w4 hs4 => ?_)
        refine (cells_any M.grid _ (by omega) (by omega)).mono ?_
        rintro e u4 ⟨rfl, hb_4⟩
        refine ⟨_, rfl, hb_4, ?_⟩
        clear hs4
        refine al_end (ah_back hok12 hcl12 (fun w9 hs => ((hs.fewer 1 rfl).tail 2 rfl)) ?_)
        refine ah_one 11 rfl (by kernel_rfl) (fun hok13 hcl13 => ?_)
        refine al_makeInts (n := (M.grid.nr * M.grid.nz).toNat) (z := (.int .i64 0)) (bytes := 8) rfl rfl (by omega) Try.underlying30 (by kernel_rfl) rfl (by omega) (by decide) rfl rfl ?_
        intro b12
        refine al_end (ah_back hok13 hcl13 (fun w9 hs => ((hs.fewer 1 rfl).tail 3 rfl)) ?_)
        refine ah_take 12 (fun w9 hs => ((hs.fewer 1 rfl).tail 3 rfl)) rfl rfl rfl (by kernel_rfl) (by kernel_rfl) (by kernel_rfl) (fun _ _ _ h => h) rfl (q_build (.cons rfl (.cons rfl (.cons rfl .nil))) (mcq_bl_apiCurrents_0_1_2 _ _ _ rfl rfl rfl)) ?_
        refine ah_one 13 rfl (by kernel_rfl) (fun hok14 hcl14 => ?_)
        refine al_storeAll (i := 3) rfl rfl rfl rfl Try.sizeOf32 rfl rfl .k3 rfl ?_
        refine al_end (ah_last (by kernel_rfl) ?_)
        refine aq_then ?_
        refine ac_ret ?_
        refine retR Try.results28 (.agg (i := 3) rfl rfl Try.isAgg32 Try.sizeOf32 rfl .nil) .one (fun w9 hs => ?_)
        exact ⟨b11, b10, b12, rfl, hs.own (.cons (j := 1) rfl (.cons (j := 2) rfl (.cons (j := 0) rfl .nil))) (by decide)⟩
      · refine al_call Try.call53 (.cons rfl .nil) rfl rfl (fun w5 hs5 => ?_)
        refine (cells_any M.grid _ (by omega) (by omega)).mono ?_
        rintro e u5 ⟨rfl, hb_5⟩
        refine ⟨_, rfl, hb_5, ?_⟩
        clear hs5
        refine al_end (ah_back hok11 hcl11 (fun w9 hs => ((hs.fewer 1 rfl).tail 1 rfl)) ?_)
        refine ah_two 3 11 rfl rfl  (by kernel_rfl) (fun hok15 hcl15 => ?_) (fun hok15 hcl15 => ?_)
        · refine al_makeInts (n := R.la) (z := (.int .i64 0)) (bytes := 8) rfl rfl rfl Try.underlying30 (by kernel_rfl) rfl (by omega) (by decide) rfl rfl ?_
          intro b13
          refine al_end (ah_back hok15 hcl15 (fun w9 hs => ((hs.fewer 1 rfl).tail 2 rfl)) ?_)
          refine ah_one 11 rfl (by kernel_rfl) (fun hok16 hcl16 => ?_)
          refine al_makeInts (n := (M.grid.nr * M.grid.nz).toNat) (z := (.int .i64 0)) (bytes := 8) rfl rfl (by omega) Try.underlying30 (by kernel_rfl) rfl (by omega) (by decide) rfl rfl ?_
          intro b14
          refine al_end (ah_back hok16 hcl16 (fun w9 hs => ((hs.fewer 1 rfl).tail 3 rfl)) ?_)
          refine ah_take 12 (fun w9 hs => ((hs.fewer 1 rfl).tail 3 rfl)) rfl rfl rfl (by kernel_rfl) (by kernel_rfl) (by kernel_rfl) (fun _ _ _ h => h) rfl (q_build (.cons rfl (.cons rfl (.cons rfl .nil))) (mcq_bl_apiCurrents_0_1_2 _ _ _ rfl rfl rfl)) ?_
          refine ah_one 13 rfl (by kernel_rfl) (fun hok17 hcl17 => ?_)
          refine al_storeAll (i := 3) rfl rfl rfl rfl Try.sizeOf32 rfl rfl .k3 rfl ?_
          refine al_end (ah_last (by kernel_rfl) ?_)
          refine aq_then ?_
          refine ac_ret ?_
          refine retR Try.results28 (.agg (i := 3) rfl rfl Try.isAgg32 Try.sizeOf32 rfl .nil) .one (fun w9 hs => ?_)
          exact ⟨b13, b10, b14, rfl, hs.own (.cons (j := 1) rfl (.cons (j := 2) rfl (.cons (j := 0) rfl .nil))) (by decide)⟩
        · refine al_makeInts (n := (M.grid.nr * M.grid.nz).toNat) (z := (.int .i64 0)) (bytes := 8) rfl rfl (by omega) Try.underlying30 (by kernel_rfl) rfl (by omega) (by decide) rfl rfl ?_
          intro b15
          refine al_end (ah_back hok15 hcl15 (fun w9 hs => ((hs.fewer 1 rfl).tail 2 rfl)) ?_)
          refine ah_one 3 rfl (by kernel_rfl) (fun hok18 hcl18 => ?_)
          refine al_makeInts (n := R.la) (z := (.int .i64 0)) (bytes := 8) rfl rfl rfl Try.underlying30 (by kernel_rfl) rfl (by omega) (by decide) rfl rfl ?_
          intro b16
          refine al_end (ah_back hok18 hcl18 (fun w9 hs => ((hs.fewer 1 rfl).tail 3 rfl)) ?_)
          refine ah_take 12 (fun w9 hs => ((hs.fewer 1 rfl).tail 3 rfl)) rfl rfl rfl (by kernel_rfl) (by kernel_rfl) (by kernel_rfl) (fun _ _ _ h => h) rfl (q_build (.cons rfl (.cons rfl (.cons rfl .nil))) (mcq_bl_apiCurrents_0_1_2 _ _ _ rfl rfl rfl)) ?_
          refine ah_one 13 rfl (by kernel_rfl) (fun hok19 hcl19 => ?_)
          refine al_storeAll (i := 3) rfl rfl rfl rfl Try.sizeOf32 rfl rfl .k3 rfl ?_
          refine al_end (ah_last (by kernel_rfl) ?_)
          refine aq_then ?_
          refine ac_ret ?_
          refine retR Try.results28 (.agg (i := 3) rfl rfl Try.isAgg32 Try.sizeOf32 rfl .nil) .one (fun w9 hs => ?_)
          exact ⟨b16, b10, b15, rfl, hs.own (.cons (j := 0) rfl (.cons (j := 2) rfl (.cons (j := 1) rfl .nil))) (by decide)⟩
    · refine al_call Try.call53 (.cons rfl .nil) rfl rfl (fun w6 hs6 => ?_)
      refine (cells_any M.grid _ (by omega) (by omega)).mono ?_
      rintro e u6 ⟨rfl, hb_6⟩
      refine ⟨_, rfl, hb_6, ?_⟩
      clear hs6
      refine al_end (ah_back hok1 hcl1 (fun w9 hs => (hs.fewer 1 rfl)) ?_)
      refine ah_three 3 7 11 rfl rfl rfl  (by kernel_rfl) (fun hok20 hcl20 => ?_) (fun hok20 hcl20 => ?_) (fun hok20 hcl20 => ?_)
      · refine al_makeInts (n := R.la) (z := (.int .i64 0)) (bytes := 8) rfl rfl rfl Try.underlying30 (by kernel_rfl) rfl (by omega) (by decide) rfl rfl ?_
        intro b17
        refine al_end (ah_back hok20 hcl20 (fun w9 hs => ((hs.fewer 1 rfl).tail 1 rfl)) ?_)
        refine ah_two 7 11 rfl rfl  (by kernel_rfl) (fun hok21 hcl21 => ?_) (fun hok21 hcl21 => ?_)
        · refine al_makeInts (n := R.lb) (z := (.int .i64 0)) (bytes := 8) rfl rfl rfl Try.underlying30 (by kernel_rfl) rfl (by omega) (by decide) rfl rfl ?_
          intro b18
          refine al_end (ah_back hok21 hcl21 (fun w9 hs => ((hs.fewer 1 rfl).tail 2 rfl)) ?_)
          refine ah_one 11 rfl (by kernel_rfl) (fun hok22 hcl22 => ?_)
          refine al_makeInts (n := (M.grid.nr * M.grid.nz).toNat) (z := (.int .i64 0)) (bytes := 8) rfl rfl (by omega) Try.underlying30 (by kernel_rfl) rfl (by omega) (by decide) rfl rfl ?_
          intro b19
          refine al_end (ah_back hok22 hcl22 (fun w9 hs => ((hs.fewer 1 rfl).tail 3 rfl)) ?_)
          refine ah_take 12 (fun w9 hs => ((hs.fewer 1 rfl).tail 3 rfl)) rfl rfl rfl (by kernel_rfl) (by kernel_rfl) (by kernel_rfl) (fun _ _ _ h => h) rfl (q_build (.cons rfl (.cons rfl (.cons rfl .nil))) (mcq_bl_apiCurrents_0_1_2 _ _ _ rfl rfl rfl)) ?_
          refine ah_one 13 rfl (by kernel_rfl) (fun hok23 hcl23 => ?_)
          refine al_storeAll (i := 3) rfl rfl rfl rfl Try.sizeOf32 rfl rfl .k3 rfl ?_
          refine al_end (ah_last (by kernel_rfl) ?_)
          refine aq_then ?_
          refine ac_ret ?_
          refine retR Try.results28 (.agg (i := 3) rfl rfl Try.isAgg32 Try.sizeOf32 rfl .nil) .one (fun w9 hs => ?_)
          exact ⟨b17, b18, b19, rfl, hs.own (.cons (j := 2) rfl (.cons (j := 1) rfl (.cons (j := 0) rfl .nil))) (by decide)⟩
        · refine al_makeInts (n := (M.grid.nr * M.grid.nz).toNat) (z := (.int .i64 0)) (bytes := 8) rfl rfl (by omega) Try.underlying30 (by kernel_rfl) rfl (by omega) (by decide) rfl rfl ?_
          intro b20
          refine al_end (ah_back hok21 hcl21 (fun w9 hs => ((hs.fewer 1 rfl).tail 2 rfl)) ?_)
          refine ah_one 7 rfl (by kernel_rfl) (fun hok24 hcl24 => ?_)
          refine al_makeInts (n := R.lb) (z := (.int .i64 0)) (bytes := 8) rfl rfl rfl Try.underlying30 (by kernel_rfl) rfl (by omega) (by decide) rfl rfl ?_
          intro b21
          refine al_end (ah_back hok24 hcl24 (fun w9 hs => ((hs.fewer 1 rfl).tail 3 rfl)) ?_)
          refine ah_take 12 (fun w9 hs => ((hs.fewer 1 rfl).tail 3 rfl)) rfl rfl rfl (by kernel_rfl) (by kernel_rfl) (by kernel_rfl) (fun _ _ _ h => h) rfl (q_build (.cons rfl (.cons rfl (.cons rfl .nil))) (mcq_bl_apiCurrents_0_1_2 _ _ _ rfl rfl rfl)) ?_
          refine ah_one 13 rfl (by kernel_rfl) (fun hok25 hcl25 => ?_)
          refine al_storeAll (i := 3) rfl rfl rfl rfl Try.sizeOf32 rfl rfl .k3 rfl ?_
          refine al_end (ah_last (by kernel_rfl) ?_)
          refine aq_then ?_
          refine ac_ret ?_
          refine retR Try.results28 (.agg (i := 3) rfl rfl Try.isAgg32 Try.sizeOf32 rfl .nil) .one (fun w9 hs => ?_)
          exact ⟨b17, b21, b20, rfl, hs.own (.cons (j := 2) rfl (.cons (j := 0) rfl (.cons (j := 1) rfl .nil))) (by decide)⟩
      · refine al_makeInts (n := R.lb) (z := (.int .i64 0)) (bytes := 8) rfl rfl rfl Try.underlying30 (by kernel_rfl) rfl (by omega) (by decide) rfl rfl ?_
        intro b22
        refine al_end (ah_back hok20 hcl20 (fun w9 hs => ((hs.fewer 1 rfl).tail 1 rfl)) ?_)
        refine ah_two 3 11 rfl rfl  (by kernel_rfl) (fun hok26 hcl26 => ?_) (fun hok26 hcl26 => ?_)
        · refine al_makeInts (n := R.la) (z := (.int .i64 0)) (bytes := 8) rfl rfl rfl Try.underlying30 (by kernel_rfl) rfl (by omega) (by decide) rfl rfl ?_
          intro b23
          refine al_end (ah_back hok26 hcl26 (fun w9 hs => ((hs.fewer 1 rfl).tail 2 rfl)) ?_)
          refine ah_one 11 rfl (by kernel_rfl) (fun hok27 hcl27 => ?_)
          refine al_makeInts (n := (M.grid.nr * M.grid.nz).toNat) (z := (.int .i64 0)) (bytes := 8) rfl rfl (by omega) Try.underlying30 (by kernel_rfl) rfl (by omega) (by decide) rfl rfl ?_
          intro b24
          refine al_end (ah_back hok27 hcl27 (fun w9 hs => ((hs.fewer 1 rfl).tail 3 rfl)) ?_)
          refine ah_take 12 (fun w9 hs => ((hs.fewer 1 rfl).tail 3 rfl)) rfl rfl rfl (by kernel_rfl) (by kernel_rfl) (by kernel_rfl) (fun _ _ _ h => h) rfl (q_build (.cons rfl (.cons rfl (.cons rfl .nil))) (mcq_bl_apiCurrents_0_1_2 _ _ _ rfl rfl rfl)) ?_
          refine ah_one 13 rfl (by kernel_rfl) (fun hok28 hcl28 => ?_)
          refine al_storeAll (i := 3) rfl rfl rfl rfl Try.sizeOf32 rfl rfl .k3 rfl ?_
          refine al_end (ah_last (by kernel_rfl) ?_)
          refine aq_then ?_
          refine ac_ret ?_
          refine retR Try.results28 (.agg (i := 3) rfl rfl Try.isAgg32 Try.sizeOf32 rfl .nil) .one (fun w9 hs => ?_)
          exact ⟨b23, b22, b24, rfl, hs.own (.cons (j := 1) rfl (.cons (j := 2) rfl (.cons (j := 0) rfl .nil))) (by decide)⟩
        · refine al_makeInts (n := (M.grid.nr * M.grid.nz).toNat) (z := (.int .i64 0)) (bytes := 8) rfl rfl (by omega) Try.underlying30 (by kernel_rfl) rfl (by omega) (by decide) rfl rfl ?_
          intro b25
          refine al_end (ah_back hok26 hcl26 (fun w9 hs => ((hs.fewer 1 rfl).tail 2 rfl)) ?_)
          refine ah_one 3 rfl (by kernel_rfl) (fun hok29 hcl29 => ?_)
          refine al_makeInts (n := R.la) (z := (.int .i64 0)) (bytes := 8) rfl rfl rfl Try.underlying30 (by kernel_rfl) rfl (by omega) (by decide) rfl rfl ?_
          intro b26
          refine al_end (ah_back hok29 hcl29 (fun w9 hs => ((hs.fewer 1 rfl).tail 3 rfl)) ?_)
          refine ah_take 12 (fun w9 hs => ((hs.fewer 1 rfl).tail 3 rfl)) rfl rfl rfl (by kernel_rfl) (by kernel_rfl) (by kernel_rfl) (fun _ _ _ h => h) rfl (q_build (.cons rfl (.cons rfl (.cons rfl .nil))) (mcq_bl_apiCurrents_0_1_2 _ _ _ rfl rfl rfl)) ?_
          refine ah_one 13 rfl (by kernel_rfl) (fun hok30 hcl30 => ?_)
          refine al_storeAll (i := 3) rfl rfl rfl rfl Try.sizeOf32 rfl rfl .k3 rfl ?_
          refine al_end (ah_last (by kernel_rfl) ?_)
          refine aq_then ?_
          refine ac_ret ?_
          refine retR Try.results28 (.agg (i := 3) rfl rfl Try.isAgg32 Try.sizeOf32 rfl .nil) .one (fun w9 hs => ?_)
          exact ⟨b26, b22, b25, rfl, hs.own (.cons (j := 0) rfl (.cons (j := 2) rfl (.cons (j := 1) rfl .nil))) (by decide)⟩
      · refine al_makeInts (n := (M.grid.nr * M.grid.nz).toNat) (z := (.int .i64 0)) (bytes := 8) rfl rfl (by omega) Try.underlying30 (by kernel_rfl) rfl (by omega) (by decide) rfl rfl ?_
        intro b27
        refine al_end (ah_back hok20 hcl20 (fun w9 hs => ((hs.fewer 1 rfl).tail 1 rfl)) ?_)
        refine ah_two 3 7 rfl rfl  (by kernel_rfl) (fun hok31 hcl31 => ?_) (fun hok31 hcl31 => ?_)
        · refine al_makeInts (n := R.la) (z := (.int .i64 0)) (bytes := 8) rfl rfl rfl Try.underlying30 (by kernel_rfl) rfl (by omega) (by decide) rfl rfl ?_
          intro b28
          refine al_end (ah_back hok31 hcl31 (fun w9 hs => ((hs.fewer 1 rfl).tail 2 rfl)) ?_)
          refine ah_one 7 rfl (by kernel_rfl) (fun hok32 hcl32 => ?_)
          refine al_makeInts (n := R.lb) (z := (.int .i64 0)) (bytes := 8) rfl rfl rfl Try.underlying30 (by kernel_rfl) rfl (by omega) (by decide) rfl rfl ?_
          intro b29
          refine al_end (ah_back hok32 hcl32 (fun w9 hs => ((hs.fewer 1 rfl).tail 3 rfl)) ?_)
          refine ah_take 12 (fun w9 hs => ((hs.fewer 1 rfl).tail 3 rfl)) rfl rfl rfl (by kernel_rfl) (by kernel_rfl) (by kernel_rfl) (fun _ _ _ h => h) rfl (q_build (.cons rfl (.cons rfl (.cons rfl .nil))) (mcq_bl_apiCurrents_0_1_2 _ _ _ rfl rfl rfl)) ?_
          refine ah_one 13 rfl (by kernel_rfl) (fun hok33 hcl33 => ?_)
          refine al_storeAll (i := 3) rfl rfl rfl rfl Try.sizeOf32 rfl rfl .k3 rfl ?_
          refine al_end (ah_last (by kernel_rfl) ?_)
          refine aq_then ?_
          refine ac_ret ?_
          refine retR Try.results28 (.agg (i := 3) rfl rfl Try.isAgg32 Try.sizeOf32 rfl .nil) .one (fun w9 hs => ?_)
          exact ⟨b28, b29, b27, rfl, hs.own (.cons (j := 1) rfl (.cons (j := 0) rfl (.cons (j := 2) rfl .nil))) (by decide)⟩
        · refine al_makeInts (n := R.lb) (z := (.int .i64 0)) (bytes := 8) rfl rfl rfl Try.underlying30 (by kernel_rfl) rfl (by omega) (by decide) rfl rfl ?_
          intro b30
          refine al_end (ah_back hok31 hcl31 (fun w9 hs => ((hs.fewer 1 rfl).tail 2 rfl)) ?_)
          refine ah_one 3 rfl (by kernel_rfl) (fun hok34 hcl34 => ?_)
          refine al_makeInts (n := R.la) (z := (.int .i64 0)) (bytes := 8) rfl rfl rfl Try.underlying30 (by kernel_rfl) rfl (by omega) (by decide) rfl rfl ?_
          intro b31
          refine al_end (ah_back hok34 hcl34 (fun w9 hs => ((hs.fewer 1 rfl).tail 3 rfl)) ?_)
          refine ah_take 12 (fun w9 hs => ((hs.fewer 1 rfl).tail 3 rfl)) rfl rfl rfl (by kernel_rfl) (by kernel_rfl) (by kernel_rfl) (fun _ _ _ h => h) rfl (q_build (.cons rfl (.cons rfl (.cons rfl .nil))) (mcq_bl_apiCurrents_0_1_2 _ _ _ rfl rfl rfl)) ?_
          refine ah_one 13 rfl (by kernel_rfl) (fun hok35 hcl35 => ?_)
          refine al_storeAll (i := 3) rfl rfl rfl rfl Try.sizeOf32 rfl rfl .k3 rfl ?_
          refine al_end (ah_last (by kernel_rfl) ?_)
          refine aq_then ?_
          refine ac_ret ?_
          refine retR Try.results28 (.agg (i := 3) rfl rfl Try.isAgg32 Try.sizeOf32 rfl .nil) .one (fun w9 hs => ?_)
          exact ⟨b31, b30, b27, rfl, hs.own (.cons (j := 0) rfl (.cons (j := 1) rfl (.cons (j := 2) rfl .nil))) (by decide)⟩

end Go.Proofs.Ytkhahbnagbjbiaa
end
section
/- Package machine: checkField, Flux, Field, Cells, Coil, Sensor, over this seat's translation (written by ax_mf.py). -/
namespace Go.Proofs.Ytkhahbnagbjbiaa
set_option linter.unusedVariables false
set_option linter.unusedSimpArgs false
open Go.RowKit

def cellsN (M : MachD) : Int := if checkC M = 0 then M.grid.nr * M.grid.nz else 0

set_option maxRecDepth 100000 in
theorem mcells_any (R : MachR) (M : MachD) (w : World) (hM : IsM w R M) : Calls Try.prog 32 #[(.agg (machCells R M))] w (Ret (.int .i64 (cellsN M)) w) := by
  refine calls_ax (vs := [(.agg (machCells R M))]) Try.func32 rfl rfl ?_
  refine ac_seq ?_
  refine ac_region ?_
  refine al_new (fun b => .pointer (some ⟨b, 0, none⟩)) (r_box rfl rfl) rfl rfl rfl ?_
  intro b1
  refine al_q (q_assign rfl) rfl rfl rfl ?_
  refine al_end ?_
  refine aq_then ?_
  refine ac_seq ?_
  refine ac_seq ?_
  refine ac_region ?_
  refine al_q (q_loadAll (i := 0) rfl rfl Try.isAgg29 Try.sizeOf29 rfl) rfl rfl rfl ?_
  refine al_call Try.call27 (.cons rfl .nil) rfl rfl (fun w1 hs1 => ?_)
  refine (check_any R M _ (hM.below hs1.below)).mono ?_
  rintro e u1 ⟨rfl, hb_1⟩
  refine ⟨_, rfl, hb_1, ?_⟩
  clear hs1
  refine al_q (q_neq rfl rfl) rfl rfl rfl ?_
  refine al_end ?_
  refine aq_then ?_
  refine ac_cond rfl (fun h1 => ?_) (fun h1 => ?_)
  · have hc : checkC M ≠ 0 := by simpa using h1
    refine ac_seq ?_
    refine ac_region ?_
    refine al_q (q_assign rfl) rfl rfl rfl ?_
    refine al_end ?_
    refine aq_then ?_
    refine ac_ret ?_
    refine aq_thenR ?_
    refine ret1 Try.results32 rfl (fun w9 hs => ?_)
    refine ⟨?_, hs.below⟩; simp [cellsN, hc]
  · have hc : checkC M = 0 := by simpa using h1
    have hg := cells_fine (sound_of hc).grid
    refine ac_skip ?_
    refine aq_then ?_
    refine ac_seq ?_
    refine ac_region ?_
    refine al_q (q_fieldAddr 4 rfl Try.runUnderlying29 rfl Try.sizeOf26 (by decide) rfl) rfl rfl rfl ?_
    refine al_q (q_loadSub (i := 0) rfl rfl Try.isAgg26 Try.sizeOf26 .k4 .k5) rfl rfl rfl ?_
    refine al_call Try.call53 (.cons rfl .nil) rfl rfl (fun w2 hs2 => ?_)
    refine (cells_any M.grid _ (by omega) (by omega)).mono ?_
    rintro e u2 ⟨rfl, hb_2⟩
    refine ⟨_, rfl, hb_2, ?_⟩
    clear hs2
    refine al_q (q_assign rfl) rfl rfl rfl ?_
    refine al_end ?_
    refine aq_then ?_
    refine ac_ret ?_
    refine ret1 Try.results32 rfl (fun w9 hs => ?_)
    refine ⟨?_, hs.below⟩; simp [cellsN, hc]

end Go.Proofs.Ytkhahbnagbjbiaa
end
section
/- Package machine: divide, force, Force, Linked, over this seat's translation (written by ax_mg.py). -/
namespace Go.Proofs.Ytkhahbnagbjbiaa
set_option linter.unusedVariables false
set_option linter.unusedSimpArgs false
open Go.RowKit

end Go.Proofs.Ytkhahbnagbjbiaa
end
section
/- Plain facts about flux: it is linear in the currents (P2.2); a coil alone has no force on itself (P2.5). -/
namespace Go.Proofs.Ytkhahbnagbjbiaa
set_option linter.unusedVariables false
set_option linter.unusedSimpArgs false
open Go.RowKit Go.Shelf

theorem limits_ok {M : MachD} (h : checkC M = 0) : (M.limits.length : Int) ≤ 16 ∧ ∀ x ∈ M.limits, (-60 ≤ x.r ∧ x.r ≤ 60) ∧ -60 ≤ x.z ∧ x.z ≤ 60 := by
  have h4 := (orL_zero (orL_zero (orL_zero (orL_zero h).2).2).2).1
  unfold limitsC at h4
  split at h4
  · cases h4
  · have q := eachC_all h4
    refine ⟨q.1, fun x hx => ?_⟩
    obtain ⟨e, he⟩ := q.2 x hx
    unfold limitC at he
    split at he
    · rename_i hn; exact near_iff.1 hn
    · simp at he

end Go.Proofs.Ytkhahbnagbjbiaa
end
section
/- Plain facts about mirrored machines (2.4, P2.3): a mirrored machine is valid, mirroring twice changes nothing, the flux at the mirrored place is the same. -/
namespace Go.Proofs.Ytkhahbnagbjbiaa
set_option linter.unusedVariables false
set_option linter.unusedSimpArgs false
open Go.RowKit Go.Shelf

def mirCoil (c : CoilD) : CoilD := { c with z := -c.z }
def mirShell (s : ShellD) : ShellD := { s with z := -s.z }
def mirPoint (p : PointD) : PointD := { p with z := -p.z }
def mirSensor (s : SensorD) : SensorD := { s with z := -s.z }
def mirG (g : GridD) : GridD := { g with z := -(g.z + (g.nz - 1) * g.step) }
def mirM (M : MachD) : MachD := ⟨M.name, M.coils.map mirCoil, M.shells.map mirShell, M.limits.map mirPoint, mirG M.grid, M.sensors.map mirSensor⟩
/-- the cell that lies where cell k comes from -/
def sigma (g : GridD) (k : Nat) : Nat := ((g.nz - 1 - (k : Int) / g.nr) * g.nr + (k : Int) % g.nr).toNat
def turnL (g : GridD) (l : List Int) : List Int := (List.range l.length).map fun k => l[sigma g k]?.getD 0
def mirC (g : GridD) (C : CurD) : CurD := ⟨C.coils, C.shells, turnL g C.plasma⟩

def sumN (f : Nat → Int) : Nat → Int
  | 0 => 0
  | n + 1 => sumN f n + f n
theorem sumN_congr {f g : Nat → Int} : ∀ n : Nat, (∀ i, i < n → f i = g i) → sumN f n = sumN g n
  | 0, _ => rfl
  | n + 1, h => by simp only [sumN]; rw [sumN_congr n (fun i hi => h i (by omega)), h n (by omega)]
theorem sumN_add (f : Nat → Int) (m : Nat) : ∀ n : Nat, sumN f (m + n) = sumN f m + sumN (fun i => f (m + i)) n
  | 0 => by simp [sumN]
  | n + 1 => by
    rw [← Nat.add_assoc]; simp only [sumN]
    rw [sumN_add f m n]; omega
theorem sumN_rows (f : Nat → Int) (c : Nat) : ∀ a : Nat, sumN f (a * c) = sumN (fun i => sumN (fun j => f (i * c + j)) c) a
  | 0 => by simp [sumN]
  | a + 1 => by
    rw [Nat.add_mul, Nat.one_mul, sumN_add, sumN_rows f c a]; rfl
theorem sumN_front (f : Nat → Int) : ∀ n : Nat, sumN f (n + 1) = f 0 + sumN (fun i => f (i + 1)) n
  | 0 => by simp [sumN]
  | n + 1 => by
    rw [sumN, sumN_front f n]; simp only [sumN]; omega
theorem sumN_rev (f : Nat → Int) : ∀ n : Nat, sumN (fun i => f (n - 1 - i)) n = sumN f n
  | 0 => rfl
  | n + 1 => by
    rw [sumN_front]
    have e : sumN (fun i => f (n + 1 - 1 - (i + 1))) n = sumN (fun i => f (n - 1 - i)) n := sumN_congr n (fun i hi => by congr 1; omega)
    rw [e, sumN_rev f n]
    simp only [sumN]
    rw [show n + 1 - 1 - 0 = n by omega]; omega
theorem sigma_at (g : GridD) (a b c d : Nat) (hc : g.nr = c) (hd : g.nz = d) (ha : a < d) (hb : b < c) : sigma g (a * c + b) = (d - 1 - a) * c + b := by
  unfold sigma
  rw [hc, hd]
  have h1 : ((a * c + b : Nat) : Int) / (c : Int) = a := by
    have : (a * c + b) / c = a := by
      rw [Nat.mul_comm, Nat.mul_add_div (by omega), Nat.div_eq_of_lt hb]; omega
    exact_mod_cast this
  have h2 : ((a * c + b : Nat) : Int) % (c : Int) = b := by
    have : (a * c + b) % c = b := by
      rw [Nat.mul_comm, Nat.mul_add_mod, Nat.mod_eq_of_lt hb]
    exact_mod_cast this
  rw [h1, h2]
  have h3 : ((d : Int) - 1 - a) = ((d - 1 - a : Nat) : Int) := by omega
  rw [h3]
  have h4 : ((d - 1 - a : Nat) : Int) * (c : Int) + (b : Int) = (((d - 1 - a) * c + b : Nat) : Int) := by push_cast; rfl
  rw [h4, Int.toNat_natCast]
theorem sum_sigma (g : GridD) (c d : Nat) (hc : g.nr = c) (hd : g.nz = d) (f : Nat → Int) : sumN (fun k => f (sigma g k)) (d * c) = sumN f (d * c) := by
  rw [sumN_rows, sumN_rows]
  rw [← sumN_rev (fun i => sumN (fun j => f (i * c + j)) c) d]
  refine sumN_congr d (fun i hi => ?_)
  exact sumN_congr c (fun j hj => by rw [sigma_at g i j c d hc hd hi hj])
theorem rowcol (k c d : Nat) (hk : k < d * c) : ∃ a b, a < d ∧ b < c ∧ k = a * c + b := by
  have hc : 0 < c := by
    rcases Nat.eq_zero_or_pos c with h | h
    · subst h; simp at hk
    · exact h
  refine ⟨k / c, k % c, ?_, Nat.mod_lt _ hc, ?_⟩
  · exact (Nat.div_lt_iff_lt_mul hc).2 hk
  · rw [Nat.mul_comm]; exact (Nat.div_add_mod k c).symm
theorem sigma_lt (g : GridD) (c d k : Nat) (hc : g.nr = c) (hd : g.nz = d) (hk : k < d * c) : sigma g k < d * c := by
  obtain ⟨a, b, ha, hb, rfl⟩ := rowcol k c d hk
  rw [sigma_at g a b c d hc hd ha hb]
  have : (d - 1 - a) * c + c ≤ d * c := by
    rw [← Nat.succ_mul]; exact Nat.mul_le_mul_right c (by omega)
  omega
/-- the place of a cell in the mirrored grid -/
theorem cell_mir (g : GridD) (c d k : Nat) (hc : g.nr = c) (hd : g.nz = d) (hk : k < d * c) : cellR (mirG g) k = cellR g (sigma g k) ∧ cellZ (mirG g) k = -cellZ g (sigma g k) := by
  obtain ⟨a, b, ha, hb, rfl⟩ := rowcol k c d hk
  rw [sigma_at g a b c d hc hd ha hb]
  unfold cellR cellZ mirG
  simp only [hc, hd]
  have d1 : ∀ x : Nat, ((x * c + b : Nat) : Int) / (c : Int) = x := fun x => by
    have : (x * c + b) / c = x := by
      rw [Nat.mul_comm, Nat.mul_add_div (by omega), Nat.div_eq_of_lt hb]; omega
    exact_mod_cast this
  have d2 : ∀ x : Nat, ((x * c + b : Nat) : Int) % (c : Int) = b := fun x => by
    have : (x * c + b) % c = b := by
      rw [Nat.mul_comm, Nat.mul_add_mod, Nat.mod_eq_of_lt hb]
    exact_mod_cast this
  rw [d1, d2, d1, d2]
  refine ⟨rfl, ?_⟩
  have e : ((d - 1 - a : Nat) : Int) = (d : Int) - 1 - a := by omega
  rw [e]; simp only [Int.sub_mul, Int.one_mul]; omega

theorem infl_neg (a b c d : Int) : infl a (-b) c (-d) = infl a b c d := by
  have n : ∀ r z : Int, nearB r (-z) 1000 = nearB r z 1000 := fun r z => by
    apply Bool.eq_iff_iff.2; rw [near_iff, near_iff]; omega
  unfold infl
  rw [n, n, show -b - -d = -(b - d) by omega, Int.neg_mul_neg]
theorem fine_nat {g : GridD} (h : g.Fine) : ∃ c d : Nat, g.nr = c ∧ g.nz = d ∧ g.nr * g.nz = ((d * c : Nat) : Int) := by
  obtain ⟨_, _, _, _, n0, n1, k0, k1, _, _⟩ := h
  refine ⟨g.nr.toNat, g.nz.toNat, by omega, by omega, ?_⟩
  push_cast
  rw [Int.toNat_of_nonneg (by omega), Int.toNat_of_nonneg (by omega), Int.mul_comm]
theorem turn_length (g : GridD) (l : List Int) : (turnL g l).length = l.length := by simp [turnL]
theorem turn_get (g : GridD) (l : List Int) (k : Nat) (hk : k < l.length) : (turnL g l)[k]?.getD 0 = l[sigma g k]?.getD 0 := by simp [turnL, hk]
theorem eachGo_map {α : Type} {chk : α → List α → Int} {m : α → α} (h : ∀ x e, chk (m x) (e.map m) = chk x e) : ∀ (l pre : List α), eachGo chk (pre.map m) (l.map m) = eachGo chk pre l
  | [], pre => rfl
  | x :: l, pre => by
    simp only [List.map_cons, eachGo]
    rw [h]
    have ih := eachGo_map h l (pre ++ [x])
    rw [List.map_append] at ih
    rw [← ih]; rfl
theorem eachC_map {α : Type} {chk : α → List α → Int} {m : α → α} (h : ∀ x e, chk (m x) (e.map m) = chk x e) (most : Int) (l : List α) : eachC chk most (l.map m) = eachC chk most l := by
  unfold eachC
  rw [List.length_map]
  have := eachGo_map h l []
  rw [List.map_nil] at this
  rw [this]
theorem near_neg (r z f : Int) : nearB r (-z) f = nearB r z f := by
  apply Bool.eq_iff_iff.2; rw [near_iff, near_iff]; omega
theorem coilC_mir (x : CoilD) (e : List CoilD) : coilC (mirCoil x) (e.map mirCoil) = coilC x e := by
  unfold coilC
  simp only [mirCoil, near_neg, List.any_map, Function.comp_def]
  rfl
theorem shellC_mir (x : ShellD) (e : List ShellD) : shellC (mirShell x) (e.map mirShell) = shellC x e := by
  unfold shellC
  simp only [mirShell, near_neg]
theorem sensorC_mir (x : SensorD) (e : List SensorD) : sensorC (mirSensor x) (e.map mirSensor) = sensorC x e := by
  unfold sensorC
  simp only [mirSensor, near_neg, List.any_map, Function.comp_def]
  rfl
theorem limitC_mir (x : PointD) (e : List PointD) : limitC (mirPoint x) (e.map mirPoint) = limitC x e := by
  have ha : (e.map mirPoint).any (fun y => decide (y.r = (mirPoint x).r) && decide (y.z = (mirPoint x).z)) = e.any (fun y => decide (y.r = x.r) && decide (y.z = x.z)) := by
    rw [List.any_map]
    congr 1; funext y
    show (decide (y.r = x.r) && decide (-y.z = -x.z)) = _
    rw [show decide (-y.z = -x.z) = decide (y.z = x.z) from decide_eq_decide.2 (by omega)]
  unfold limitC
  rw [ha, show nearB (mirPoint x).r (mirPoint x).z 60 = nearB x.r x.z 60 from near_neg _ _ _]
theorem gridC_mir {g : GridD} (h : gridC g = 0) : gridC (mirG g) = 0 := by
  have hf := fine_grid h
  obtain ⟨c, d, hc, hd, hn⟩ := fine_nat hf
  have hg := cells_fine hf
  have hdc : 0 < d * c := by omega
  unfold gridC at h ⊢
  have e : (mirG g).nr = g.nr ∧ (mirG g).nz = g.nz ∧ (mirG g).step = g.step ∧ (mirG g).r = g.r := ⟨rfl, rfl, rfl, rfl⟩
  rw [e.1, e.2.1, e.2.2.1]
  split at h
  · split at h
    · rename_i h1 h2
      have h3 := rng_zero h
      rw [if_pos h1]
      have hk : d * c - 1 < d * c := by omega
      have cz := cell_mir g c d (d * c - 1) hc hd hk
      have e2 : g.nr * g.nz - 1 = ((d * c - 1 : Nat) : Int) := by omega
      have hcp : 0 < c := Nat.pos_of_mul_pos_left hdc
      have hdp : 0 < d := Nat.pos_of_mul_pos_right hdc
      have top : d * c - 1 = (d - 1) * c + (c - 1) := by
        have : (d - 1) * c + c = d * c := by rw [← Nat.succ_mul]; congr 1; omega
        omega
      have s1 : sigma g (d * c - 1) = c - 1 := by
        rw [top, sigma_at g (d - 1) (c - 1) c d hc hd (by omega) (by omega), show d - 1 - (d - 1) = 0 by omega]; omega
      have z1 : ((d * c - 1 : Nat) : Int) / (c : Int) = ((d - 1 : Nat) : Int) := by
        have : (d * c - 1) / c = d - 1 := by
          rw [top, Nat.mul_comm, Nat.mul_add_div hcp, Nat.div_eq_of_lt (by omega)]; omega
        exact_mod_cast this
      have m1 : ((d * c - 1 : Nat) : Int) % (c : Int) = ((c - 1 : Nat) : Int) := by
        have : (d * c - 1) % c = c - 1 := by
          rw [top, Nat.mul_comm, Nat.mul_add_mod, Nat.mod_eq_of_lt (by omega)]
        exact_mod_cast this
      have z2 : ((c - 1 : Nat) : Int) / (c : Int) = 0 := by
        have : (c - 1) / c = 0 := Nat.div_eq_of_lt (by omega)
        exact_mod_cast this
      have m2 : ((c - 1 : Nat) : Int) % (c : Int) = ((c - 1 : Nat) : Int) := by
        have : (c - 1) % c = c - 1 := Nat.mod_eq_of_lt (by omega)
        exact_mod_cast this
      rw [e2] at h3
      have n3 := near_iff.1 h3
      have n2 := near_iff.1 h2
      unfold cellR cellZ at n3
      rw [hc, z1, m1] at n3
      rw [e2, cz.1, cz.2, s1]
      have hz : (mirG g).z = -(g.z + (g.nz - 1) * g.step) := rfl
      have e3 : ((d - 1 : Nat) : Int) = g.nz - 1 := by omega
      rw [e3] at n3
      have k1 : nearB (mirG g).r (mirG g).z 60 = true := by
        rw [e.2.2.2, hz]
        exact near_iff.2 ⟨n2.1, by omega⟩
      rw [if_pos k1]
      have k2 : nearB (cellR g ((c - 1 : Nat) : Int)) (-cellZ g ((c - 1 : Nat) : Int)) 60 = true := by
        unfold cellR cellZ
        rw [hc, z2, m2]
        exact near_iff.2 ⟨n3.1, by omega⟩
      rw [k2]; rfl
    · simp at h
  · simp at h
theorem check_mir {M : MachD} (h : checkC M = 0) : checkC (mirM M) = 0 := by
  have hg := gridC_mir (grid_of h)
  have hgrid : gridC M.grid = 0 := grid_of h
  unfold checkC at h ⊢
  have e1 : eachC coilC 12 (mirM M).coils = eachC coilC 12 M.coils := eachC_map coilC_mir 12 M.coils
  have e2 : eachC shellC 16 (mirM M).shells = eachC shellC 16 M.shells := eachC_map shellC_mir 16 M.shells
  have e3 : limitsC (mirM M).limits = limitsC M.limits := by
    unfold limitsC
    rw [show (mirM M).limits = M.limits.map mirPoint from rfl, List.length_map, eachC_map limitC_mir 16 M.limits]
  have e4 : eachC sensorC 24 (mirM M).sensors = eachC sensorC 24 M.sensors := eachC_map sensorC_mir 24 M.sensors
  rw [e1, e2, e3, e4, show (mirM M).name = M.name from rfl, show (mirM M).grid = mirG M.grid from rfl, hg]
  rw [hgrid] at h
  exact h
theorem tot_sum (s : Int) : ∀ (l : List Int), (∀ x ∈ l, 0 ≤ x ∧ x ≤ 1000000) → 0 ≤ s → s + 1000000 * (l.length : Int) ≤ 1000000000000000 → tot s l = s + sumN (fun k => l[k]?.getD 0) l.length
  | [], _, _, _ => by simp [tot, sumN]
  | x :: l, h, h0, h1 => by
    have hx := h x (by simp)
    simp only [List.length_cons] at h1
    simp only [tot, List.length_cons]
    rw [IntWalk.wrap64_in _ (by omega), tot_sum _ l (fun y hy => h y (List.mem_cons_of_mem _ hy)) (by omega) (by omega), sumN_front]
    simp; omega
theorem tot_turn {g : GridD} (hf : g.Fine) {l : List Int} (hl : (l.length : Int) = g.nr * g.nz) (h : ∀ x ∈ l, 0 ≤ x ∧ x ≤ 1000000) : tot 0 (turnL g l) = tot 0 l := by
  obtain ⟨c, d, hc, hd, hn⟩ := fine_nat hf
  have hg := cells_fine hf
  have hl2 : l.length = d * c := by omega
  have ht : ∀ x ∈ turnL g l, 0 ≤ x ∧ x ≤ 1000000 := fun x hx => by
    obtain ⟨k, hk, rfl⟩ := List.mem_map.1 hx
    have hk1 : k < l.length := by simpa using hk
    have := sigma_lt g c d k hc hd (by omega)
    rw [List.getElem?_eq_getElem (show sigma g k < l.length by omega)]
    exact h _ (List.getElem_mem _)
  rw [tot_sum 0 _ ht (by omega) (by rw [turn_length]; omega), tot_sum 0 _ h (by omega) (by omega), turn_length, hl2]
  rw [← sum_sigma g c d hc hd (fun k => l[k]?.getD 0)]
  congr 1
  exact sumN_congr _ (fun k hk => turn_get g l k (by omega))
theorem fit_mir {M : MachD} {C : CurD} (h : Fit2 M C) : Fit2 (mirM M) (mirC M.grid C) := by
  have hf := (sound_of h.check).grid
  obtain ⟨c, d, hc, hd, hn⟩ := fine_nat hf
  have hl : C.plasma.length = d * c := by have := h.plasma.1; omega
  refine ⟨check_mir h.check, ⟨by rw [show (mirM M).coils = M.coils.map mirCoil from rfl, List.length_map]; exact h.coils.1, h.coils.2⟩, ⟨by rw [show (mirM M).shells = M.shells.map mirShell from rfl, List.length_map]; exact h.shells.1, h.shells.2⟩, ⟨?_, fun x hx => ?_⟩, ?_⟩
  · rw [show (mirC M.grid C).plasma = turnL M.grid C.plasma from rfl, turn_length]; exact h.plasma.1
  · obtain ⟨k, hk, rfl⟩ := List.mem_map.1 hx
    have hk1 : k < C.plasma.length := by simpa using hk
    have := sigma_lt M.grid c d k hc hd (by omega)
    rw [List.getElem?_eq_getElem (show sigma M.grid k < C.plasma.length by omega)]
    exact h.plasma.2 _ (List.getElem_mem _)
  · rw [show (mirC M.grid C).plasma = turnL M.grid C.plasma from rfl, tot_turn hf h.plasma.1 h.plasma.2]; exact h.total
end Go.Proofs.Ytkhahbnagbjbiaa
end
