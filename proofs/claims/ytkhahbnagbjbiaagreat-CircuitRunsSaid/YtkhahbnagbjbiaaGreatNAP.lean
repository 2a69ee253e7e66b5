import Derived.Test.YtkhahbnagbjbiaaGreatNAB
import Derived.Test.YtkhahbnagbjbiaaGreatNAL
import Derived.Test.YtkhahbnagbjbiaaGreatNAN
import Derived.Test.YtkhahbnagbjbiaaGreatNAO
import Derived.Test.YtkhahbnagbjbiaaGreatRows
import Derived.KernelRfl
import Derived.Laws.StructEq
section
/- Package machine: Quiet, checkField, Flux, Field, over this seat's translation (written by ax_mq.py). -/
namespace Go.Proofs.YtkhahbnagbjbiaaGreat
set_option linter.unusedVariables false
set_option linter.unusedSimpArgs false
open Go.RowKit

def zeros (n : Nat) : List Value := List.replicate n (.int .i64 0)
theorem mcq_bl_apiCurrents_0_1_2 (a0 a1 a2 : Value) (ha0 : a0.oneCell' = true) (ha1 : a1.oneCell' = true) (ha2 : a2.oneCell' = true) : ∀ w, (Instr.build 32 #[(0, a0), (1, a1), (2, a2)]).run Tryz.prog w = .ok (.agg #[a0, a1, a2]) w := by
  have ea0 : a0.cells = #[a0] := cells_one ha0
  have ea1 : a1.cells = #[a1] := cells_one ha1
  have ea2 : a2.cells = #[a2] := cells_one ha2
  intro w; simp [Instr.build, Instr.fill, cells_agg, Tryz.runUnderlying32, Tryz.zeroValue32, Tryz.sizeOf30, ea0, ea1, ea2]

set_option maxRecDepth 100000 in
theorem quiet_ok (R : MachR) (M : MachD) (w : World) (hM : IsM w R M) (hc : checkC M = 0) : Calls Tryz.prog 47 #[(.agg (machCells R M))] w (fun e w' => ∃ b1 b2 b3, e = .returned (.agg #[.slice (some ⟨b1, 0, none⟩) R.la R.la, .slice (some ⟨b2, 0, none⟩) R.lb R.lb, .slice (some ⟨b3, 0, none⟩) (M.grid.nr * M.grid.nz).toNat (M.grid.nr * M.grid.nz).toNat]) ∧ Own w [(b1, .cells (List.replicate R.la (.int .i64 0))), (b2, .cells (List.replicate R.lb (.int .i64 0))), (b3, .cells (List.replicate (M.grid.nr * M.grid.nz).toNat (.int .i64 0)))] w') := by
  have hs0 := sound_of hc
  have hg := cells_fine hs0.grid
  have hsc := hs0.coils.1
  have hss := hs0.shells.1
  have ga := hM.coils.1
  have gb := hM.shells.1
  refine calls_ax (vs := [(.agg (machCells R M))]) Tryz.func47 rfl rfl ?_
  refine ac_seq (ac_region ?_)
  refine al_new (fun b => .pointer (some ⟨b, 0, none⟩)) (r_box rfl rfl) rfl rfl rfl ?_
  intro b1
  refine al_new (fun b => .pointer (some ⟨b, 0, none⟩)) (r_alloc Tryz.zeroValue32 rfl) rfl rfl rfl ?_
  intro b2
  refine al_end (aq_then ?_)
  refine ac_seq ?_
  refine ac_seq (ac_region ?_)
  refine al_p (q_loadAll (i := 1) rfl rfl Tryz.isAgg29 Tryz.sizeOf29 rfl) ?_
  refine al_call Tryz.call40 (.cons rfl .nil) rfl rfl (fun w1 hs1 => ?_)
  refine (check_any R M _ (hM.below hs1.below)).mono ?_
  rintro e u1 ⟨rfl, hb_1⟩
  refine ⟨_, rfl, hb_1, ?_⟩
  clear hs1
  refine al_p (q_neq rfl rfl) ?_
  refine al_end (aq_then ?_)
  refine ac_cond rfl (fun h1 => ?_) (fun h1 => ?_)
  · exact absurd h1 (by simp [hc])
  · refine ac_skip ?_
    refine aq_then ?_
    refine ac_seq ?_
    refine ac_draw 13 (by kernel_rfl) (by kernel_rfl) ?_
    refine ah_t 0 (fun w9 hs => hs) rfl rfl (by kernel_rfl) (q_fieldAddr 1 rfl Tryz.runUnderlying29 rfl Tryz.sizeOf22 (by decide) rfl) ?_
    refine ah_t 1 (fun w9 hs => hs) rfl rfl (by kernel_rfl) (q_load (i := 1) rfl rfl rfl Tryz.isAgg22) ?_
    refine ah_t 2 (fun w9 hs => hs) rfl rfl (by kernel_rfl) (q_lenS rfl Tryz.runUnderlying22) ?_
    refine ah_t 4 (fun w9 hs => hs) rfl rfl (by kernel_rfl) (q_fieldAddr 2 rfl Tryz.runUnderlying29 rfl Tryz.sizeOf23 (by decide) rfl) ?_
    refine ah_t 5 (fun w9 hs => hs) rfl rfl (by kernel_rfl) (q_load (i := 1) rfl rfl rfl Tryz.isAgg23) ?_
    refine ah_t 6 (fun w9 hs => hs) rfl rfl (by kernel_rfl) (q_lenS rfl Tryz.runUnderlying23) ?_
    refine ah_t 8 (fun w9 hs => hs) rfl rfl (by kernel_rfl) (q_fieldAddr 4 rfl Tryz.runUnderlying29 rfl Tryz.sizeOf26 (by decide) rfl) ?_
    refine ah_t 9 (fun w9 hs => hs) rfl rfl (by kernel_rfl) (q_loadSub (i := 1) rfl rfl Tryz.isAgg26 Tryz.sizeOf26 .k4 .k5) ?_
    refine ah_three 3 7 10 rfl rfl rfl  (by kernel_rfl) (fun hok1 hcl1 => ?_) (fun hok1 hcl1 => ?_) (fun hok1 hcl1 => ?_)
    · refine al_makeInts (n := R.la) (z := (.int .i64 0)) (bytes := 8) rfl rfl rfl Tryz.underlying30 (by kernel_rfl) rfl (by omega) (by decide) rfl rfl ?_
      intro b3
      refine al_end (ah_back hok1 hcl1 (fun w9 hs => (hs.tail 1 rfl)) ?_)
      refine ah_two 7 10 rfl rfl  (by kernel_rfl) (fun hok2 hcl2 => ?_) (fun hok2 hcl2 => ?_)
      · refine al_makeInts (n := R.lb) (z := (.int .i64 0)) (bytes := 8) rfl rfl rfl Tryz.underlying30 (by kernel_rfl) rfl (by omega) (by decide) rfl rfl ?_
        intro b4
        refine al_end (ah_back hok2 hcl2 (fun w9 hs => (hs.tail 2 rfl)) ?_)
        refine ah_one 10 rfl (by kernel_rfl) (fun hok3 hcl3 => ?_)
        refine al_call Tryz.call83 (.cons rfl .nil) rfl rfl (fun w2 hs2 => ?_)
        refine (cells_any M.grid _ (by omega) (by omega)).mono ?_
        rintro e u2 ⟨rfl, hb_2⟩
        refine ⟨_, rfl, hb_2, ?_⟩
        clear hs2
        refine al_end (ah_back hok3 hcl3 (fun w9 hs => ((hs.fewer 1 rfl).tail 2 rfl)) ?_)
        refine ah_one 11 rfl (by kernel_rfl) (fun hok4 hcl4 => ?_)
        refine al_makeInts (n := (M.grid.nr * M.grid.nz).toNat) (z := (.int .i64 0)) (bytes := 8) rfl rfl (by omega) Tryz.underlying30 (by kernel_rfl) rfl (by omega) (by decide) rfl rfl ?_
        intro b5
        refine al_end (ah_back hok4 hcl4 (fun w9 hs => ((hs.fewer 1 rfl).tail 3 rfl)) ?_)
        refine ah_t 12 (fun w9 hs => ((hs.fewer 1 rfl).tail 3 rfl)) rfl rfl (by kernel_rfl) (q_build (.cons rfl (.cons rfl (.cons rfl .nil))) (mcq_bl_apiCurrents_0_1_2 _ _ _ rfl rfl rfl)) ?_
        refine ah_one 13 rfl (by kernel_rfl) (fun hok5 hcl5 => ?_)
        refine al_storeAll (i := 3) rfl rfl rfl rfl Tryz.sizeOf32 rfl rfl .k3 rfl ?_
        refine al_end (ah_last (by kernel_rfl) ?_)
        refine aq_then ?_
        refine ac_ret ?_
        refine retR Tryz.results47 (.agg (i := 3) rfl rfl Tryz.isAgg32 Tryz.sizeOf32 rfl .nil) .one (fun w9 hs => ?_)
        exact ⟨b3, b4, b5, rfl, hs.own (.cons (j := 2) rfl (.cons (j := 1) rfl (.cons (j := 0) rfl .nil))) (by decide)⟩
      · refine al_call Tryz.call83 (.cons rfl .nil) rfl rfl (fun w3 hs3 => ?_)
        refine (cells_any M.grid _ (by omega) (by omega)).mono ?_
        rintro e u3 ⟨rfl, hb_3⟩
        refine ⟨_, rfl, hb_3, ?_⟩
        clear hs3
        refine al_end (ah_back hok2 hcl2 (fun w9 hs => ((hs.fewer 1 rfl).tail 1 rfl)) ?_)
        refine ah_two 7 11 rfl rfl  (by kernel_rfl) (fun hok6 hcl6 => ?_) (fun hok6 hcl6 => ?_)
        · refine al_makeInts (n := R.lb) (z := (.int .i64 0)) (bytes := 8) rfl rfl rfl Tryz.underlying30 (by kernel_rfl) rfl (by omega) (by decide) rfl rfl ?_
          intro b6
          refine al_end (ah_back hok6 hcl6 (fun w9 hs => ((hs.fewer 1 rfl).tail 2 rfl)) ?_)
          refine ah_one 11 rfl (by kernel_rfl) (fun hok7 hcl7 => ?_)
          refine al_makeInts (n := (M.grid.nr * M.grid.nz).toNat) (z := (.int .i64 0)) (bytes := 8) rfl rfl (by omega) Tryz.underlying30 (by kernel_rfl) rfl (by omega) (by decide) rfl rfl ?_
          intro b7
          refine al_end (ah_back hok7 hcl7 (fun w9 hs => ((hs.fewer 1 rfl).tail 3 rfl)) ?_)
          refine ah_t 12 (fun w9 hs => ((hs.fewer 1 rfl).tail 3 rfl)) rfl rfl (by kernel_rfl) (q_build (.cons rfl (.cons rfl (.cons rfl .nil))) (mcq_bl_apiCurrents_0_1_2 _ _ _ rfl rfl rfl)) ?_
          refine ah_one 13 rfl (by kernel_rfl) (fun hok8 hcl8 => ?_)
          refine al_storeAll (i := 3) rfl rfl rfl rfl Tryz.sizeOf32 rfl rfl .k3 rfl ?_
          refine al_end (ah_last (by kernel_rfl) ?_)
          refine aq_then ?_
          refine ac_ret ?_
          refine retR Tryz.results47 (.agg (i := 3) rfl rfl Tryz.isAgg32 Tryz.sizeOf32 rfl .nil) .one (fun w9 hs => ?_)
          exact ⟨b3, b6, b7, rfl, hs.own (.cons (j := 2) rfl (.cons (j := 1) rfl (.cons (j := 0) rfl .nil))) (by decide)⟩
        · refine al_makeInts (n := (M.grid.nr * M.grid.nz).toNat) (z := (.int .i64 0)) (bytes := 8) rfl rfl (by omega) Tryz.underlying30 (by kernel_rfl) rfl (by omega) (by decide) rfl rfl ?_
          intro b8
          refine al_end (ah_back hok6 hcl6 (fun w9 hs => ((hs.fewer 1 rfl).tail 2 rfl)) ?_)
          refine ah_one 7 rfl (by kernel_rfl) (fun hok9 hcl9 => ?_)
          refine al_makeInts (n := R.lb) (z := (.int .i64 0)) (bytes := 8) rfl rfl rfl Tryz.underlying30 (by kernel_rfl) rfl (by omega) (by decide) rfl rfl ?_
          intro b9
          refine al_end (ah_back hok9 hcl9 (fun w9 hs => ((hs.fewer 1 rfl).tail 3 rfl)) ?_)
          refine ah_t 12 (fun w9 hs => ((hs.fewer 1 rfl).tail 3 rfl)) rfl rfl (by kernel_rfl) (q_build (.cons rfl (.cons rfl (.cons rfl .nil))) (mcq_bl_apiCurrents_0_1_2 _ _ _ rfl rfl rfl)) ?_
          refine ah_one 13 rfl (by kernel_rfl) (fun hok10 hcl10 => ?_)
          refine al_storeAll (i := 3) rfl rfl rfl rfl Tryz.sizeOf32 rfl rfl .k3 rfl ?_
          refine al_end (ah_last (by kernel_rfl) ?_)
          refine aq_then ?_
          refine ac_ret ?_
          refine retR Tryz.results47 (.agg (i := 3) rfl rfl Tryz.isAgg32 Tryz.sizeOf32 rfl .nil) .one (fun w9 hs => ?_)
          exact ⟨b3, b9, b8, rfl, hs.own (.cons (j := 2) rfl (.cons (j := 0) rfl (.cons (j := 1) rfl .nil))) (by decide)⟩
    · refine al_makeInts (n := R.lb) (z := (.int .i64 0)) (bytes := 8) rfl rfl rfl Tryz.underlying30 (by kernel_rfl) rfl (by omega) (by decide) rfl rfl ?_
      intro b10
      refine al_end (ah_back hok1 hcl1 (fun w9 hs => (hs.tail 1 rfl)) ?_)
      refine ah_two 3 10 rfl rfl  (by kernel_rfl) (fun hok11 hcl11 => ?_) (fun hok11 hcl11 => ?_)
      · refine al_makeInts (n := R.la) (z := (.int .i64 0)) (bytes := 8) rfl rfl rfl Tryz.underlying30 (by kernel_rfl) rfl (by omega) (by decide) rfl rfl ?_
        intro b11
        refine al_end (ah_back hok11 hcl11 (fun w9 hs => (hs.tail 2 rfl)) ?_)
        refine ah_one 10 rfl (by kernel_rfl) (fun hok12 hcl12 => ?_)
        refine al_call Tryz.call83 (.cons rfl .nil) rfl rfl (fun w4 hs4 => ?_)
        refine (cells_any M.grid _ (by omega) (by omega)).mono ?_
        rintro e u4 ⟨rfl, hb_4⟩
        refine ⟨_, rfl, hb_4, ?_⟩
        clear hs4
        refine al_end (ah_back hok12 hcl12 (fun w9 hs => ((hs.fewer 1 rfl).tail 2 rfl)) ?_)
        refine ah_one 11 rfl (by kernel_rfl) (fun hok13 hcl13 => ?_)
        refine al_makeInts (n := (M.grid.nr * M.grid.nz).toNat) (z := (.int .i64 0)) (bytes := 8) rfl rfl (by omega) Tryz.underlying30 (by kernel_rfl) rfl (by omega) (by decide) rfl rfl ?_
        intro b12
        refine al_end (ah_back hok13 hcl13 (fun w9 hs => ((hs.fewer 1 rfl).tail 3 rfl)) ?_)
        refine ah_t 12 (fun w9 hs => ((hs.fewer 1 rfl).tail 3 rfl)) rfl rfl (by kernel_rfl) (q_build (.cons rfl (.cons rfl (.cons rfl .nil))) (mcq_bl_apiCurrents_0_1_2 _ _ _ rfl rfl rfl)) ?_
        refine ah_one 13 rfl (by kernel_rfl) (fun hok14 hcl14 => ?_)
        refine al_storeAll (i := 3) rfl rfl rfl rfl Tryz.sizeOf32 rfl rfl .k3 rfl ?_
        refine al_end (ah_last (by kernel_rfl) ?_)
        refine aq_then ?_
        refine ac_ret ?_
        refine retR Tryz.results47 (.agg (i := 3) rfl rfl Tryz.isAgg32 Tryz.sizeOf32 rfl .nil) .one (fun w9 hs => ?_)
        exact ⟨b11, b10, b12, rfl, hs.own (.cons (j := 1) rfl (.cons (j := 2) rfl (.cons (j := 0) rfl .nil))) (by decide)⟩
      · refine al_call Tryz.call83 (.cons rfl .nil) rfl rfl (fun w5 hs5 => ?_)
        refine (cells_any M.grid _ (by omega) (by omega)).mono ?_
        rintro e u5 ⟨rfl, hb_5⟩
        refine ⟨_, rfl, hb_5, ?_⟩
        clear hs5
        refine al_end (ah_back hok11 hcl11 (fun w9 hs => ((hs.fewer 1 rfl).tail 1 rfl)) ?_)
        refine ah_two 3 11 rfl rfl  (by kernel_rfl) (fun hok15 hcl15 => ?_) (fun hok15 hcl15 => ?_)
        · refine al_makeInts (n := R.la) (z := (.int .i64 0)) (bytes := 8) rfl rfl rfl Tryz.underlying30 (by kernel_rfl) rfl (by omega) (by decide) rfl rfl ?_
          intro b13
          refine al_end (ah_back hok15 hcl15 (fun w9 hs => ((hs.fewer 1 rfl).tail 2 rfl)) ?_)
          refine ah_one 11 rfl (by kernel_rfl) (fun hok16 hcl16 => ?_)
          refine al_makeInts (n := (M.grid.nr * M.grid.nz).toNat) (z := (.int .i64 0)) (bytes := 8) rfl rfl (by omega) Tryz.underlying30 (by kernel_rfl) rfl (by omega) (by decide) rfl rfl ?_
          intro b14
          refine al_end (ah_back hok16 hcl16 (fun w9 hs => ((hs.fewer 1 rfl).tail 3 rfl)) ?_)
          refine ah_t 12 (fun w9 hs => ((hs.fewer 1 rfl).tail 3 rfl)) rfl rfl (by kernel_rfl) (q_build (.cons rfl (.cons rfl (.cons rfl .nil))) (mcq_bl_apiCurrents_0_1_2 _ _ _ rfl rfl rfl)) ?_
          refine ah_one 13 rfl (by kernel_rfl) (fun hok17 hcl17 => ?_)
          refine al_storeAll (i := 3) rfl rfl rfl rfl Tryz.sizeOf32 rfl rfl .k3 rfl ?_
          refine al_end (ah_last (by kernel_rfl) ?_)
          refine aq_then ?_
          refine ac_ret ?_
          refine retR Tryz.results47 (.agg (i := 3) rfl rfl Tryz.isAgg32 Tryz.sizeOf32 rfl .nil) .one (fun w9 hs => ?_)
          exact ⟨b13, b10, b14, rfl, hs.own (.cons (j := 1) rfl (.cons (j := 2) rfl (.cons (j := 0) rfl .nil))) (by decide)⟩
        · refine al_makeInts (n := (M.grid.nr * M.grid.nz).toNat) (z := (.int .i64 0)) (bytes := 8) rfl rfl (by omega) Tryz.underlying30 (by kernel_rfl) rfl (by omega) (by decide) rfl rfl ?_
          intro b15
          refine al_end (ah_back hok15 hcl15 (fun w9 hs => ((hs.fewer 1 rfl).tail 2 rfl)) ?_)
          refine ah_one 3 rfl (by kernel_rfl) (fun hok18 hcl18 => ?_)
          refine al_makeInts (n := R.la) (z := (.int .i64 0)) (bytes := 8) rfl rfl rfl Tryz.underlying30 (by kernel_rfl) rfl (by omega) (by decide) rfl rfl ?_
          intro b16
          refine al_end (ah_back hok18 hcl18 (fun w9 hs => ((hs.fewer 1 rfl).tail 3 rfl)) ?_)
          refine ah_t 12 (fun w9 hs => ((hs.fewer 1 rfl).tail 3 rfl)) rfl rfl (by kernel_rfl) (q_build (.cons rfl (.cons rfl (.cons rfl .nil))) (mcq_bl_apiCurrents_0_1_2 _ _ _ rfl rfl rfl)) ?_
          refine ah_one 13 rfl (by kernel_rfl) (fun hok19 hcl19 => ?_)
          refine al_storeAll (i := 3) rfl rfl rfl rfl Tryz.sizeOf32 rfl rfl .k3 rfl ?_
          refine al_end (ah_last (by kernel_rfl) ?_)
          refine aq_then ?_
          refine ac_ret ?_
          refine retR Tryz.results47 (.agg (i := 3) rfl rfl Tryz.isAgg32 Tryz.sizeOf32 rfl .nil) .one (fun w9 hs => ?_)
          exact ⟨b16, b10, b15, rfl, hs.own (.cons (j := 0) rfl (.cons (j := 2) rfl (.cons (j := 1) rfl .nil))) (by decide)⟩
    · refine al_call Tryz.call83 (.cons rfl .nil) rfl rfl (fun w6 hs6 => ?_)
      refine (cells_any M.grid _ (by omega) (by omega)).mono ?_
      rintro e u6 ⟨rfl, hb_6⟩
      refine ⟨_, rfl, hb_6, ?_⟩
      clear hs6
      refine al_end (ah_back hok1 hcl1 (fun w9 hs => (hs.fewer 1 rfl)) ?_)
      refine ah_three 3 7 11 rfl rfl rfl  (by kernel_rfl) (fun hok20 hcl20 => ?_) (fun hok20 hcl20 => ?_) (fun hok20 hcl20 => ?_)
      · refine al_makeInts (n := R.la) (z := (.int .i64 0)) (bytes := 8) rfl rfl rfl Tryz.underlying30 (by kernel_rfl) rfl (by omega) (by decide) rfl rfl ?_
        intro b17
        refine al_end (ah_back hok20 hcl20 (fun w9 hs => ((hs.fewer 1 rfl).tail 1 rfl)) ?_)
        refine ah_two 7 11 rfl rfl  (by kernel_rfl) (fun hok21 hcl21 => ?_) (fun hok21 hcl21 => ?_)
        · refine al_makeInts (n := R.lb) (z := (.int .i64 0)) (bytes := 8) rfl rfl rfl Tryz.underlying30 (by kernel_rfl) rfl (by omega) (by decide) rfl rfl ?_
          intro b18
          refine al_end (ah_back hok21 hcl21 (fun w9 hs => ((hs.fewer 1 rfl).tail 2 rfl)) ?_)
          refine ah_one 11 rfl (by kernel_rfl) (fun hok22 hcl22 => ?_)
          refine al_makeInts (n := (M.grid.nr * M.grid.nz).toNat) (z := (.int .i64 0)) (bytes := 8) rfl rfl (by omega) Tryz.underlying30 (by kernel_rfl) rfl (by omega) (by decide) rfl rfl ?_
          intro b19
          refine al_end (ah_back hok22 hcl22 (fun w9 hs => ((hs.fewer 1 rfl).tail 3 rfl)) ?_)
          refine ah_t 12 (fun w9 hs => ((hs.fewer 1 rfl).tail 3 rfl)) rfl rfl (by kernel_rfl) (q_build (.cons rfl (.cons rfl (.cons rfl .nil))) (mcq_bl_apiCurrents_0_1_2 _ _ _ rfl rfl rfl)) ?_
          refine ah_one 13 rfl (by kernel_rfl) (fun hok23 hcl23 => ?_)
          refine al_storeAll (i := 3) rfl rfl rfl rfl Tryz.sizeOf32 rfl rfl .k3 rfl ?_
          refine al_end (ah_last (by kernel_rfl) ?_)
          refine aq_then ?_
          refine ac_ret ?_
          refine retR Tryz.results47 (.agg (i := 3) rfl rfl Tryz.isAgg32 Tryz.sizeOf32 rfl .nil) .one (fun w9 hs => ?_)
          exact ⟨b17, b18, b19, rfl, hs.own (.cons (j := 2) rfl (.cons (j := 1) rfl (.cons (j := 0) rfl .nil))) (by decide)⟩
        · refine al_makeInts (n := (M.grid.nr * M.grid.nz).toNat) (z := (.int .i64 0)) (bytes := 8) rfl rfl (by omega) Tryz.underlying30 (by kernel_rfl) rfl (by omega) (by decide) rfl rfl ?_
          intro b20
          refine al_end (ah_back hok21 hcl21 (fun w9 hs => ((hs.fewer 1 rfl).tail 2 rfl)) ?_)
          refine ah_one 7 rfl (by kernel_rfl) (fun hok24 hcl24 => ?_)
          refine al_makeInts (n := R.lb) (z := (.int .i64 0)) (bytes := 8) rfl rfl rfl Tryz.underlying30 (by kernel_rfl) rfl (by omega) (by decide) rfl rfl ?_
          intro b21
          refine al_end (ah_back hok24 hcl24 (fun w9 hs => ((hs.fewer 1 rfl).tail 3 rfl)) ?_)
          refine ah_t 12 (fun w9 hs => ((hs.fewer 1 rfl).tail 3 rfl)) rfl rfl (by kernel_rfl) (q_build (.cons rfl (.cons rfl (.cons rfl .nil))) (mcq_bl_apiCurrents_0_1_2 _ _ _ rfl rfl rfl)) ?_
          refine ah_one 13 rfl (by kernel_rfl) (fun hok25 hcl25 => ?_)
          refine al_storeAll (i := 3) rfl rfl rfl rfl Tryz.sizeOf32 rfl rfl .k3 rfl ?_
          refine al_end (ah_last (by kernel_rfl) ?_)
          refine aq_then ?_
          refine ac_ret ?_
          refine retR Tryz.results47 (.agg (i := 3) rfl rfl Tryz.isAgg32 Tryz.sizeOf32 rfl .nil) .one (fun w9 hs => ?_)
          exact ⟨b17, b21, b20, rfl, hs.own (.cons (j := 2) rfl (.cons (j := 0) rfl (.cons (j := 1) rfl .nil))) (by decide)⟩
      · refine al_makeInts (n := R.lb) (z := (.int .i64 0)) (bytes := 8) rfl rfl rfl Tryz.underlying30 (by kernel_rfl) rfl (by omega) (by decide) rfl rfl ?_
        intro b22
        refine al_end (ah_back hok20 hcl20 (fun w9 hs => ((hs.fewer 1 rfl).tail 1 rfl)) ?_)
        refine ah_two 3 11 rfl rfl  (by kernel_rfl) (fun hok26 hcl26 => ?_) (fun hok26 hcl26 => ?_)
        · refine al_makeInts (n := R.la) (z := (.int .i64 0)) (bytes := 8) rfl rfl rfl Tryz.underlying30 (by kernel_rfl) rfl (by omega) (by decide) rfl rfl ?_
          intro b23
          refine al_end (ah_back hok26 hcl26 (fun w9 hs => ((hs.fewer 1 rfl).tail 2 rfl)) ?_)
          refine ah_one 11 rfl (by kernel_rfl) (fun hok27 hcl27 => ?_)
          refine al_makeInts (n := (M.grid.nr * M.grid.nz).toNat) (z := (.int .i64 0)) (bytes := 8) rfl rfl (by omega) Tryz.underlying30 (by kernel_rfl) rfl (by omega) (by decide) rfl rfl ?_
          intro b24
          refine al_end (ah_back hok27 hcl27 (fun w9 hs => ((hs.fewer 1 rfl).tail 3 rfl)) ?_)
          refine ah_t 12 (fun w9 hs => ((hs.fewer 1 rfl).tail 3 rfl)) rfl rfl (by kernel_rfl) (q_build (.cons rfl (.cons rfl (.cons rfl .nil))) (mcq_bl_apiCurrents_0_1_2 _ _ _ rfl rfl rfl)) ?_
          refine ah_one 13 rfl (by kernel_rfl) (fun hok28 hcl28 => ?_)
          refine al_storeAll (i := 3) rfl rfl rfl rfl Tryz.sizeOf32 rfl rfl .k3 rfl ?_
          refine al_end (ah_last (by kernel_rfl) ?_)
          refine aq_then ?_
          refine ac_ret ?_
          refine retR Tryz.results47 (.agg (i := 3) rfl rfl Tryz.isAgg32 Tryz.sizeOf32 rfl .nil) .one (fun w9 hs => ?_)
          exact ⟨b23, b22, b24, rfl, hs.own (.cons (j := 1) rfl (.cons (j := 2) rfl (.cons (j := 0) rfl .nil))) (by decide)⟩
        · refine al_makeInts (n := (M.grid.nr * M.grid.nz).toNat) (z := (.int .i64 0)) (bytes := 8) rfl rfl (by omega) Tryz.underlying30 (by kernel_rfl) rfl (by omega) (by decide) rfl rfl ?_
          intro b25
          refine al_end (ah_back hok26 hcl26 (fun w9 hs => ((hs.fewer 1 rfl).tail 2 rfl)) ?_)
          refine ah_one 3 rfl (by kernel_rfl) (fun hok29 hcl29 => ?_)
          refine al_makeInts (n := R.la) (z := (.int .i64 0)) (bytes := 8) rfl rfl rfl Tryz.underlying30 (by kernel_rfl) rfl (by omega) (by decide) rfl rfl ?_
          intro b26
          refine al_end (ah_back hok29 hcl29 (fun w9 hs => ((hs.fewer 1 rfl).tail 3 rfl)) ?_)
          refine ah_t 12 (fun w9 hs => ((hs.fewer 1 rfl).tail 3 rfl)) rfl rfl (by kernel_rfl) (q_build (.cons rfl (.cons rfl (.cons rfl .nil))) (mcq_bl_apiCurrents_0_1_2 _ _ _ rfl rfl rfl)) ?_
          refine ah_one 13 rfl (by kernel_rfl) (fun hok30 hcl30 => ?_)
          refine al_storeAll (i := 3) rfl rfl rfl rfl Tryz.sizeOf32 rfl rfl .k3 rfl ?_
          refine al_end (ah_last (by kernel_rfl) ?_)
          refine aq_then ?_
          refine ac_ret ?_
          refine retR Tryz.results47 (.agg (i := 3) rfl rfl Tryz.isAgg32 Tryz.sizeOf32 rfl .nil) .one (fun w9 hs => ?_)
          exact ⟨b26, b22, b25, rfl, hs.own (.cons (j := 0) rfl (.cons (j := 2) rfl (.cons (j := 1) rfl .nil))) (by decide)⟩
      · refine al_makeInts (n := (M.grid.nr * M.grid.nz).toNat) (z := (.int .i64 0)) (bytes := 8) rfl rfl (by omega) Tryz.underlying30 (by kernel_rfl) rfl (by omega) (by decide) rfl rfl ?_
        intro b27
        refine al_end (ah_back hok20 hcl20 (fun w9 hs => ((hs.fewer 1 rfl).tail 1 rfl)) ?_)
        refine ah_two 3 7 rfl rfl  (by kernel_rfl) (fun hok31 hcl31 => ?_) (fun hok31 hcl31 => ?_)
        · refine al_makeInts (n := R.la) (z := (.int .i64 0)) (bytes := 8) rfl rfl rfl Tryz.underlying30 (by kernel_rfl) rfl (by omega) (by decide) rfl rfl ?_
          intro b28
          refine al_end (ah_back hok31 hcl31 (fun w9 hs => ((hs.fewer 1 rfl).tail 2 rfl)) ?_)
          refine ah_one 7 rfl (by kernel_rfl) (fun hok32 hcl32 => ?_)
          refine al_makeInts (n := R.lb) (z := (.int .i64 0)) (bytes := 8) rfl rfl rfl Tryz.underlying30 (by kernel_rfl) rfl (by omega) (by decide) rfl rfl ?_
          intro b29
          refine al_end (ah_back hok32 hcl32 (fun w9 hs => ((hs.fewer 1 rfl).tail 3 rfl)) ?_)
          refine ah_t 12 (fun w9 hs => ((hs.fewer 1 rfl).tail 3 rfl)) rfl rfl (by kernel_rfl) (q_build (.cons rfl (.cons rfl (.cons rfl .nil))) (mcq_bl_apiCurrents_0_1_2 _ _ _ rfl rfl rfl)) ?_
          refine ah_one 13 rfl (by kernel_rfl) (fun hok33 hcl33 => ?_)
          refine al_storeAll (i := 3) rfl rfl rfl rfl Tryz.sizeOf32 rfl rfl .k3 rfl ?_
          refine al_end (ah_last (by kernel_rfl) ?_)
          refine aq_then ?_
          refine ac_ret ?_
          refine retR Tryz.results47 (.agg (i := 3) rfl rfl Tryz.isAgg32 Tryz.sizeOf32 rfl .nil) .one (fun w9 hs => ?_)
          exact ⟨b28, b29, b27, rfl, hs.own (.cons (j := 1) rfl (.cons (j := 0) rfl (.cons (j := 2) rfl .nil))) (by decide)⟩
        · refine al_makeInts (n := R.lb) (z := (.int .i64 0)) (bytes := 8) rfl rfl rfl Tryz.underlying30 (by kernel_rfl) rfl (by omega) (by decide) rfl rfl ?_
          intro b30
          refine al_end (ah_back hok31 hcl31 (fun w9 hs => ((hs.fewer 1 rfl).tail 2 rfl)) ?_)
          refine ah_one 3 rfl (by kernel_rfl) (fun hok34 hcl34 => ?_)
          refine al_makeInts (n := R.la) (z := (.int .i64 0)) (bytes := 8) rfl rfl rfl Tryz.underlying30 (by kernel_rfl) rfl (by omega) (by decide) rfl rfl ?_
          intro b31
          refine al_end (ah_back hok34 hcl34 (fun w9 hs => ((hs.fewer 1 rfl).tail 3 rfl)) ?_)
          refine ah_t 12 (fun w9 hs => ((hs.fewer 1 rfl).tail 3 rfl)) rfl rfl (by kernel_rfl) (q_build (.cons rfl (.cons rfl (.cons rfl .nil))) (mcq_bl_apiCurrents_0_1_2 _ _ _ rfl rfl rfl)) ?_
          refine ah_one 13 rfl (by kernel_rfl) (fun hok35 hcl35 => ?_)
          refine al_storeAll (i := 3) rfl rfl rfl rfl Tryz.sizeOf32 rfl rfl .k3 rfl ?_
          refine al_end (ah_last (by kernel_rfl) ?_)
          refine aq_then ?_
          refine ac_ret ?_
          refine retR Tryz.results47 (.agg (i := 3) rfl rfl Tryz.isAgg32 Tryz.sizeOf32 rfl .nil) .one (fun w9 hs => ?_)
          exact ⟨b31, b30, b27, rfl, hs.own (.cons (j := 0) rfl (.cons (j := 1) rfl (.cons (j := 2) rfl .nil))) (by decide)⟩

end Go.Proofs.YtkhahbnagbjbiaaGreat
end
section
/- Package machine: checkField, Flux, Field, Cells, Coil, Sensor, over this seat's translation (written by ax_mf.py). -/
namespace Go.Proofs.YtkhahbnagbjbiaaGreat
set_option linter.unusedVariables false
set_option linter.unusedSimpArgs false
open Go.RowKit

def cellsN (M : MachD) : Int := if checkC M = 0 then M.grid.nr * M.grid.nz else 0

set_option maxRecDepth 100000 in
theorem mcells_any (R : MachR) (M : MachD) (w : World) (hM : IsM w R M) : Calls Tryz.prog 63 #[(.agg (machCells R M))] w (Ret (.int .i64 (cellsN M)) w) := by
  refine calls_ax (vs := [(.agg (machCells R M))]) Tryz.func63 rfl rfl ?_
  refine ac_seq (ac_region ?_)
  refine al_new (fun b => .pointer (some ⟨b, 0, none⟩)) (r_box rfl rfl) rfl rfl rfl ?_
  intro b1
  refine al_p (q_assign rfl) ?_
  refine al_end (aq_then ?_)
  refine ac_seq ?_
  refine ac_seq (ac_region ?_)
  refine al_p (q_loadAll (i := 0) rfl rfl Tryz.isAgg29 Tryz.sizeOf29 rfl) ?_
  refine al_call Tryz.call40 (.cons rfl .nil) rfl rfl (fun w1 hs1 => ?_)
  refine (check_any R M _ (hM.below hs1.below)).mono ?_
  rintro e u1 ⟨rfl, hb_1⟩
  refine ⟨_, rfl, hb_1, ?_⟩
  clear hs1
  refine al_p (q_neq rfl rfl) ?_
  refine al_end (aq_then ?_)
  refine ac_cond rfl (fun h1 => ?_) (fun h1 => ?_)
  · have hc : checkC M ≠ 0 := by simpa using h1
    refine ac_seq (ac_region ?_)
    refine al_p (q_assign rfl) ?_
    refine al_end (aq_then ?_)
    refine ac_ret ?_
    refine aq_thenR ?_
    refine ret1 Tryz.results63 rfl (fun w9 hs => ?_)
    refine ⟨?_, hs.below⟩; simp [cellsN, hc]
  · have hc : checkC M = 0 := by simpa using h1
    have hg := cells_fine (sound_of hc).grid
    refine ac_skip ?_
    refine aq_then ?_
    refine ac_seq (ac_region ?_)
    refine al_p (q_fieldAddr 4 rfl Tryz.runUnderlying29 rfl Tryz.sizeOf26 (by decide) rfl) ?_
    refine al_p (q_loadSub (i := 0) rfl rfl Tryz.isAgg26 Tryz.sizeOf26 .k4 .k5) ?_
    refine al_call Tryz.call83 (.cons rfl .nil) rfl rfl (fun w2 hs2 => ?_)
    refine (cells_any M.grid _ (by omega) (by omega)).mono ?_
    rintro e u2 ⟨rfl, hb_2⟩
    refine ⟨_, rfl, hb_2, ?_⟩
    clear hs2
    refine al_p (q_assign rfl) ?_
    refine al_end (aq_then ?_)
    refine ac_ret ?_
    refine ret1 Tryz.results63 rfl (fun w9 hs => ?_)
    refine ⟨?_, hs.below⟩; simp [cellsN, hc]

end Go.Proofs.YtkhahbnagbjbiaaGreat
end
section
/- Package machine: divide, force, Force, Linked, over this seat's translation (written by ax_mg.py). -/
namespace Go.Proofs.YtkhahbnagbjbiaaGreat
set_option linter.unusedVariables false
set_option linter.unusedSimpArgs false
open Go.RowKit

end Go.Proofs.YtkhahbnagbjbiaaGreat
end
section
/- Plain facts about flux: it is linear in the currents (P2.2); a coil alone has no force on itself (P2.5). -/
namespace Go.Proofs.YtkhahbnagbjbiaaGreat
set_option linter.unusedVariables false
set_option linter.unusedSimpArgs false
open Go.RowKit Go.Shelf

end Go.Proofs.YtkhahbnagbjbiaaGreat
end
section
/- Plain facts about mirrored machines (2.4, P2.3): a mirrored machine is valid, mirroring twice changes nothing, the flux at the mirrored place is the same. -/
namespace Go.Proofs.YtkhahbnagbjbiaaGreat
set_option linter.unusedVariables false
set_option linter.unusedSimpArgs false
open Go.RowKit Go.Shelf

end Go.Proofs.YtkhahbnagbjbiaaGreat
end
