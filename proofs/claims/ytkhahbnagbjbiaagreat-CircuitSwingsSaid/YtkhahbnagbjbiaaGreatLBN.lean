import Derived.Test.YtkhahbnagbjbiaaGreatLBM
import Derived.Test.YtkhahbnagbjbiaaGreatRows
import Derived.KernelRfl
import Derived.Laws.StructEq
section
/- The specification of layer 2: Quiet, Linked, over this seat's translation (written by ax_rc4.py). -/
namespace Go.Proofs.YtkhahbnagbjbiaaGreat
set_option linter.unusedVariables false
set_option linter.unusedSimpArgs false
open Go.RowKit

theorem rc4_bl_apiCurrents_0_1_2 (a0 a1 a2 : Value) (ha0 : a0.oneCell' = true) (ha1 : a1.oneCell' = true) (ha2 : a2.oneCell' = true) : ∀ w, (Instr.build 32 #[(0, a0), (1, a1), (2, a2)]).run Tryz.prog w = .ok (.agg #[a0, a1, a2]) w := by
  have ea0 : a0.cells = #[a0] := cells_one ha0
  have ea1 : a1.cells = #[a1] := cells_one ha1
  have ea2 : a2.cells = #[a2] := cells_one ha2
  intro w; simp [Instr.build, Instr.fill, cells_agg, Tryz.runUnderlying32, Tryz.zeroValue32, Tryz.sizeOf30, ea0, ea1, ea2]

set_option maxRecDepth 100000 in
theorem rQuiet_ok (R : MachR) (M : MachD) (w : World) (hM : IsM w R M) (hc : checkC M = 0) : Calls Tryz.prog 91 #[(.agg (machCells R M))] w (fun e w' => ∃ b1 b2 b3, e = .returned (.agg #[.slice (some ⟨b1, 0, none⟩) R.la R.la, .slice (some ⟨b2, 0, none⟩) R.lb R.lb, .slice (some ⟨b3, 0, none⟩) (M.grid.nr * M.grid.nz).toNat (M.grid.nr * M.grid.nz).toNat]) ∧ Own w [(b1, .cells (List.replicate R.la (.int .i64 0))), (b2, .cells (List.replicate R.lb (.int .i64 0))), (b3, .cells (List.replicate (M.grid.nr * M.grid.nz).toNat (.int .i64 0)))] w') := by
  have hs0 := sound_of hc
  have hg := cells_fine hs0.grid
  have hsc := hs0.coils.1
  have hss := hs0.shells.1
  have ga := hM.coils.1
  have gb := hM.shells.1
  have hcn : cellsN M = M.grid.nr * M.grid.nz := by simp [cellsN, hc]
  refine calls_ax (vs := [(.agg (machCells R M))]) Tryz.func91 rfl rfl ?_
  refine ac_seq ?_
  refine ac_region ?_
  refine al_new (fun b => .pointer (some ⟨b, 0, none⟩)) (r_box rfl rfl) rfl rfl rfl ?_
  intro b1
  refine al_new (fun b => .pointer (some ⟨b, 0, none⟩)) (r_alloc Tryz.zeroValue32 rfl) rfl rfl rfl ?_
  intro b2
  refine al_end ?_
  refine aq_then ?_
  refine ac_seq ?_
  refine ac_seq ?_
  refine ac_region ?_
  refine al_q (q_loadAll (i := 1) rfl rfl Tryz.isAgg29 Tryz.sizeOf29 rfl) rfl rfl rfl ?_
  refine al_call Tryz.call44 (.cons rfl .nil) rfl rfl (fun w1 hs1 => ?_)
  refine (rcheck_any R M _ (hM.below hs1.below)).mono ?_
  rintro e u1 ⟨rfl, hb_1⟩
  refine ⟨_, rfl, hb_1, ?_⟩
  clear hs1
  refine al_q (q_neq rfl rfl) rfl rfl rfl ?_
  refine al_end ?_
  refine aq_then ?_
  refine ac_cond rfl (fun h1 => ?_) (fun h1 => ?_)
  · exact absurd h1 (by simp [hc])
  · refine ac_skip ?_
    refine aq_then ?_
    refine ac_seq ?_
    refine ac_draw 12 (by kernel_rfl) (by kernel_rfl) ?_
    refine ah_take 0 (fun w9 hs => hs) rfl rfl rfl (by kernel_rfl) (by kernel_rfl) (by kernel_rfl) (fun _ _ _ h => h) rfl (q_fieldAddr 1 rfl Tryz.runUnderlying29 rfl Tryz.sizeOf22 (by decide) rfl) ?_
    refine ah_take 1 (fun w9 hs => hs) rfl rfl rfl (by kernel_rfl) (by kernel_rfl) (by kernel_rfl) (fun _ _ _ h => h) rfl (q_load (i := 1) rfl rfl rfl Tryz.isAgg22) ?_
    refine ah_take 2 (fun w9 hs => hs) rfl rfl rfl (by kernel_rfl) (by kernel_rfl) (by kernel_rfl) (fun _ _ _ h => h) rfl (q_lenS rfl Tryz.runUnderlying22) ?_
    refine ah_take 4 (fun w9 hs => hs) rfl rfl rfl (by kernel_rfl) (by kernel_rfl) (by kernel_rfl) (fun _ _ _ h => h) rfl (q_fieldAddr 2 rfl Tryz.runUnderlying29 rfl Tryz.sizeOf23 (by decide) rfl) ?_
    refine ah_take 5 (fun w9 hs => hs) rfl rfl rfl (by kernel_rfl) (by kernel_rfl) (by kernel_rfl) (fun _ _ _ h => h) rfl (q_load (i := 1) rfl rfl rfl Tryz.isAgg23) ?_
    refine ah_take 6 (fun w9 hs => hs) rfl rfl rfl (by kernel_rfl) (by kernel_rfl) (by kernel_rfl) (fun _ _ _ h => h) rfl (q_lenS rfl Tryz.runUnderlying23) ?_
    refine ah_take 8 (fun w9 hs => hs) rfl rfl rfl (by kernel_rfl) (by kernel_rfl) (by kernel_rfl) (fun _ _ _ h => h) rfl (q_loadAll (i := 1) rfl rfl Tryz.isAgg29 Tryz.sizeOf29 rfl) ?_
    refine ah_three 3 7 9 rfl rfl rfl  (by kernel_rfl) (fun hok1 hcl1 => ?_) (fun hok1 hcl1 => ?_) (fun hok1 hcl1 => ?_)
    · refine al_makeInts (n := R.la) (z := (.int .i64 0)) (bytes := 8) rfl rfl rfl Tryz.underlying30 (by kernel_rfl) rfl (by omega) (by decide) rfl rfl ?_
      intro b3
      refine al_end (ah_back hok1 hcl1 (fun w9 hs => (hs.tail 1 rfl)) ?_)
      refine ah_two 7 9 rfl rfl  (by kernel_rfl) (fun hok2 hcl2 => ?_) (fun hok2 hcl2 => ?_)
      · refine al_makeInts (n := R.lb) (z := (.int .i64 0)) (bytes := 8) rfl rfl rfl Tryz.underlying30 (by kernel_rfl) rfl (by omega) (by decide) rfl rfl ?_
        intro b4
        refine al_end (ah_back hok2 hcl2 (fun w9 hs => (hs.tail 2 rfl)) ?_)
        refine ah_one 9 rfl (by kernel_rfl) (fun hok3 hcl3 => ?_)
        refine al_call Tryz.call93 (.cons rfl .nil) rfl rfl (fun w2 hs2 => ?_)
        refine (rcellsN_any R M _ (hM.below hs2.below)).mono ?_
        rintro e u2 ⟨rfl, hb_2⟩
        refine ⟨_, rfl, hb_2, ?_⟩
        clear hs2
        refine al_end (ah_back hok3 hcl3 (fun w9 hs => ((hs.fewer 1 rfl).tail 2 rfl)) ?_)
        refine ah_one 10 rfl (by kernel_rfl) (fun hok4 hcl4 => ?_)
        refine al_makeInts (n := (M.grid.nr * M.grid.nz).toNat) (z := (.int .i64 0)) (bytes := 8) rfl rfl (by rw [hcn]; congr 1; omega) Tryz.underlying30 (by kernel_rfl) rfl (by omega) (by decide) rfl rfl ?_
        intro b5
        refine al_end (ah_back hok4 hcl4 (fun w9 hs => ((hs.fewer 1 rfl).tail 3 rfl)) ?_)
        refine ah_take 11 (fun w9 hs => ((hs.fewer 1 rfl).tail 3 rfl)) rfl rfl rfl (by kernel_rfl) (by kernel_rfl) (by kernel_rfl) (fun _ _ _ h => h) rfl (q_build (.cons rfl (.cons rfl (.cons rfl .nil))) (rc4_bl_apiCurrents_0_1_2 _ _ _ rfl rfl rfl)) ?_
        refine ah_one 12 rfl (by kernel_rfl) (fun hok5 hcl5 => ?_)
        refine al_storeAll (i := 3) rfl rfl rfl rfl Tryz.sizeOf32 rfl rfl .k3 rfl ?_
        refine al_end (ah_last (by kernel_rfl) ?_)
        refine aq_then ?_
        refine ac_ret ?_
        refine retR Tryz.results91 (.agg (i := 3) rfl rfl Tryz.isAgg32 Tryz.sizeOf32 rfl .nil) .one (fun w9 hs => ?_)
        exact ⟨b3, b4, b5, rfl, hs.own (.cons (j := 2) rfl (.cons (j := 1) rfl (.cons (j := 0) rfl .nil))) (by decide)⟩
      · refine al_call Tryz.call93 (.cons rfl .nil) rfl rfl (fun w3 hs3 => ?_)
        refine (rcellsN_any R M _ (hM.below hs3.below)).mono ?_
        rintro e u3 ⟨rfl, hb_3⟩
        refine ⟨_, rfl, hb_3, ?_⟩
        clear hs3
        refine al_end (ah_back hok2 hcl2 (fun w9 hs => ((hs.fewer 1 rfl).tail 1 rfl)) ?_)
        refine ah_two 7 10 rfl rfl  (by kernel_rfl) (fun hok6 hcl6 => ?_) (fun hok6 hcl6 => ?_)
        · refine al_makeInts (n := R.lb) (z := (.int .i64 0)) (bytes := 8) rfl rfl rfl Tryz.underlying30 (by kernel_rfl) rfl (by omega) (by decide) rfl rfl ?_
          intro b6
          refine al_end (ah_back hok6 hcl6 (fun w9 hs => ((hs.fewer 1 rfl).tail 2 rfl)) ?_)
          refine ah_one 10 rfl (by kernel_rfl) (fun hok7 hcl7 => ?_)
          refine al_makeInts (n := (M.grid.nr * M.grid.nz).toNat) (z := (.int .i64 0)) (bytes := 8) rfl rfl (by rw [hcn]; congr 1; omega) Tryz.underlying30 (by kernel_rfl) rfl (by omega) (by decide) rfl rfl ?_
          intro b7
          refine al_end (ah_back hok7 hcl7 (fun w9 hs => ((hs.fewer 1 rfl).tail 3 rfl)) ?_)
          refine ah_take 11 (fun w9 hs => ((hs.fewer 1 rfl).tail 3 rfl)) rfl rfl rfl (by kernel_rfl) (by kernel_rfl) (by kernel_rfl) (fun _ _ _ h => h) rfl (q_build (.cons rfl (.cons rfl (.cons rfl .nil))) (rc4_bl_apiCurrents_0_1_2 _ _ _ rfl rfl rfl)) ?_
          refine ah_one 12 rfl (by kernel_rfl) (fun hok8 hcl8 => ?_)
          refine al_storeAll (i := 3) rfl rfl rfl rfl Tryz.sizeOf32 rfl rfl .k3 rfl ?_
          refine al_end (ah_last (by kernel_rfl) ?_)
          refine aq_then ?_
          refine ac_ret ?_
          refine retR Tryz.results91 (.agg (i := 3) rfl rfl Tryz.isAgg32 Tryz.sizeOf32 rfl .nil) .one (fun w9 hs => ?_)
          exact ⟨b3, b6, b7, rfl, hs.own (.cons (j := 2) rfl (.cons (j := 1) rfl (.cons (j := 0) rfl .nil))) (by decide)⟩
        · refine al_makeInts (n := (M.grid.nr * M.grid.nz).toNat) (z := (.int .i64 0)) (bytes := 8) rfl rfl (by rw [hcn]; congr 1; omega) Tryz.underlying30 (by kernel_rfl) rfl (by omega) (by decide) rfl rfl ?_
          intro b8
          refine al_end (ah_back hok6 hcl6 (fun w9 hs => ((hs.fewer 1 rfl).tail 2 rfl)) ?_)
          refine ah_one 7 rfl (by kernel_rfl) (fun hok9 hcl9 => ?_)
          refine al_makeInts (n := R.lb) (z := (.int .i64 0)) (bytes := 8) rfl rfl rfl Tryz.underlying30 (by kernel_rfl) rfl (by omega) (by decide) rfl rfl ?_
          intro b9
          refine al_end (ah_back hok9 hcl9 (fun w9 hs => ((hs.fewer 1 rfl).tail 3 rfl)) ?_)
          refine ah_take 11 (fun w9 hs => ((hs.fewer 1 rfl).tail 3 rfl)) rfl rfl rfl (by kernel_rfl) (by kernel_rfl) (by kernel_rfl) (fun _ _ _ h => h) rfl (q_build (.cons rfl (.cons rfl (.cons rfl .nil))) (rc4_bl_apiCurrents_0_1_2 _ _ _ rfl rfl rfl)) ?_
          refine ah_one 12 rfl (by kernel_rfl) (fun hok10 hcl10 => ?_)
          refine al_storeAll (i := 3) rfl rfl rfl rfl Tryz.sizeOf32 rfl rfl .k3 rfl ?_
          refine al_end (ah_last (by kernel_rfl) ?_)
          refine aq_then ?_
          refine ac_ret ?_
          refine retR Tryz.results91 (.agg (i := 3) rfl rfl Tryz.isAgg32 Tryz.sizeOf32 rfl .nil) .one (fun w9 hs => ?_)
          exact ⟨b3, b9, b8, rfl, hs.own (.cons (j := 2) rfl (.cons (j := 0) rfl (.cons (j := 1) rfl .nil))) (by decide)⟩
    · refine al_makeInts (n := R.lb) (z := (.int .i64 0)) (bytes := 8) rfl rfl rfl Tryz.underlying30 (by kernel_rfl) rfl (by omega) (by decide) rfl rfl ?_
      intro b10
      refine al_end (ah_back hok1 hcl1 (fun w9 hs => (hs.tail 1 rfl)) ?_)
      refine ah_two 3 9 rfl rfl  (by kernel_rfl) (fun hok11 hcl11 => ?_) (fun hok11 hcl11 => ?_)
      · refine al_makeInts (n := R.la) (z := (.int .i64 0)) (bytes := 8) rfl rfl rfl Tryz.underlying30 (by kernel_rfl) rfl (by omega) (by decide) rfl rfl ?_
        intro b11
        refine al_end (ah_back hok11 hcl11 (fun w9 hs => (hs.tail 2 rfl)) ?_)
        refine ah_one 9 rfl (by kernel_rfl) (fun hok12 hcl12 => ?_)
        refine al_call Tryz.call93 (.cons rfl .nil) rfl rfl (fun w4 hs4 => ?_)
        refine (rcellsN_any R M _ (hM.below hs4.below)).mono ?_
        rintro e u4 ⟨rfl, hb_4⟩
        refine ⟨_, rfl, hb_4, ?_⟩
        clear hs4
        refine al_end (ah_back hok12 hcl12 (fun w9 hs => ((hs.fewer 1 rfl).tail 2 rfl)) ?_)
        refine ah_one 10 rfl (by kernel_rfl) (fun hok13 hcl13 => ?_)
        refine al_makeInts (n := (M.grid.nr * M.grid.nz).toNat) (z := (.int .i64 0)) (bytes := 8) rfl rfl (by rw [hcn]; congr 1; omega) Tryz.underlying30 (by kernel_rfl) rfl (by omega) (by decide) rfl rfl ?_
        intro b12
        refine al_end (ah_back hok13 hcl13 (fun w9 hs => ((hs.fewer 1 rfl).tail 3 rfl)) ?_)
        refine ah_take 11 (fun w9 hs => ((hs.fewer 1 rfl).tail 3 rfl)) rfl rfl rfl (by kernel_rfl) (by kernel_rfl) (by kernel_rfl) (fun _ _ _ h => h) rfl (q_build (.cons rfl (.cons rfl (.cons rfl .nil))) (rc4_bl_apiCurrents_0_1_2 _ _ _ rfl rfl rfl)) ?_
        refine ah_one 12 rfl (by kernel_rfl) (fun hok14 hcl14 => ?_)
        refine al_storeAll (i := 3) rfl rfl rfl rfl Tryz.sizeOf32 rfl rfl .k3 rfl ?_
        refine al_end (ah_last (by kernel_rfl) ?_)
        refine aq_then ?_
        refine ac_ret ?_
        refine retR Tryz.results91 (.agg (i := 3) rfl rfl Tryz.isAgg32 Tryz.sizeOf32 rfl .nil) .one (fun w9 hs => ?_)
        exact ⟨b11, b10, b12, rfl, hs.own (.cons (j := 1) rfl (.cons (j := 2) rfl (.cons (j := 0) rfl .nil))) (by decide)⟩
      · refine al_call Tryz.call93 (.cons rfl .nil) rfl rfl (fun w5 hs5 => ?_)
        refine (rcellsN_any R M _ (hM.below hs5.below)).mono ?_
        rintro e u5 ⟨rfl, hb_5⟩
        refine ⟨_, rfl, hb_5, ?_⟩
        clear hs5
        refine al_end (ah_back hok11 hcl11 (fun w9 hs => ((hs.fewer 1 rfl).tail 1 rfl)) ?_)
        refine ah_two 3 10 rfl rfl  (by kernel_rfl) (fun hok15 hcl15 => ?_) (fun hok15 hcl15 => ?_)
        · refine al_makeInts (n := R.la) (z := (.int .i64 0)) (bytes := 8) rfl rfl rfl Tryz.underlying30 (by kernel_rfl) rfl (by omega) (by decide) rfl rfl ?_
          intro b13
          refine al_end (ah_back hok15 hcl15 (fun w9 hs => ((hs.fewer 1 rfl).tail 2 rfl)) ?_)
          refine ah_one 10 rfl (by kernel_rfl) (fun hok16 hcl16 => ?_)
          refine al_makeInts (n := (M.grid.nr * M.grid.nz).toNat) (z := (.int .i64 0)) (bytes := 8) rfl rfl (by rw [hcn]; congr 1; omega) Tryz.underlying30 (by kernel_rfl) rfl (by omega) (by decide) rfl rfl ?_
          intro b14
          refine al_end (ah_back hok16 hcl16 (fun w9 hs => ((hs.fewer 1 rfl).tail 3 rfl)) ?_)
          refine ah_take 11 (fun w9 hs => ((hs.fewer 1 rfl).tail 3 rfl)) rfl rfl rfl (by kernel_rfl) (by kernel_rfl) (by kernel_rfl) (fun _ _ _ h => h) rfl (q_build (.cons rfl (.cons rfl (.cons rfl .nil))) (rc4_bl_apiCurrents_0_1_2 _ _ _ rfl rfl rfl)) ?_
          refine ah_one 12 rfl (by kernel_rfl) (fun hok17 hcl17 => ?_)
          refine al_storeAll (i := 3) rfl rfl rfl rfl Tryz.sizeOf32 rfl rfl .k3 rfl ?_
          refine al_end (ah_last (by kernel_rfl) ?_)
          refine aq_then ?_
          refine ac_ret ?_
          refine retR Tryz.results91 (.agg (i := 3) rfl rfl Tryz.isAgg32 Tryz.sizeOf32 rfl .nil) .one (fun w9 hs => ?_)
          exact ⟨b13, b10, b14, rfl, hs.own (.cons (j := 1) rfl (.cons (j := 2) rfl (.cons (j := 0) rfl .nil))) (by decide)⟩
        · refine al_makeInts (n := (M.grid.nr * M.grid.nz).toNat) (z := (.int .i64 0)) (bytes := 8) rfl rfl (by rw [hcn]; congr 1; omega) Tryz.underlying30 (by kernel_rfl) rfl (by omega) (by decide) rfl rfl ?_
          intro b15
          refine al_end (ah_back hok15 hcl15 (fun w9 hs => ((hs.fewer 1 rfl).tail 2 rfl)) ?_)
          refine ah_one 3 rfl (by kernel_rfl) (fun hok18 hcl18 => ?_)
          refine al_makeInts (n := R.la) (z := (.int .i64 0)) (bytes := 8) rfl rfl rfl Tryz.underlying30 (by kernel_rfl) rfl (by omega) (by decide) rfl rfl ?_
          intro b16
          refine al_end (ah_back hok18 hcl18 (fun w9 hs => ((hs.fewer 1 rfl).tail 3 rfl)) ?_)
          refine ah_take 11 (fun w9 hs => ((hs.fewer 1 rfl).tail 3 rfl)) rfl rfl rfl (by kernel_rfl) (by kernel_rfl) (by kernel_rfl) (fun _ _ _ h => h) rfl (q_build (.cons rfl (.cons rfl (.cons rfl .nil))) (rc4_bl_apiCurrents_0_1_2 _ _ _ rfl rfl rfl)) ?_
          refine ah_one 12 rfl (by kernel_rfl) (fun hok19 hcl19 => ?_)
          refine al_storeAll (i := 3) rfl rfl rfl rfl Tryz.sizeOf32 rfl rfl .k3 rfl ?_
          refine al_end (ah_last (by kernel_rfl) ?_)
          refine aq_then ?_
          refine ac_ret ?_
          refine retR Tryz.results91 (.agg (i := 3) rfl rfl Tryz.isAgg32 Tryz.sizeOf32 rfl .nil) .one (fun w9 hs => ?_)
          exact ⟨b16, b10, b15, rfl, hs.own (.cons (j := 0) rfl (.cons (j := 2) rfl (.cons (j := 1) rfl .nil))) (by decide)⟩
    · refine al_call Tryz.call93 (.cons rfl .nil) rfl rfl (fun w6 hs6 => ?_)
      refine (rcellsN_any R M _ (hM.below hs6.below)).mono ?_
      rintro e u6 ⟨rfl, hb_6⟩
      refine ⟨_, rfl, hb_6, ?_⟩
      clear hs6
      refine al_end (ah_back hok1 hcl1 (fun w9 hs => (hs.fewer 1 rfl)) ?_)
      refine ah_three 3 7 10 rfl rfl rfl  (by kernel_rfl) (fun hok20 hcl20 => ?_) (fun hok20 hcl20 => ?_) (fun hok20 hcl20 => ?_)
      · refine al_makeInts (n := R.la) (z := (.int .i64 0)) (bytes := 8) rfl rfl rfl Tryz.underlying30 (by kernel_rfl) rfl (by omega) (by decide) rfl rfl ?_
        intro b17
        refine al_end (ah_back hok20 hcl20 (fun w9 hs => ((hs.fewer 1 rfl).tail 1 rfl)) ?_)
        refine ah_two 7 10 rfl rfl  (by kernel_rfl) (fun hok21 hcl21 => ?_) (fun hok21 hcl21 => ?_)
        · refine al_makeInts (n := R.lb) (z := (.int .i64 0)) (bytes := 8) rfl rfl rfl Tryz.underlying30 (by kernel_rfl) rfl (by omega) (by decide) rfl rfl ?_
          intro b18
          refine al_end (ah_back hok21 hcl21 (fun w9 hs => ((hs.fewer 1 rfl).tail 2 rfl)) ?_)
          refine ah_one 10 rfl (by kernel_rfl) (fun hok22 hcl22 => ?_)
          refine al_makeInts (n := (M.grid.nr * M.grid.nz).toNat) (z := (.int .i64 0)) (bytes := 8) rfl rfl (by rw [hcn]; congr 1; omega) Tryz.underlying30 (by kernel_rfl) rfl (by omega) (by decide) rfl rfl ?_
          intro b19
          refine al_end (ah_back hok22 hcl22 (fun w9 hs => ((hs.fewer 1 rfl).tail 3 rfl)) ?_)
          refine ah_take 11 (fun w9 hs => ((hs.fewer 1 rfl).tail 3 rfl)) rfl rfl rfl (by kernel_rfl) (by kernel_rfl) (by kernel_rfl) (fun _ _ _ h => h) rfl (q_build (.cons rfl (.cons rfl (.cons rfl .nil))) (rc4_bl_apiCurrents_0_1_2 _ _ _ rfl rfl rfl)) ?_
          refine ah_one 12 rfl (by kernel_rfl) (fun hok23 hcl23 => ?_)
          refine al_storeAll (i := 3) rfl rfl rfl rfl Tryz.sizeOf32 rfl rfl .k3 rfl ?_
          refine al_end (ah_last (by kernel_rfl) ?_)
          refine aq_then ?_
          refine ac_ret ?_
          refine retR Tryz.results91 (.agg (i := 3) rfl rfl Tryz.isAgg32 Tryz.sizeOf32 rfl .nil) .one (fun w9 hs => ?_)
          exact ⟨b17, b18, b19, rfl, hs.own (.cons (j := 2) rfl (.cons (j := 1) rfl (.cons (j := 0) rfl .nil))) (by decide)⟩
        · refine al_makeInts (n := (M.grid.nr * M.grid.nz).toNat) (z := (.int .i64 0)) (bytes := 8) rfl rfl (by rw [hcn]; congr 1; omega) Tryz.underlying30 (by kernel_rfl) rfl (by omega) (by decide) rfl rfl ?_
          intro b20
          refine al_end (ah_back hok21 hcl21 (fun w9 hs => ((hs.fewer 1 rfl).tail 2 rfl)) ?_)
          refine ah_one 7 rfl (by kernel_rfl) (fun hok24 hcl24 => ?_)
          refine al_makeInts (n := R.lb) (z := (.int .i64 0)) (bytes := 8) rfl rfl rfl Tryz.underlying30 (by kernel_rfl) rfl (by omega) (by decide) rfl rfl ?_
          intro b21
          refine al_end (ah_back hok24 hcl24 (fun w9 hs => ((hs.fewer 1 rfl).tail 3 rfl)) ?_)
          refine ah_take 11 (fun w9 hs => ((hs.fewer 1 rfl).tail 3 rfl)) rfl rfl rfl (by kernel_rfl) (by kernel_rfl) (by kernel_rfl) (fun _ _ _ h => h) rfl (q_build (.cons rfl (.cons rfl (.cons rfl .nil))) (rc4_bl_apiCurrents_0_1_2 _ _ _ rfl rfl rfl)) ?_
          refine ah_one 12 rfl (by kernel_rfl) (fun hok25 hcl25 => ?_)
          refine al_storeAll (i := 3) rfl rfl rfl rfl Tryz.sizeOf32 rfl rfl .k3 rfl ?_
          refine al_end (ah_last (by kernel_rfl) ?_)
          refine aq_then ?_
          refine ac_ret ?_
          refine retR Tryz.results91 (.agg (i := 3) rfl rfl Tryz.isAgg32 Tryz.sizeOf32 rfl .nil) .one (fun w9 hs => ?_)
          exact ⟨b17, b21, b20, rfl, hs.own (.cons (j := 2) rfl (.cons (j := 0) rfl (.cons (j := 1) rfl .nil))) (by decide)⟩
      · refine al_makeInts (n := R.lb) (z := (.int .i64 0)) (bytes := 8) rfl rfl rfl Tryz.underlying30 (by kernel_rfl) rfl (by omega) (by decide) rfl rfl ?_
        intro b22
        refine al_end (ah_back hok20 hcl20 (fun w9 hs => ((hs.fewer 1 rfl).tail 1 rfl)) ?_)
        refine ah_two 3 10 rfl rfl  (by kernel_rfl) (fun hok26 hcl26 => ?_) (fun hok26 hcl26 => ?_)
        · refine al_makeInts (n := R.la) (z := (.int .i64 0)) (bytes := 8) rfl rfl rfl Tryz.underlying30 (by kernel_rfl) rfl (by omega) (by decide) rfl rfl ?_
          intro b23
          refine al_end (ah_back hok26 hcl26 (fun w9 hs => ((hs.fewer 1 rfl).tail 2 rfl)) ?_)
          refine ah_one 10 rfl (by kernel_rfl) (fun hok27 hcl27 => ?_)
          refine al_makeInts (n := (M.grid.nr * M.grid.nz).toNat) (z := (.int .i64 0)) (bytes := 8) rfl rfl (by rw [hcn]; congr 1; omega) Tryz.underlying30 (by kernel_rfl) rfl (by omega) (by decide) rfl rfl ?_
          intro b24
          refine al_end (ah_back hok27 hcl27 (fun w9 hs => ((hs.fewer 1 rfl).tail 3 rfl)) ?_)
          refine ah_take 11 (fun w9 hs => ((hs.fewer 1 rfl).tail 3 rfl)) rfl rfl rfl (by kernel_rfl) (by kernel_rfl) (by kernel_rfl) (fun _ _ _ h => h) rfl (q_build (.cons rfl (.cons rfl (.cons rfl .nil))) (rc4_bl_apiCurrents_0_1_2 _ _ _ rfl rfl rfl)) ?_
          refine ah_one 12 rfl (by kernel_rfl) (fun hok28 hcl28 => ?_)
          refine al_storeAll (i := 3) rfl rfl rfl rfl Tryz.sizeOf32 rfl rfl .k3 rfl ?_
          refine al_end (ah_last (by kernel_rfl) ?_)
          refine aq_then ?_
          refine ac_ret ?_
          refine retR Tryz.results91 (.agg (i := 3) rfl rfl Tryz.isAgg32 Tryz.sizeOf32 rfl .nil) .one (fun w9 hs => ?_)
          exact ⟨b23, b22, b24, rfl, hs.own (.cons (j := 1) rfl (.cons (j := 2) rfl (.cons (j := 0) rfl .nil))) (by decide)⟩
        · refine al_makeInts (n := (M.grid.nr * M.grid.nz).toNat) (z := (.int .i64 0)) (bytes := 8) rfl rfl (by rw [hcn]; congr 1; omega) Tryz.underlying30 (by kernel_rfl) rfl (by omega) (by decide) rfl rfl ?_
          intro b25
          refine al_end (ah_back hok26 hcl26 (fun w9 hs => ((hs.fewer 1 rfl).tail 2 rfl)) ?_)
          refine ah_one 3 rfl (by kernel_rfl) (fun hok29 hcl29 => ?_)
          refine al_makeInts (n := R.la) (z := (.int .i64 0)) (bytes := 8) rfl rfl rfl Tryz.underlying30 (by kernel_rfl) rfl (by omega) (by decide) rfl rfl ?_
          intro b26
          refine al_end (ah_back hok29 hcl29 (fun w9 hs => ((hs.fewer 1 rfl).tail 3 rfl)) ?_)
          refine ah_take 11 (fun w9 hs => ((hs.fewer 1 rfl).tail 3 rfl)) rfl rfl rfl (by kernel_rfl) (by kernel_rfl) (by kernel_rfl) (fun _ _ _ h => h) rfl (q_build (.cons rfl (.cons rfl (.cons rfl .nil))) (rc4_bl_apiCurrents_0_1_2 _ _ _ rfl rfl rfl)) ?_
          refine ah_one 12 rfl (by kernel_rfl) (fun hok30 hcl30 => ?_)
          refine al_storeAll (i := 3) rfl rfl rfl rfl Tryz.sizeOf32 rfl rfl .k3 rfl ?_
          refine al_end (ah_last (by kernel_rfl) ?_)
          refine aq_then ?_
          refine ac_ret ?_
          refine retR Tryz.results91 (.agg (i := 3) rfl rfl Tryz.isAgg32 Tryz.sizeOf32 rfl .nil) .one (fun w9 hs => ?_)
          exact ⟨b26, b22, b25, rfl, hs.own (.cons (j := 0) rfl (.cons (j := 2) rfl (.cons (j := 1) rfl .nil))) (by decide)⟩
      · refine al_makeInts (n := (M.grid.nr * M.grid.nz).toNat) (z := (.int .i64 0)) (bytes := 8) rfl rfl (by rw [hcn]; congr 1; omega) Tryz.underlying30 (by kernel_rfl) rfl (by omega) (by decide) rfl rfl ?_
        intro b27
        refine al_end (ah_back hok20 hcl20 (fun w9 hs => ((hs.fewer 1 rfl).tail 1 rfl)) ?_)
        refine ah_two 3 7 rfl rfl  (by kernel_rfl) (fun hok31 hcl31 => ?_) (fun hok31 hcl31 => ?_)
        · refine al_makeInts (n := R.la) (z := (.int .i64 0)) (bytes := 8) rfl rfl rfl Tryz.underlying30 (by kernel_rfl) rfl (by omega) (by decide) rfl rfl ?_
          intro b28
          refine al_end (ah_back hok31 hcl31 (fun w9 hs => ((hs.fewer 1 rfl).tail 2 rfl)) ?_)
          refine ah_one 7 rfl (by kernel_rfl) (fun hok32 hcl32 => ?_)
          refine al_makeInts (n := R.lb) (z := (.int .i64 0)) (bytes := 8) rfl rfl rfl Tryz.underlying30 (by kernel_rfl) rfl (by omega) (by decide) rfl rfl ?_
          intro b29
          refine al_end (ah_back hok32 hcl32 (fun w9 hs => ((hs.fewer 1 rfl).tail 3 rfl)) ?_)
          refine ah_take 11 (fun w9 hs => ((hs.fewer 1 rfl).tail 3 rfl)) rfl rfl rfl (by kernel_rfl) (by kernel_rfl) (by kernel_rfl) (fun _ _ _ h => h) rfl (q_build (.cons rfl (.cons rfl (.cons rfl .nil))) (rc4_bl_apiCurrents_0_1_2 _ _ _ rfl rfl rfl)) ?_
          refine ah_one 12 rfl (by kernel_rfl) (fun hok33 hcl33 => ?_)
          refine al_storeAll (i := 3) rfl rfl rfl rfl Tryz.sizeOf32 rfl rfl .k3 rfl ?_
          refine al_end (ah_last (by kernel_rfl) ?_)
          refine aq_then ?_
          refine ac_ret ?_
          refine retR Tryz.results91 (.agg (i := 3) rfl rfl Tryz.isAgg32 Tryz.sizeOf32 rfl .nil) .one (fun w9 hs => ?_)
          exact ⟨b28, b29, b27, rfl, hs.own (.cons (j := 1) rfl (.cons (j := 0) rfl (.cons (j := 2) rfl .nil))) (by decide)⟩
        · refine al_makeInts (n := R.lb) (z := (.int .i64 0)) (bytes := 8) rfl rfl rfl Tryz.underlying30 (by kernel_rfl) rfl (by omega) (by decide) rfl rfl ?_
          intro b30
          refine al_end (ah_back hok31 hcl31 (fun w9 hs => ((hs.fewer 1 rfl).tail 2 rfl)) ?_)
          refine ah_one 3 rfl (by kernel_rfl) (fun hok34 hcl34 => ?_)
          refine al_makeInts (n := R.la) (z := (.int .i64 0)) (bytes := 8) rfl rfl rfl Tryz.underlying30 (by kernel_rfl) rfl (by omega) (by decide) rfl rfl ?_
          intro b31
          refine al_end (ah_back hok34 hcl34 (fun w9 hs => ((hs.fewer 1 rfl).tail 3 rfl)) ?_)
          refine ah_take 11 (fun w9 hs => ((hs.fewer 1 rfl).tail 3 rfl)) rfl rfl rfl (by kernel_rfl) (by kernel_rfl) (by kernel_rfl) (fun _ _ _ h => h) rfl (q_build (.cons rfl (.cons rfl (.cons rfl .nil))) (rc4_bl_apiCurrents_0_1_2 _ _ _ rfl rfl rfl)) ?_
          refine ah_one 12 rfl (by kernel_rfl) (fun hok35 hcl35 => ?_)
          refine al_storeAll (i := 3) rfl rfl rfl rfl Tryz.sizeOf32 rfl rfl .k3 rfl ?_
          refine al_end (ah_last (by kernel_rfl) ?_)
          refine aq_then ?_
          refine ac_ret ?_
          refine retR Tryz.results91 (.agg (i := 3) rfl rfl Tryz.isAgg32 Tryz.sizeOf32 rfl .nil) .one (fun w9 hs => ?_)
          exact ⟨b31, b30, b27, rfl, hs.own (.cons (j := 0) rfl (.cons (j := 1) rfl (.cons (j := 2) rfl .nil))) (by decide)⟩

set_option maxRecDepth 100000 in
theorem rLinked_any (R : MachR) (M : MachD) (Q : CurR) (C : CurD) (w : World) (hM : IsM w R M) (hC : IsC w Q C) : Calls Tryz.prog 45 #[(.agg (machCells R M)), Q.v] w (Ret (.tuple #[.int .i64 (linkedE M C).1, .int .i64 (linkedE M C).2]) w) := by
  refine calls_ax (vs := [(.agg (machCells R M)), Q.v]) Tryz.func45 rfl rfl ?_
  refine ac_seq ?_
  refine ac_region ?_
  refine al_new (fun b => .pointer (some ⟨b, 0, none⟩)) (r_box rfl rfl) rfl rfl rfl ?_
  intro b1
  refine al_new (fun b => .pointer (some ⟨b, 0, none⟩)) (r_box rfl rfl) rfl rfl rfl ?_
  intro b2
  refine al_q (q_assign rfl) rfl rfl rfl ?_
  refine al_q (q_assign rfl) rfl rfl rfl ?_
  refine al_end ?_
  refine aq_then ?_
  refine ac_seq ?_
  refine ac_seq ?_
  refine ac_region ?_
  refine al_q (q_loadAll (i := 1) rfl rfl Tryz.isAgg29 Tryz.sizeOf29 rfl) rfl rfl rfl ?_
  refine al_q (q_loadAll (i := 0) rfl rfl Tryz.isAgg32 Tryz.sizeOf32 rfl) rfl rfl rfl ?_
  refine al_call Tryz.call54 (.cons rfl (.cons rfl .nil)) rfl rfl (fun w1 hs1 => ?_)
  refine (rvalid2_any R M Q C _ (hM.below hs1.below) (hC.below hs1.below)).mono ?_
  rintro e u1 ⟨rfl, hb_1⟩
  refine ⟨_, rfl, hb_1, ?_⟩
  clear hs1
  refine al_q (q_not rfl) rfl rfl rfl ?_
  refine al_end ?_
  refine aq_then ?_
  refine ac_cond rfl (fun h1 => ?_) (fun h1 => ?_)
  · have hv : validC M C = false := by simpa using h1
    refine ac_seq ?_
    refine ac_region ?_
    refine al_q (q_assign rfl) rfl rfl rfl ?_
    refine al_q (q_assign rfl) rfl rfl rfl ?_
    refine al_end ?_
    refine aq_then ?_
    refine ac_ret ?_
    refine aq_thenR ?_
    refine ret2 Tryz.results45 rfl rfl (fun w9 hs => ?_)
    refine ⟨?_, hs.below⟩; simp [linkedE, hv]
  · have hv : Fit2 M C := fit2_iff.1 (by simpa using h1)
    have hs0 := sound_of hv.check
    have hg := cells_fine hs0.grid
    have hss := hs0.shells.1
    have hlb := hM.shells.1
    have hcn : cellsN M = M.grid.nr * M.grid.nz := by simp [cellsN, hv.check]
    have hmid : 0 ≤ (cellsN M).tdiv 2 ∧ (cellsN M).tdiv 2 ≤ 1000 := by rw [Int.tdiv_eq_ediv_of_nonneg (by omega)]; omega
    refine ac_skip ?_
    refine aq_then ?_
    refine ac_seq ?_
    refine ac_region ?_
    refine al_q (q_loadAll (i := 1) rfl rfl Tryz.isAgg29 Tryz.sizeOf29 rfl) rfl rfl rfl ?_
    refine al_callS Tryz.call91 (.cons rfl .nil) rfl rfl (fun w2 hs2 => ?_)
    refine (rQuiet_ok R M _ (hM.below hs2.below) hv.check).mono ?_
    rintro e u2 ⟨x1, x2, x3, rfl, hb_2⟩
    refine ⟨_, _, _, rfl, hs2.gift hb_2, ?_⟩
    refine al_new (fun b => .pointer (some ⟨b, 0, none⟩)) (r_alloc Tryz.zeroValue32 rfl) rfl rfl rfl ?_
    intro b3
    refine al_storeAll (i := 0) rfl rfl rfl rfl Tryz.sizeOf32 rfl rfl .k0 rfl ?_
    refine al_end ?_
    refine aq_then ?_
    refine ac_seq ?_
    refine ac_region ?_
    refine al_q (q_fieldAddr 0 rfl Tryz.runUnderlying32 rfl Tryz.sizeOf30 (by decide) rfl) rfl rfl rfl ?_
    refine al_q (q_load (i := 4) rfl rfl rfl Tryz.isAgg30) rfl rfl rfl ?_
    refine al_q (q_fieldAddr 0 rfl Tryz.runUnderlying32 rfl Tryz.sizeOf30 (by decide) rfl) rfl rfl rfl ?_
    refine al_store1 (i := 0) rfl rfl rfl rfl Tryz.sizeOf30 .k0 .k0 rfl ?_
    refine al_end ?_
    refine aq_then ?_
    refine ac_seq ?_
    refine ac_draw 6 (by kernel_rfl) (by kernel_rfl) ?_
    refine ah_take 0 (fun w9 hs => hs) rfl rfl rfl (by kernel_rfl) (by kernel_rfl) (by kernel_rfl) (fun _ _ _ h => h) rfl (q_loadAll (i := 5) rfl rfl Tryz.isAgg29 Tryz.sizeOf29 rfl) ?_
    refine ah_take 1 (fun w9 hs => hs) rfl rfl rfl (by kernel_rfl) (by kernel_rfl) (by kernel_rfl) (fun _ _ _ h => h) rfl (q_loadAll (i := 5) rfl rfl Tryz.isAgg29 Tryz.sizeOf29 rfl) ?_
    refine ah_two 2 5 rfl rfl  (by kernel_rfl) (fun hok1 hcl1 => ?_) (fun hok1 hcl1 => ?_)
    · refine al_call Tryz.call93 (.cons rfl .nil) rfl rfl (fun w3 hs3 => ?_)
      refine (rcellsN_any R M _ (hM.below hs3.below)).mono ?_
      rintro e u3 ⟨rfl, hb_3⟩
      refine ⟨_, rfl, hb_3, ?_⟩
      clear hs3
      refine al_end (ah_back hok1 hcl1 (fun w9 hs => (hs.fewer 1 rfl)) ?_)
      refine ah_take 3 (fun w9 hs => (hs.fewer 1 rfl)) rfl rfl rfl (by kernel_rfl) (by kernel_rfl) (by kernel_rfl) (fun _ _ _ h => h) rfl (q_quo rfl rfl (by omega)) ?_
      refine ah_two 4 5 rfl rfl  (by kernel_rfl) (fun hok2 hcl2 => ?_) (fun hok2 hcl2 => ?_)
      · refine al_call Tryz.call92 (.cons rfl (.cons rfl .nil)) rfl rfl (fun w4 hs4 => ?_)
        refine (rat_any M.name R.A R.B R.C R.D R.la R.ca R.lb R.cb R.lc R.cc R.ld R.cd M.grid.r M.grid.z M.grid.nr M.grid.nz M.grid.step (((cellsN M).tdiv 2)) _ hs0.grid (by omega) (by omega)).mono ?_
        rintro e u4 ⟨rfl, hb_4⟩
        refine ⟨_, rfl, hb_4, ?_⟩
        clear hs4
        refine al_end (ah_back hok2 hcl2 (fun w9 hs => (hs.fewer 2 rfl)) ?_)
        refine ah_one 5 rfl (by kernel_rfl) (fun hok3 hcl3 => ?_)
        refine al_new (fun b => .pointer (some ⟨b, 0, none⟩)) (r_alloc Tryz.zeroValue92 rfl) rfl rfl rfl ?_
        intro b4
        refine al_end (ah_back hok3 hcl3 (fun w9 hs => ((hs.fewer 2 rfl).tail 1 rfl)) ?_)
        refine ah_one 6 rfl (by kernel_rfl) (fun hok4 hcl4 => ?_)
        refine al_storeAll (i := 0) rfl rfl rfl rfl Tryz.sizeOf92 rfl rfl .k0 rfl ?_
        refine al_end (ah_last (by kernel_rfl) ?_)
        refine aq_then ?_
        refine ac_seq ?_
        refine ac_region ?_
        refine al_q (q_loadAll (i := 6) rfl rfl Tryz.isAgg29 Tryz.sizeOf29 rfl) rfl rfl rfl ?_
        refine al_q (q_loadAll (i := 1) rfl rfl Tryz.isAgg32 Tryz.sizeOf32 rfl) rfl rfl rfl ?_
        refine al_q (q_fieldAddr 0 rfl Tryz.runUnderlying92 rfl Tryz.sizeOf3 (by decide) rfl) rfl rfl rfl ?_
        refine al_q (q_load (i := 0) rfl rfl rfl Tryz.isAgg3) rfl rfl rfl ?_
        refine al_q (q_fieldAddr 1 rfl Tryz.runUnderlying92 rfl Tryz.sizeOf3 (by decide) rfl) rfl rfl rfl ?_
        refine al_q (q_load (i := 0) rfl rfl rfl Tryz.isAgg3) rfl rfl rfl ?_
        refine al_call Tryz.call94 (.cons rfl (.cons rfl (.cons rfl (.cons rfl .nil)))) rfl rfl (fun w5 hs5 => ?_)
        have hq : IsC w5 ⟨Q.A, some ⟨x2, 0, none⟩, some ⟨x3, 0, none⟩, Q.la, Q.ca, R.lb, R.lb, (M.grid.nr * M.grid.nz).toNat, (M.grid.nr * M.grid.nz).toNat⟩ (aloneC M C) :=
          ⟨hC.coils.below hs5.below, isT_box0 (n := 1) (enc := intCells) (fun _ => rfl) (hs5.at 3 rfl) (by rw [← hlb]; exact flat_ints _) (by simp [aloneC, hlb]), isT_box0 (n := 1) (enc := intCells) (fun _ => rfl) (hs5.at 4 rfl) (flat_ints _) (by simp [aloneC]), hC.la, Nat.le_refl _, Nat.le_refl _, hC.ca, by simp only; omega, by simp only; omega, hC.ka, by simp only; omega, by simp only; omega⟩
        refine (rflux_any R M _ (aloneC M C) _ _ _ (hM.below hs5.below) hq (alone_fit hv)).mono ?_
        rintro e u5 ⟨rfl, hb_5⟩
        refine ⟨_, rfl, hb_5, ?_⟩
        clear hs5
        refine al_q (q_assign rfl) rfl rfl rfl ?_
        refine al_q (q_assign rfl) rfl rfl rfl ?_
        refine al_end ?_
        refine aq_then ?_
        refine ac_ret ?_
        refine ret2 Tryz.results45 rfl rfl (fun w9 hs => ?_)
        refine ⟨?_, hs.below⟩; simp [linkedE, fit2_iff.2 hv, midE, hcn]
      · refine al_new (fun b => .pointer (some ⟨b, 0, none⟩)) (r_alloc Tryz.zeroValue92 rfl) rfl rfl rfl ?_
        intro b5
        refine al_end (ah_back hok2 hcl2 (fun w9 hs => ((hs.fewer 1 rfl).tail 1 rfl)) ?_)
        refine ah_one 4 rfl (by kernel_rfl) (fun hok5 hcl5 => ?_)
        refine al_call Tryz.call92 (.cons rfl (.cons rfl .nil)) rfl rfl (fun w6 hs6 => ?_)
        refine (rat_any M.name R.A R.B R.C R.D R.la R.ca R.lb R.cb R.lc R.cc R.ld R.cd M.grid.r M.grid.z M.grid.nr M.grid.nz M.grid.step (((cellsN M).tdiv 2)) _ hs0.grid (by omega) (by omega)).mono ?_
        rintro e u6 ⟨rfl, hb_6⟩
        refine ⟨_, rfl, hb_6, ?_⟩
        clear hs6
        refine al_end (ah_back hok5 hcl5 (fun w9 hs => ((hs.fewer 2 rfl).tail 1 rfl)) ?_)
        refine ah_one 6 rfl (by kernel_rfl) (fun hok6 hcl6 => ?_)
        refine al_storeAll (i := 0) rfl rfl rfl rfl Tryz.sizeOf92 rfl rfl .k0 rfl ?_
        refine al_end (ah_last (by kernel_rfl) ?_)
        refine aq_then ?_
        refine ac_seq ?_
        refine ac_region ?_
        refine al_q (q_loadAll (i := 6) rfl rfl Tryz.isAgg29 Tryz.sizeOf29 rfl) rfl rfl rfl ?_
        refine al_q (q_loadAll (i := 1) rfl rfl Tryz.isAgg32 Tryz.sizeOf32 rfl) rfl rfl rfl ?_
        refine al_q (q_fieldAddr 0 rfl Tryz.runUnderlying92 rfl Tryz.sizeOf3 (by decide) rfl) rfl rfl rfl ?_
        refine al_q (q_load (i := 0) rfl rfl rfl Tryz.isAgg3) rfl rfl rfl ?_
        refine al_q (q_fieldAddr 1 rfl Tryz.runUnderlying92 rfl Tryz.sizeOf3 (by decide) rfl) rfl rfl rfl ?_
        refine al_q (q_load (i := 0) rfl rfl rfl Tryz.isAgg3) rfl rfl rfl ?_
        refine al_call Tryz.call94 (.cons rfl (.cons rfl (.cons rfl (.cons rfl .nil)))) rfl rfl (fun w7 hs7 => ?_)
        have hq : IsC w7 ⟨Q.A, some ⟨x2, 0, none⟩, some ⟨x3, 0, none⟩, Q.la, Q.ca, R.lb, R.lb, (M.grid.nr * M.grid.nz).toNat, (M.grid.nr * M.grid.nz).toNat⟩ (aloneC M C) :=
          ⟨hC.coils.below hs7.below, isT_box0 (n := 1) (enc := intCells) (fun _ => rfl) (hs7.at 3 rfl) (by rw [← hlb]; exact flat_ints _) (by simp [aloneC, hlb]), isT_box0 (n := 1) (enc := intCells) (fun _ => rfl) (hs7.at 4 rfl) (flat_ints _) (by simp [aloneC]), hC.la, Nat.le_refl _, Nat.le_refl _, hC.ca, by simp only; omega, by simp only; omega, hC.ka, by simp only; omega, by simp only; omega⟩
        refine (rflux_any R M _ (aloneC M C) _ _ _ (hM.below hs7.below) hq (alone_fit hv)).mono ?_
        rintro e u7 ⟨rfl, hb_7⟩
        refine ⟨_, rfl, hb_7, ?_⟩
        clear hs7
        refine al_q (q_assign rfl) rfl rfl rfl ?_
        refine al_q (q_assign rfl) rfl rfl rfl ?_
        refine al_end ?_
        refine aq_then ?_
        refine ac_ret ?_
        refine ret2 Tryz.results45 rfl rfl (fun w9 hs => ?_)
        refine ⟨?_, hs.below⟩; simp [linkedE, fit2_iff.2 hv, midE, hcn]
    · refine al_new (fun b => .pointer (some ⟨b, 0, none⟩)) (r_alloc Tryz.zeroValue92 rfl) rfl rfl rfl ?_
      intro b6
      refine al_end (ah_back hok1 hcl1 (fun w9 hs => (hs.tail 1 rfl)) ?_)
      refine ah_one 2 rfl (by kernel_rfl) (fun hok7 hcl7 => ?_)
      refine al_call Tryz.call93 (.cons rfl .nil) rfl rfl (fun w8 hs8 => ?_)
      refine (rcellsN_any R M _ (hM.below hs8.below)).mono ?_
      rintro e u8 ⟨rfl, hb_8⟩
      refine ⟨_, rfl, hb_8, ?_⟩
      clear hs8
      refine al_end (ah_back hok7 hcl7 (fun w9 hs => ((hs.fewer 1 rfl).tail 1 rfl)) ?_)
      refine ah_take 3 (fun w9 hs => ((hs.fewer 1 rfl).tail 1 rfl)) rfl rfl rfl (by kernel_rfl) (by kernel_rfl) (by kernel_rfl) (fun _ _ _ h => h) rfl (q_quo rfl rfl (by omega)) ?_
      refine ah_one 4 rfl (by kernel_rfl) (fun hok8 hcl8 => ?_)
      refine al_call Tryz.call92 (.cons rfl (.cons rfl .nil)) rfl rfl (fun w9 hs9 => ?_)
      refine (rat_any M.name R.A R.B R.C R.D R.la R.ca R.lb R.cb R.lc R.cc R.ld R.cd M.grid.r M.grid.z M.grid.nr M.grid.nz M.grid.step (((cellsN M).tdiv 2)) _ hs0.grid (by omega) (by omega)).mono ?_
      rintro e u9 ⟨rfl, hb_9⟩
      refine ⟨_, rfl, hb_9, ?_⟩
      clear hs9
      refine al_end (ah_back hok8 hcl8 (fun w9 hs => ((hs.fewer 2 rfl).tail 1 rfl)) ?_)
      refine ah_one 6 rfl (by kernel_rfl) (fun hok9 hcl9 => ?_)
      refine al_storeAll (i := 0) rfl rfl rfl rfl Tryz.sizeOf92 rfl rfl .k0 rfl ?_
      refine al_end (ah_last (by kernel_rfl) ?_)
      refine aq_then ?_
      refine ac_seq ?_
      refine ac_region ?_
      refine al_q (q_loadAll (i := 6) rfl rfl Tryz.isAgg29 Tryz.sizeOf29 rfl) rfl rfl rfl ?_
      refine al_q (q_loadAll (i := 1) rfl rfl Tryz.isAgg32 Tryz.sizeOf32 rfl) rfl rfl rfl ?_
      refine al_q (q_fieldAddr 0 rfl Tryz.runUnderlying92 rfl Tryz.sizeOf3 (by decide) rfl) rfl rfl rfl ?_
      refine al_q (q_load (i := 0) rfl rfl rfl Tryz.isAgg3) rfl rfl rfl ?_
      refine al_q (q_fieldAddr 1 rfl Tryz.runUnderlying92 rfl Tryz.sizeOf3 (by decide) rfl) rfl rfl rfl ?_
      refine al_q (q_load (i := 0) rfl rfl rfl Tryz.isAgg3) rfl rfl rfl ?_
      refine al_call Tryz.call94 (.cons rfl (.cons rfl (.cons rfl (.cons rfl .nil)))) rfl rfl (fun w10 hs10 => ?_)
      have hq : IsC w10 ⟨Q.A, some ⟨x2, 0, none⟩, some ⟨x3, 0, none⟩, Q.la, Q.ca, R.lb, R.lb, (M.grid.nr * M.grid.nz).toNat, (M.grid.nr * M.grid.nz).toNat⟩ (aloneC M C) :=
        ⟨hC.coils.below hs10.below, isT_box0 (n := 1) (enc := intCells) (fun _ => rfl) (hs10.at 3 rfl) (by rw [← hlb]; exact flat_ints _) (by simp [aloneC, hlb]), isT_box0 (n := 1) (enc := intCells) (fun _ => rfl) (hs10.at 4 rfl) (flat_ints _) (by simp [aloneC]), hC.la, Nat.le_refl _, Nat.le_refl _, hC.ca, by simp only; omega, by simp only; omega, hC.ka, by simp only; omega, by simp only; omega⟩
      refine (rflux_any R M _ (aloneC M C) _ _ _ (hM.below hs10.below) hq (alone_fit hv)).mono ?_
      rintro e u10 ⟨rfl, hb_10⟩
      refine ⟨_, rfl, hb_10, ?_⟩
      clear hs10
      refine al_q (q_assign rfl) rfl rfl rfl ?_
      refine al_q (q_assign rfl) rfl rfl rfl ?_
      refine al_end ?_
      refine aq_then ?_
      refine ac_ret ?_
      refine ret2 Tryz.results45 rfl rfl (fun w9 hs => ?_)
      refine ⟨?_, hs.below⟩; simp [linkedE, fit2_iff.2 hv, midE, hcn]

end Go.Proofs.YtkhahbnagbjbiaaGreat
end
