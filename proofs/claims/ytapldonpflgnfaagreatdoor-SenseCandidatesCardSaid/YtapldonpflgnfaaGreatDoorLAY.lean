import Derived.Test.YtapldonpflgnfaaGreatDoorLAQ
import Derived.Test.YtapldonpflgnfaaGreatDoorLAW
import Derived.Test.YtapldonpflgnfaaGreatDoorLAX
import Derived.Test.YtapldonpflgnfaaGreatDoorRows
import Derived.KernelRfl
import Derived.Laws.StructEq
import Derived.Deep.OwnRows
namespace Go.Proofs.YtapldonpflgnfaaGreatDoor
set_option linter.unusedVariables false
set_option linter.unusedSimpArgs false
section
open Go.RowKit
theorem rc4_bl_apiCurrents_0_1_2 (a0 a1 a2 : Value) (ha0 : a0.oneCell' = true) (ha1 : a1.oneCell' = true) (ha2 : a2.oneCell' = true) : ∀ w, (Instr.build 32 #[(0, a0), (1, a1), (2, a2)]).run Tryz.prog w = .ok (.agg #[a0, a1, a2]) w := by
 have ea0 : a0.cells = #[a0] := cells_one ha0
 have ea1 : a1.cells = #[a1] := cells_one ha1
 have ea2 : a2.cells = #[a2] := cells_one ha2
 intro w; simp [Instr.build, Instr.fill, cells_agg, Tryz.runUnderlying32, Tryz.zeroValue32, Tryz.sizeOf30, ea0, ea1, ea2]
set_option maxRecDepth 100000 in
theorem rQuiet_ok (R : MachR) (M : MachD) (w : World) (hM : IsM w R M) (hc : checkC M = 0) : Calls Tryz.prog 118 #[(.agg (machCells R M))] w (fun e w' => ∃ b1 b2 b3, e = .returned (.agg #[.slice (some ⟨b1, 0, none⟩) R.la R.la, .slice (some ⟨b2, 0, none⟩) R.lb R.lb, .slice (some ⟨b3, 0, none⟩) (M.grid.nr * M.grid.nz).toNat (M.grid.nr * M.grid.nz).toNat]) ∧ Own w [(b1, .cells (List.replicate R.la (.int .i64 0))), (b2, .cells (List.replicate R.lb (.int .i64 0))), (b3, .cells (List.replicate (M.grid.nr * M.grid.nz).toNat (.int .i64 0)))] w') := by
 have hs0 := sound_of hc
 have hg := cells_fine hs0.grid
 have hsc := hs0.coils.1
 have hss := hs0.shells.1
 have ga := hM.coils.1
 have gb := hM.shells.1
 have hcn : cellsN M = M.grid.nr * M.grid.nz := by simp [cellsN, hc]
 refine calls_ax (vs := [(.agg (machCells R M))]) Tryz.func118 rfl rfl ?_
 refine ac_seq (ac_region ?_)
 refine al_new (fun b => .pointer (some ⟨b, 0, none⟩)) (r_box rfl rfl) rfl rfl rfl ?_
 intro b1
 refine al_new (fun b => .pointer (some ⟨b, 0, none⟩)) (r_alloc Tryz.zeroValue32 rfl) rfl rfl rfl ?_
 intro b2
 refine al_end (aq_then ?_)
 refine ac_seq (ac_seq (ac_region ?_))
 refine al_p (q_loadAll (i := 1) rfl rfl Tryz.isAgg29 Tryz.sizeOf29 rfl) (al_call Tryz.call73 (.cons rfl .nil) rfl rfl (fun w1 hs1 => ?_))
 refine (rcheck_any R M _ (hM.below hs1.below)).mono ?_
 rintro e u1 ⟨rfl, hb_1⟩
 refine ⟨_, rfl, hb_1, ?_⟩
 clear hs1
 refine al_p (q_neq rfl rfl) (al_end (aq_then ?_))
 refine ac_cond rfl (fun h1 => ?_) (fun h1 => ?_)
 ·exact absurd h1 (by simp [hc])
 ·refine ac_skip (aq_then (ac_seq (ac_draw 12 (by kernel_rfl) (by kernel_rfl) ?_)))
  refine ah_t 0 (fun w9 hs => hs) rfl rfl (by kernel_rfl) (q_fieldAddr 1 rfl Tryz.runUnderlying29 rfl Tryz.sizeOf22 (by decide) rfl) (ah_t 1 (fun w9 hs => hs) rfl rfl (by kernel_rfl) (q_load (i := 1) rfl rfl rfl Tryz.isAgg22) (ah_t 2 (fun w9 hs => hs) rfl rfl (by kernel_rfl) (q_lenS rfl Tryz.runUnderlying22) ?_))
  refine ah_t 4 (fun w9 hs => hs) rfl rfl (by kernel_rfl) (q_fieldAddr 2 rfl Tryz.runUnderlying29 rfl Tryz.sizeOf23 (by decide) rfl) (ah_t 5 (fun w9 hs => hs) rfl rfl (by kernel_rfl) (q_load (i := 1) rfl rfl rfl Tryz.isAgg23) (ah_t 6 (fun w9 hs => hs) rfl rfl (by kernel_rfl) (q_lenS rfl Tryz.runUnderlying23) (ah_t 8 (fun w9 hs => hs) rfl rfl (by kernel_rfl) (q_loadAll (i := 1) rfl rfl Tryz.isAgg29 Tryz.sizeOf29 rfl) ?_)))
  refine ah_three 3 7 9 rfl rfl rfl  (by kernel_rfl) (fun hok1 hcl1 => ?_) (fun hok1 hcl1 => ?_) (fun hok1 hcl1 => ?_)
  ·refine al_makeInts (n := R.la) (z := (.int .i64 0)) (bytes := 8) rfl rfl rfl Tryz.underlying30 (by kernel_rfl) rfl (by omega) (by decide) rfl rfl ?_
   intro b3
   refine al_end (ah_back hok1 hcl1 (fun w9 hs => (hs.tail 1 rfl)) ?_)
   refine ah_two 7 9 rfl rfl  (by kernel_rfl) (fun hok2 hcl2 => ?_) (fun hok2 hcl2 => ?_)
   ·refine al_makeInts (n := R.lb) (z := (.int .i64 0)) (bytes := 8) rfl rfl rfl Tryz.underlying30 (by kernel_rfl) rfl (by omega) (by decide) rfl rfl ?_
    intro b4
    refine al_end (ah_back hok2 hcl2 (fun w9 hs => (hs.tail 2 rfl)) ?_)
    refine ah_one 9 rfl (by kernel_rfl) (fun hok3 hcl3 => ?_)
    refine al_call Tryz.call34 (.cons rfl .nil) rfl rfl (fun w2 hs2 => ?_)
    refine (rcellsN_any R M _ (hM.below hs2.below)).mono ?_
    rintro e u2 ⟨rfl, hb_2⟩
    refine ⟨_, rfl, hb_2, ?_⟩
    clear hs2
    refine al_end (ah_back hok3 hcl3 (fun w9 hs => ((hs.fewer 1 rfl).tail 2 rfl)) ?_)
    refine ah_one 10 rfl (by kernel_rfl) (fun hok4 hcl4 => ?_)
    refine al_makeInts (n := (M.grid.nr * M.grid.nz).toNat) (z := (.int .i64 0)) (bytes := 8) rfl rfl (by rw [hcn]; congr 1; omega) Tryz.underlying30 (by kernel_rfl) rfl (by omega) (by decide) rfl rfl ?_
    intro b5
    refine al_end (ah_back hok4 hcl4 (fun w9 hs => ((hs.fewer 1 rfl).tail 3 rfl)) ?_)
    refine ah_t 11 (fun w9 hs => ((hs.fewer 1 rfl).tail 3 rfl)) rfl rfl (by kernel_rfl) (q_build (.cons rfl (.cons rfl (.cons rfl .nil))) (rc4_bl_apiCurrents_0_1_2 _ _ _ rfl rfl rfl)) (ah_one 12 rfl (by kernel_rfl) (fun hok5 hcl5 => ?_))
    refine al_storeAll (i := 3) rfl rfl rfl rfl Tryz.sizeOf32 rfl rfl .k3 rfl (al_end (ah_last (by kernel_rfl) ?_))
    refine aq_then (ac_ret (retR Tryz.results118 (.agg (i := 3) rfl rfl Tryz.isAgg32 Tryz.sizeOf32 rfl .nil) .one (fun w9 hs => ?_)))
    exact ⟨b3, b4, b5, rfl, hs.own (.cons (j := 2) rfl (.cons (j := 1) rfl (.cons (j := 0) rfl .nil))) (by decide)⟩
   ·refine al_call Tryz.call34 (.cons rfl .nil) rfl rfl (fun w3 hs3 => ?_)
    refine (rcellsN_any R M _ (hM.below hs3.below)).mono ?_
    rintro e u3 ⟨rfl, hb_3⟩
    refine ⟨_, rfl, hb_3, ?_⟩
    clear hs3
    refine al_end (ah_back hok2 hcl2 (fun w9 hs => ((hs.fewer 1 rfl).tail 1 rfl)) ?_)
    refine ah_two 7 10 rfl rfl  (by kernel_rfl) (fun hok6 hcl6 => ?_) (fun hok6 hcl6 => ?_)
    ·refine al_makeInts (n := R.lb) (z := (.int .i64 0)) (bytes := 8) rfl rfl rfl Tryz.underlying30 (by kernel_rfl) rfl (by omega) (by decide) rfl rfl ?_
     intro b6
     refine al_end (ah_back hok6 hcl6 (fun w9 hs => ((hs.fewer 1 rfl).tail 2 rfl)) ?_)
     refine ah_one 10 rfl (by kernel_rfl) (fun hok7 hcl7 => ?_)
     refine al_makeInts (n := (M.grid.nr * M.grid.nz).toNat) (z := (.int .i64 0)) (bytes := 8) rfl rfl (by rw [hcn]; congr 1; omega) Tryz.underlying30 (by kernel_rfl) rfl (by omega) (by decide) rfl rfl ?_
     intro b7
     refine al_end (ah_back hok7 hcl7 (fun w9 hs => ((hs.fewer 1 rfl).tail 3 rfl)) ?_)
     refine ah_t 11 (fun w9 hs => ((hs.fewer 1 rfl).tail 3 rfl)) rfl rfl (by kernel_rfl) (q_build (.cons rfl (.cons rfl (.cons rfl .nil))) (rc4_bl_apiCurrents_0_1_2 _ _ _ rfl rfl rfl)) (ah_one 12 rfl (by kernel_rfl) (fun hok8 hcl8 => ?_))
     refine al_storeAll (i := 3) rfl rfl rfl rfl Tryz.sizeOf32 rfl rfl .k3 rfl (al_end (ah_last (by kernel_rfl) ?_))
     refine aq_then (ac_ret (retR Tryz.results118 (.agg (i := 3) rfl rfl Tryz.isAgg32 Tryz.sizeOf32 rfl .nil) .one (fun w9 hs => ?_)))
     exact ⟨b3, b6, b7, rfl, hs.own (.cons (j := 2) rfl (.cons (j := 1) rfl (.cons (j := 0) rfl .nil))) (by decide)⟩
    ·refine al_makeInts (n := (M.grid.nr * M.grid.nz).toNat) (z := (.int .i64 0)) (bytes := 8) rfl rfl (by rw [hcn]; congr 1; omega) Tryz.underlying30 (by kernel_rfl) rfl (by omega) (by decide) rfl rfl ?_
     intro b8
     refine al_end (ah_back hok6 hcl6 (fun w9 hs => ((hs.fewer 1 rfl).tail 2 rfl)) ?_)
     refine ah_one 7 rfl (by kernel_rfl) (fun hok9 hcl9 => ?_)
     refine al_makeInts (n := R.lb) (z := (.int .i64 0)) (bytes := 8) rfl rfl rfl Tryz.underlying30 (by kernel_rfl) rfl (by omega) (by decide) rfl rfl ?_
     intro b9
     refine al_end (ah_back hok9 hcl9 (fun w9 hs => ((hs.fewer 1 rfl).tail 3 rfl)) ?_)
     refine ah_t 11 (fun w9 hs => ((hs.fewer 1 rfl).tail 3 rfl)) rfl rfl (by kernel_rfl) (q_build (.cons rfl (.cons rfl (.cons rfl .nil))) (rc4_bl_apiCurrents_0_1_2 _ _ _ rfl rfl rfl)) (ah_one 12 rfl (by kernel_rfl) (fun hok10 hcl10 => ?_))
     refine al_storeAll (i := 3) rfl rfl rfl rfl Tryz.sizeOf32 rfl rfl .k3 rfl (al_end (ah_last (by kernel_rfl) ?_))
     refine aq_then (ac_ret (retR Tryz.results118 (.agg (i := 3) rfl rfl Tryz.isAgg32 Tryz.sizeOf32 rfl .nil) .one (fun w9 hs => ?_)))
     exact ⟨b3, b9, b8, rfl, hs.own (.cons (j := 2) rfl (.cons (j := 0) rfl (.cons (j := 1) rfl .nil))) (by decide)⟩
  ·refine al_makeInts (n := R.lb) (z := (.int .i64 0)) (bytes := 8) rfl rfl rfl Tryz.underlying30 (by kernel_rfl) rfl (by omega) (by decide) rfl rfl ?_
   intro b10
   refine al_end (ah_back hok1 hcl1 (fun w9 hs => (hs.tail 1 rfl)) ?_)
   refine ah_two 3 9 rfl rfl  (by kernel_rfl) (fun hok11 hcl11 => ?_) (fun hok11 hcl11 => ?_)
   ·refine al_makeInts (n := R.la) (z := (.int .i64 0)) (bytes := 8) rfl rfl rfl Tryz.underlying30 (by kernel_rfl) rfl (by omega) (by decide) rfl rfl ?_
    intro b11
    refine al_end (ah_back hok11 hcl11 (fun w9 hs => (hs.tail 2 rfl)) ?_)
    refine ah_one 9 rfl (by kernel_rfl) (fun hok12 hcl12 => ?_)
    refine al_call Tryz.call34 (.cons rfl .nil) rfl rfl (fun w4 hs4 => ?_)
    refine (rcellsN_any R M _ (hM.below hs4.below)).mono ?_
    rintro e u4 ⟨rfl, hb_4⟩
    refine ⟨_, rfl, hb_4, ?_⟩
    clear hs4
    refine al_end (ah_back hok12 hcl12 (fun w9 hs => ((hs.fewer 1 rfl).tail 2 rfl)) ?_)
    refine ah_one 10 rfl (by kernel_rfl) (fun hok13 hcl13 => ?_)
    refine al_makeInts (n := (M.grid.nr * M.grid.nz).toNat) (z := (.int .i64 0)) (bytes := 8) rfl rfl (by rw [hcn]; congr 1; omega) Tryz.underlying30 (by kernel_rfl) rfl (by omega) (by decide) rfl rfl ?_
    intro b12
    refine al_end (ah_back hok13 hcl13 (fun w9 hs => ((hs.fewer 1 rfl).tail 3 rfl)) ?_)
    refine ah_t 11 (fun w9 hs => ((hs.fewer 1 rfl).tail 3 rfl)) rfl rfl (by kernel_rfl) (q_build (.cons rfl (.cons rfl (.cons rfl .nil))) (rc4_bl_apiCurrents_0_1_2 _ _ _ rfl rfl rfl)) (ah_one 12 rfl (by kernel_rfl) (fun hok14 hcl14 => ?_))
    refine al_storeAll (i := 3) rfl rfl rfl rfl Tryz.sizeOf32 rfl rfl .k3 rfl (al_end (ah_last (by kernel_rfl) ?_))
    refine aq_then (ac_ret (retR Tryz.results118 (.agg (i := 3) rfl rfl Tryz.isAgg32 Tryz.sizeOf32 rfl .nil) .one (fun w9 hs => ?_)))
    exact ⟨b11, b10, b12, rfl, hs.own (.cons (j := 1) rfl (.cons (j := 2) rfl (.cons (j := 0) rfl .nil))) (by decide)⟩
   ·refine al_call Tryz.call34 (.cons rfl .nil) rfl rfl (fun w5 hs5 => ?_)
    refine (rcellsN_any R M _ (hM.below hs5.below)).mono ?_
    rintro e u5 ⟨rfl, hb_5⟩
    refine ⟨_, rfl, hb_5, ?_⟩
    clear hs5
    refine al_end (ah_back hok11 hcl11 (fun w9 hs => ((hs.fewer 1 rfl).tail 1 rfl)) ?_)
    refine ah_two 3 10 rfl rfl  (by kernel_rfl) (fun hok15 hcl15 => ?_) (fun hok15 hcl15 => ?_)
    ·refine al_makeInts (n := R.la) (z := (.int .i64 0)) (bytes := 8) rfl rfl rfl Tryz.underlying30 (by kernel_rfl) rfl (by omega) (by decide) rfl rfl ?_
     intro b13
     refine al_end (ah_back hok15 hcl15 (fun w9 hs => ((hs.fewer 1 rfl).tail 2 rfl)) ?_)
     refine ah_one 10 rfl (by kernel_rfl) (fun hok16 hcl16 => ?_)
     refine al_makeInts (n := (M.grid.nr * M.grid.nz).toNat) (z := (.int .i64 0)) (bytes := 8) rfl rfl (by rw [hcn]; congr 1; omega) Tryz.underlying30 (by kernel_rfl) rfl (by omega) (by decide) rfl rfl ?_
     intro b14
     refine al_end (ah_back hok16 hcl16 (fun w9 hs => ((hs.fewer 1 rfl).tail 3 rfl)) ?_)
     refine ah_t 11 (fun w9 hs => ((hs.fewer 1 rfl).tail 3 rfl)) rfl rfl (by kernel_rfl) (q_build (.cons rfl (.cons rfl (.cons rfl .nil))) (rc4_bl_apiCurrents_0_1_2 _ _ _ rfl rfl rfl)) (ah_one 12 rfl (by kernel_rfl) (fun hok17 hcl17 => ?_))
     refine al_storeAll (i := 3) rfl rfl rfl rfl Tryz.sizeOf32 rfl rfl .k3 rfl (al_end (ah_last (by kernel_rfl) ?_))
     refine aq_then (ac_ret (retR Tryz.results118 (.agg (i := 3) rfl rfl Tryz.isAgg32 Tryz.sizeOf32 rfl .nil) .one (fun w9 hs => ?_)))
     exact ⟨b13, b10, b14, rfl, hs.own (.cons (j := 1) rfl (.cons (j := 2) rfl (.cons (j := 0) rfl .nil))) (by decide)⟩
    ·refine al_makeInts (n := (M.grid.nr * M.grid.nz).toNat) (z := (.int .i64 0)) (bytes := 8) rfl rfl (by rw [hcn]; congr 1; omega) Tryz.underlying30 (by kernel_rfl) rfl (by omega) (by decide) rfl rfl ?_
     intro b15
     refine al_end (ah_back hok15 hcl15 (fun w9 hs => ((hs.fewer 1 rfl).tail 2 rfl)) ?_)
     refine ah_one 3 rfl (by kernel_rfl) (fun hok18 hcl18 => ?_)
     refine al_makeInts (n := R.la) (z := (.int .i64 0)) (bytes := 8) rfl rfl rfl Tryz.underlying30 (by kernel_rfl) rfl (by omega) (by decide) rfl rfl ?_
     intro b16
     refine al_end (ah_back hok18 hcl18 (fun w9 hs => ((hs.fewer 1 rfl).tail 3 rfl)) ?_)
     refine ah_t 11 (fun w9 hs => ((hs.fewer 1 rfl).tail 3 rfl)) rfl rfl (by kernel_rfl) (q_build (.cons rfl (.cons rfl (.cons rfl .nil))) (rc4_bl_apiCurrents_0_1_2 _ _ _ rfl rfl rfl)) (ah_one 12 rfl (by kernel_rfl) (fun hok19 hcl19 => ?_))
     refine al_storeAll (i := 3) rfl rfl rfl rfl Tryz.sizeOf32 rfl rfl .k3 rfl (al_end (ah_last (by kernel_rfl) ?_))
     refine aq_then (ac_ret (retR Tryz.results118 (.agg (i := 3) rfl rfl Tryz.isAgg32 Tryz.sizeOf32 rfl .nil) .one (fun w9 hs => ?_)))
     exact ⟨b16, b10, b15, rfl, hs.own (.cons (j := 0) rfl (.cons (j := 2) rfl (.cons (j := 1) rfl .nil))) (by decide)⟩
  ·refine al_call Tryz.call34 (.cons rfl .nil) rfl rfl (fun w6 hs6 => ?_)
   refine (rcellsN_any R M _ (hM.below hs6.below)).mono ?_
   rintro e u6 ⟨rfl, hb_6⟩
   refine ⟨_, rfl, hb_6, ?_⟩
   clear hs6
   refine al_end (ah_back hok1 hcl1 (fun w9 hs => (hs.fewer 1 rfl)) ?_)
   refine ah_three 3 7 10 rfl rfl rfl  (by kernel_rfl) (fun hok20 hcl20 => ?_) (fun hok20 hcl20 => ?_) (fun hok20 hcl20 => ?_)
   ·refine al_makeInts (n := R.la) (z := (.int .i64 0)) (bytes := 8) rfl rfl rfl Tryz.underlying30 (by kernel_rfl) rfl (by omega) (by decide) rfl rfl ?_
    intro b17
    refine al_end (ah_back hok20 hcl20 (fun w9 hs => ((hs.fewer 1 rfl).tail 1 rfl)) ?_)
    refine ah_two 7 10 rfl rfl  (by kernel_rfl) (fun hok21 hcl21 => ?_) (fun hok21 hcl21 => ?_)
    ·refine al_makeInts (n := R.lb) (z := (.int .i64 0)) (bytes := 8) rfl rfl rfl Tryz.underlying30 (by kernel_rfl) rfl (by omega) (by decide) rfl rfl ?_
     intro b18
     refine al_end (ah_back hok21 hcl21 (fun w9 hs => ((hs.fewer 1 rfl).tail 2 rfl)) ?_)
     refine ah_one 10 rfl (by kernel_rfl) (fun hok22 hcl22 => ?_)
     refine al_makeInts (n := (M.grid.nr * M.grid.nz).toNat) (z := (.int .i64 0)) (bytes := 8) rfl rfl (by rw [hcn]; congr 1; omega) Tryz.underlying30 (by kernel_rfl) rfl (by omega) (by decide) rfl rfl ?_
     intro b19
     refine al_end (ah_back hok22 hcl22 (fun w9 hs => ((hs.fewer 1 rfl).tail 3 rfl)) ?_)
     refine ah_t 11 (fun w9 hs => ((hs.fewer 1 rfl).tail 3 rfl)) rfl rfl (by kernel_rfl) (q_build (.cons rfl (.cons rfl (.cons rfl .nil))) (rc4_bl_apiCurrents_0_1_2 _ _ _ rfl rfl rfl)) (ah_one 12 rfl (by kernel_rfl) (fun hok23 hcl23 => ?_))
     refine al_storeAll (i := 3) rfl rfl rfl rfl Tryz.sizeOf32 rfl rfl .k3 rfl (al_end (ah_last (by kernel_rfl) ?_))
     refine aq_then (ac_ret (retR Tryz.results118 (.agg (i := 3) rfl rfl Tryz.isAgg32 Tryz.sizeOf32 rfl .nil) .one (fun w9 hs => ?_)))
     exact ⟨b17, b18, b19, rfl, hs.own (.cons (j := 2) rfl (.cons (j := 1) rfl (.cons (j := 0) rfl .nil))) (by decide)⟩
    ·refine al_makeInts (n := (M.grid.nr * M.grid.nz).toNat) (z := (.int .i64 0)) (bytes := 8) rfl rfl (by rw [hcn]; congr 1; omega) Tryz.underlying30 (by kernel_rfl) rfl (by omega) (by decide) rfl rfl ?_
     intro b20
     refine al_end (ah_back hok21 hcl21 (fun w9 hs => ((hs.fewer 1 rfl).tail 2 rfl)) ?_)
     refine ah_one 7 rfl (by kernel_rfl) (fun hok24 hcl24 => ?_)
     refine al_makeInts (n := R.lb) (z := (.int .i64 0)) (bytes := 8) rfl rfl rfl Tryz.underlying30 (by kernel_rfl) rfl (by omega) (by decide) rfl rfl ?_
     intro b21
     refine al_end (ah_back hok24 hcl24 (fun w9 hs => ((hs.fewer 1 rfl).tail 3 rfl)) ?_)
     refine ah_t 11 (fun w9 hs => ((hs.fewer 1 rfl).tail 3 rfl)) rfl rfl (by kernel_rfl) (q_build (.cons rfl (.cons rfl (.cons rfl .nil))) (rc4_bl_apiCurrents_0_1_2 _ _ _ rfl rfl rfl)) (ah_one 12 rfl (by kernel_rfl) (fun hok25 hcl25 => ?_))
     refine al_storeAll (i := 3) rfl rfl rfl rfl Tryz.sizeOf32 rfl rfl .k3 rfl (al_end (ah_last (by kernel_rfl) ?_))
     refine aq_then (ac_ret (retR Tryz.results118 (.agg (i := 3) rfl rfl Tryz.isAgg32 Tryz.sizeOf32 rfl .nil) .one (fun w9 hs => ?_)))
     exact ⟨b17, b21, b20, rfl, hs.own (.cons (j := 2) rfl (.cons (j := 0) rfl (.cons (j := 1) rfl .nil))) (by decide)⟩
   ·refine al_makeInts (n := R.lb) (z := (.int .i64 0)) (bytes := 8) rfl rfl rfl Tryz.underlying30 (by kernel_rfl) rfl (by omega) (by decide) rfl rfl ?_
    intro b22
    refine al_end (ah_back hok20 hcl20 (fun w9 hs => ((hs.fewer 1 rfl).tail 1 rfl)) ?_)
    refine ah_two 3 10 rfl rfl  (by kernel_rfl) (fun hok26 hcl26 => ?_) (fun hok26 hcl26 => ?_)
    ·refine al_makeInts (n := R.la) (z := (.int .i64 0)) (bytes := 8) rfl rfl rfl Tryz.underlying30 (by kernel_rfl) rfl (by omega) (by decide) rfl rfl ?_
     intro b23
     refine al_end (ah_back hok26 hcl26 (fun w9 hs => ((hs.fewer 1 rfl).tail 2 rfl)) ?_)
     refine ah_one 10 rfl (by kernel_rfl) (fun hok27 hcl27 => ?_)
     refine al_makeInts (n := (M.grid.nr * M.grid.nz).toNat) (z := (.int .i64 0)) (bytes := 8) rfl rfl (by rw [hcn]; congr 1; omega) Tryz.underlying30 (by kernel_rfl) rfl (by omega) (by decide) rfl rfl ?_
     intro b24
     refine al_end (ah_back hok27 hcl27 (fun w9 hs => ((hs.fewer 1 rfl).tail 3 rfl)) ?_)
     refine ah_t 11 (fun w9 hs => ((hs.fewer 1 rfl).tail 3 rfl)) rfl rfl (by kernel_rfl) (q_build (.cons rfl (.cons rfl (.cons rfl .nil))) (rc4_bl_apiCurrents_0_1_2 _ _ _ rfl rfl rfl)) (ah_one 12 rfl (by kernel_rfl) (fun hok28 hcl28 => ?_))
     refine al_storeAll (i := 3) rfl rfl rfl rfl Tryz.sizeOf32 rfl rfl .k3 rfl (al_end (ah_last (by kernel_rfl) ?_))
     refine aq_then (ac_ret (retR Tryz.results118 (.agg (i := 3) rfl rfl Tryz.isAgg32 Tryz.sizeOf32 rfl .nil) .one (fun w9 hs => ?_)))
     exact ⟨b23, b22, b24, rfl, hs.own (.cons (j := 1) rfl (.cons (j := 2) rfl (.cons (j := 0) rfl .nil))) (by decide)⟩
    ·refine al_makeInts (n := (M.grid.nr * M.grid.nz).toNat) (z := (.int .i64 0)) (bytes := 8) rfl rfl (by rw [hcn]; congr 1; omega) Tryz.underlying30 (by kernel_rfl) rfl (by omega) (by decide) rfl rfl ?_
     intro b25
     refine al_end (ah_back hok26 hcl26 (fun w9 hs => ((hs.fewer 1 rfl).tail 2 rfl)) ?_)
     refine ah_one 3 rfl (by kernel_rfl) (fun hok29 hcl29 => ?_)
     refine al_makeInts (n := R.la) (z := (.int .i64 0)) (bytes := 8) rfl rfl rfl Tryz.underlying30 (by kernel_rfl) rfl (by omega) (by decide) rfl rfl ?_
     intro b26
     refine al_end (ah_back hok29 hcl29 (fun w9 hs => ((hs.fewer 1 rfl).tail 3 rfl)) ?_)
     refine ah_t 11 (fun w9 hs => ((hs.fewer 1 rfl).tail 3 rfl)) rfl rfl (by kernel_rfl) (q_build (.cons rfl (.cons rfl (.cons rfl .nil))) (rc4_bl_apiCurrents_0_1_2 _ _ _ rfl rfl rfl)) (ah_one 12 rfl (by kernel_rfl) (fun hok30 hcl30 => ?_))
     refine al_storeAll (i := 3) rfl rfl rfl rfl Tryz.sizeOf32 rfl rfl .k3 rfl (al_end (ah_last (by kernel_rfl) ?_))
     refine aq_then (ac_ret (retR Tryz.results118 (.agg (i := 3) rfl rfl Tryz.isAgg32 Tryz.sizeOf32 rfl .nil) .one (fun w9 hs => ?_)))
     exact ⟨b26, b22, b25, rfl, hs.own (.cons (j := 0) rfl (.cons (j := 2) rfl (.cons (j := 1) rfl .nil))) (by decide)⟩
   ·refine al_makeInts (n := (M.grid.nr * M.grid.nz).toNat) (z := (.int .i64 0)) (bytes := 8) rfl rfl (by rw [hcn]; congr 1; omega) Tryz.underlying30 (by kernel_rfl) rfl (by omega) (by decide) rfl rfl ?_
    intro b27
    refine al_end (ah_back hok20 hcl20 (fun w9 hs => ((hs.fewer 1 rfl).tail 1 rfl)) ?_)
    refine ah_two 3 7 rfl rfl  (by kernel_rfl) (fun hok31 hcl31 => ?_) (fun hok31 hcl31 => ?_)
    ·refine al_makeInts (n := R.la) (z := (.int .i64 0)) (bytes := 8) rfl rfl rfl Tryz.underlying30 (by kernel_rfl) rfl (by omega) (by decide) rfl rfl ?_
     intro b28
     refine al_end (ah_back hok31 hcl31 (fun w9 hs => ((hs.fewer 1 rfl).tail 2 rfl)) ?_)
     refine ah_one 7 rfl (by kernel_rfl) (fun hok32 hcl32 => ?_)
     refine al_makeInts (n := R.lb) (z := (.int .i64 0)) (bytes := 8) rfl rfl rfl Tryz.underlying30 (by kernel_rfl) rfl (by omega) (by decide) rfl rfl ?_
     intro b29
     refine al_end (ah_back hok32 hcl32 (fun w9 hs => ((hs.fewer 1 rfl).tail 3 rfl)) ?_)
     refine ah_t 11 (fun w9 hs => ((hs.fewer 1 rfl).tail 3 rfl)) rfl rfl (by kernel_rfl) (q_build (.cons rfl (.cons rfl (.cons rfl .nil))) (rc4_bl_apiCurrents_0_1_2 _ _ _ rfl rfl rfl)) (ah_one 12 rfl (by kernel_rfl) (fun hok33 hcl33 => ?_))
     refine al_storeAll (i := 3) rfl rfl rfl rfl Tryz.sizeOf32 rfl rfl .k3 rfl (al_end (ah_last (by kernel_rfl) ?_))
     refine aq_then (ac_ret (retR Tryz.results118 (.agg (i := 3) rfl rfl Tryz.isAgg32 Tryz.sizeOf32 rfl .nil) .one (fun w9 hs => ?_)))
     exact ⟨b28, b29, b27, rfl, hs.own (.cons (j := 1) rfl (.cons (j := 0) rfl (.cons (j := 2) rfl .nil))) (by decide)⟩
    ·refine al_makeInts (n := R.lb) (z := (.int .i64 0)) (bytes := 8) rfl rfl rfl Tryz.underlying30 (by kernel_rfl) rfl (by omega) (by decide) rfl rfl ?_
     intro b30
     refine al_end (ah_back hok31 hcl31 (fun w9 hs => ((hs.fewer 1 rfl).tail 2 rfl)) ?_)
     refine ah_one 3 rfl (by kernel_rfl) (fun hok34 hcl34 => ?_)
     refine al_makeInts (n := R.la) (z := (.int .i64 0)) (bytes := 8) rfl rfl rfl Tryz.underlying30 (by kernel_rfl) rfl (by omega) (by decide) rfl rfl ?_
     intro b31
     refine al_end (ah_back hok34 hcl34 (fun w9 hs => ((hs.fewer 1 rfl).tail 3 rfl)) ?_)
     refine ah_t 11 (fun w9 hs => ((hs.fewer 1 rfl).tail 3 rfl)) rfl rfl (by kernel_rfl) (q_build (.cons rfl (.cons rfl (.cons rfl .nil))) (rc4_bl_apiCurrents_0_1_2 _ _ _ rfl rfl rfl)) (ah_one 12 rfl (by kernel_rfl) (fun hok35 hcl35 => ?_))
     refine al_storeAll (i := 3) rfl rfl rfl rfl Tryz.sizeOf32 rfl rfl .k3 rfl (al_end (ah_last (by kernel_rfl) ?_))
     refine aq_then (ac_ret (retR Tryz.results118 (.agg (i := 3) rfl rfl Tryz.isAgg32 Tryz.sizeOf32 rfl .nil) .one (fun w9 hs => ?_)))
     exact ⟨b31, b30, b27, rfl, hs.own (.cons (j := 0) rfl (.cons (j := 1) rfl (.cons (j := 2) rfl .nil))) (by decide)⟩
end
section
open Go.RowKit Go.Shelf
structure RowL (b : Nat) (vs : List Value) (W : World) : Prop where
 lt : b < W.heap.size
 cell : ∀ (j : Nat) (v : Value), vs[j]? = some v → W.cell? ⟨b, j, none⟩ = some v
 mark : ∀ j, j < vs.length → W.frozen? ⟨b, j, none⟩ = false
theorem RowL.below {b : Nat} {vs : List Value} {W W' : World} (h : RowL b vs W) (hb : Below W.heap.size W W') : RowL b vs W' :=
 ⟨Nat.lt_of_lt_of_le h.lt hb.size, fun j v hv => (hb.cell (p := ⟨b, j, none⟩) h.lt).trans (h.cell j v hv), fun j hj => (hb.frozen (p := ⟨b, j, none⟩) h.lt).trans (h.mark j hj)⟩
theorem RowL.new (W : World) (cs : Array Value) (t : TypeId) : RowL W.heap.size cs.toList (W.alloc (.cells cs t)) := by
 refine ⟨by simp, fun j v hv => ?_, fun j hj => ?_⟩
 ·rw [Array.getElem?_toList] at hv
  unfold World.cell?
  rw [heap_alloc_new]
  simpa using hv
 ·unfold World.frozen?
  rw [heap_alloc_new]
  simp
theorem RowL.drew {b : Nat} {vs : List Value} {W : World} (h : RowL b vs W) : RowL b vs W.drew := h.below ((Below.refl _ _).drew)
theorem RowL.alloc {b : Nat} {vs : List Value} {W : World} (h : RowL b vs W) (o : Obj) : RowL b vs (W.alloc o) := h.below ((Below.refl _ _).alloc (Nat.le_refl _) o)
theorem RowL.far {b : Nat} {vs : List Value} {W : World} (h : RowL b vs W) {p : Addr} (hp : b ≠ p.block) (v : Value) : RowL b vs (W.setCell p v) :=
 ⟨by rw [World.size_setCell]; exact h.lt, fun j u hu => by
   rw [World.cell?_setCell_other _ _ _ _ (fun e => hp (by exact (congrArg Addr.block e).symm))]; exact h.cell j u hu, fun j hj => by rw [World.frozen?_setCell]; exact h.mark j hj⟩
theorem RowL.put {b : Nat} {vs : List Value} {W : World} (h : RowL b vs W) (k : Nat) (v : Value) (hk : k < vs.length) : RowL b (vs.set k v) (W.setCell ⟨b, k, none⟩ v) :=
 ⟨by rw [World.size_setCell]; exact h.lt, fun j u hu => by
   by_cases e : j = k
   ·subst e
    rw [List.getElem?_set_self hk] at hu
    obtain rfl := Option.some.inj hu
    exact World.cell?_setCell_same' _ _ _ (by rw [h.cell j _ (List.getElem?_eq_getElem hk)]; rfl)
   ·rw [World.cell?_setCell_other _ _ _ _ (fun h2 => by
     have := congrArg Addr.off h2
     dsimp only at this
     omega)]
    exact h.cell j u (by rwa [List.getElem?_set_ne (Ne.symm e)] at hu), fun j hj => by rw [World.frozen?_setCell]; exact h.mark j (by simpa using hj)⟩
theorem RowL.isI {b : Nat} {zs : List Int} {W : World} (h : RowL b (zs.map (Value.int .i64)) W) {n : Nat} (hn : zs.length = n) : IsT 1 intCells W (some ⟨b, 0, none⟩) n zs := by
 refine ⟨hn, fun _ => ⟨b, 0, rfl, h.lt, fun j x hx i v hv => ?_⟩⟩
 have hi : i = 0 := by
  have := (List.getElem?_eq_some_iff.1 hv).1
  simp [intCells] at this; omega
 subst hi
 have hv' : v = .int .i64 x := by simpa [intCells] using hv.symm
 subst hv'
 rw [show (0 + j * 1 + 0 : Nat) = j by omega]
 exact h.cell j _ (by rw [List.getElem?_map, hx]; rfl)
theorem ZeroL.row {b n : Nat} {W : World} (h : ZeroL b n W) : RowL b (List.replicate n (.int .i64 0)) W :=
 ⟨h.lt, fun j v hv => by
  have hj := (List.getElem?_eq_some_iff.1 hv).1
  rw [List.length_replicate] at hj
  rw [List.getElem?_replicate, if_pos hj] at hv
  obtain rfl := Option.some.inj hv
  exact h.cell j hj, fun j hj => h.mark j (by simpa using hj)⟩
theorem fill_set (T : List Value) (n j : Nat) (z v : Value) (hl : T.length = n) (hv : T[j]? = some v) : (T.take j ++ List.replicate (n - j) z).set j v = T.take (j + 1) ++ List.replicate (n - (j + 1)) z := by
 obtain ⟨hj, rfl⟩ := List.getElem?_eq_some_iff.1 hv
 have h1 : (T.take j).length = j := by rw [List.length_take]; omega
 rw [List.set_append_right _ _ (by omega), h1, Nat.sub_self, show n - j = (n - (j + 1)) + 1 by omega, List.replicate_succ, List.set_cons_zero, List.take_succ_eq_append_getElem hj, List.append_assoc]; rfl
theorem push_new {ops : Array Oper} {o : Oper} {a : Act} {K : Act → World → Prop} {Q : Exit → Act → World → Prop} {E : Prop} {w : World} (B : Nat) (hgd : o.guard = none) (s x : Operand)
  (ho : o.op = .call { callee := .builtin .append, args := #[s, x], argTypes := #[30, 30] })
  (g : Nat) (hs : a.eval s = .slice (some ⟨g, 0, none⟩) 0 0) (hg : w.heap[g]? = some (.cells #[] 3 (0, 0))) (A : Option Addr) (len cap : Nat) (zs : List Int) (hx : a.eval x = .slice A len cap)
  (hI : IsT 1 intCells w A len zs) (hl : len ≤ 100000) (hB : B ≤ w.heap.size) (hBg : B ≤ g)
  (hk : ∀ A' cap' w', NewI B w' A' len cap' zs → (∀ a, A' = some a → a.block = g ∨ w.heap.size ≤ a.block) → Below w.heap.size w w' → K (a.put o.dst (.slice A' len cap')) w') :
  if Region.wanted o (yielded ops a.tmps) = true then Oper.wp Tryz.prog o a w K Q else E := by
 have hI0 : (Tryz.prog.info? 3).map (fun i => (i.zero, i.size, i.bytes)) = some (some (.int .i64 0), 1, 8) := by kernel_rfl
 obtain ⟨i0, hi, hz0, hz1, hz2⟩ := info_parts hI0
 have hw : Region.wanted o (yielded ops a.tmps) = true := by simp [Region.wanted, hgd]
 rw [if_pos hw]
 have hgl : g < w.heap.size := (Array.getElem?_eq_some_iff.1 hg).1
 have hown : w.ownsRow B 3 1 (.slice (some ⟨g, 0, none⟩) 0 0) 0 [] := ⟨rfl, Or.inr ⟨g, 0, #[], rfl, hBg, hg, Nat.le_refl _, Nat.zero_le _, rfl, rfl⟩⟩
 obtain ⟨v', w', hr, h2, h3⟩ := run_push (P := Tryz.prog) (w := w) B 30 o.type 3 i0 8 Tryz.underlying30 hi hz0 hz1 hz2 (.slice (some ⟨g, 0, none⟩) 0 0) 0 [] hown A len cap zs hI (by unfold maxLen; omega) (by omega) hB
 rw [List.nil_append, Nat.zero_add] at h2
 have hb : Below w.heap.size w w' ∧ (∀ A1 n1 c1, v' = .slice A1 n1 c1 → ∀ a, A1 = some a → a.block = g ∨ w.heap.size ≤ a.block) := by
  rcases Nat.eq_zero_or_pos len with h | h
  ·subst h
   have : (Builtin.append_ #[30, 30] o.type #[.slice (some ⟨g, 0, none⟩) 0 0, .slice A 0 cap]).run Tryz.prog w = .ok (.slice (some ⟨g, 0, none⟩) 0 0) w := by
    cases A <;> simp [Builtin.append_, run_underlying Tryz.underlying30, sizeOf, typeInfo, hi, Builtin.lenOf, Builtin.firstCells, storeCells, loadCells, loadCellsFrom, Result.andThen]
   rw [this] at hr
   injection hr with hv hr
   subst hr
   subst hv
   refine ⟨Below.refl _ _, fun A1 n1 c1 e a ha => ?_⟩
   injection e with e _ _
   subst e
   obtain rfl := Option.some.inj ha
   exact Or.inl rfl
  ·obtain ⟨b, p, rfl, hb, hcl⟩ := hI.2 h
   have hA : ∀ j u, (zs.map (Value.int .i64))[j]? = some u → w.cell? ((⟨b, p, none⟩ : Addr).add j) = some u := fun j u hu => by
    rw [List.getElem?_map] at hu
    obtain ⟨x, hx, rfl⟩ := Option.map_eq_some_iff.1 hu
    have := hcl j x hx 0 _ rfl
    cases j with
    | zero => simpa [Addr.add] using this
    | succ k => simpa [Addr.add] using this
   have := run_append_grow (P := Tryz.prog) (w := w) 30 o.type 3 i0 (.int .i64 0) Tryz.underlying30 hi hz0 ⟨g, 0, none⟩ 0 0 [] (by simp) (by simp) ⟨b, p, none⟩ len cap (zs.map (Value.int .i64)) (by rw [hz1, List.length_map, hI.1]; omega) hA (by omega) (by omega) (by rw [hz2]; exact growslice_fits (by omega) (by omega))
   rw [this] at hr
   injection hr with hv hr
   subst hr
   subst hv
   refine ⟨((Below.refl _ _).drew).alloc (Nat.le_refl _) _, fun A1 n1 c1 e a ha => ?_⟩
   injection e with e _ _
   subst e
   obtain rfl := Option.some.inj ha
   exact Or.inr (Nat.le_refl _)
 obtain ⟨A', cap', rfl, hN⟩ := newI_of_row hI.1 h2
 unfold Oper.wp execOp
 simp only [ho, resolve, invoke, builtin, Sem.run_bind, Sem.run_pure, Result.andThen_ok, List.map_toArray, List.map_cons, List.map_nil, hs, hx, hr]
 exact hk A' cap' w' hN (hb.2 A' _ _ rfl) hb.1
end
section
open Go.RowKit Go.Shelf
theorem resC {fn : Func} {a : Tmp} (h : fn.results = #[.cell a 32]) (tmps : Array Value) (W : World) (x : Nat) (v0 v1 v2 : Value)
  (hp : tmps.getD a undef = .pointer (some ⟨x, 0, none⟩)) (e0 : W.cell? ⟨x, 0, none⟩ = some v0) (e1 : W.cell? ⟨x, 1, none⟩ = some v1) (e2 : W.cell? ⟨x, 2, none⟩ = some v2) :
  (results fn tmps).run Tryz.prog W = .ok (.agg #[v0, v1, v2]) W := by
 have hp' : tmps[a]?.getD undef = .pointer (some ⟨x, 0, none⟩) := by simpa using hp
 simp [results, h, hp', go_sem, e0, e1, e2]
theorem resC3 {fn : Func} {p : Tmp} (h : fn.results = #[.cell p 32]) (tmps : Array Value) (W : World) (b : Nat) (x y z : Value)
  (hp : tmps.getD p undef = .pointer (some ⟨b, 0, none⟩)) (h0 : (W.cell? ⟨b, 0, none⟩).isSome = true) (h1 : (W.cell? ⟨b, 1, none⟩).isSome = true) (h2 : (W.cell? ⟨b, 2, none⟩).isSome = true) :
  (results fn tmps).run Tryz.prog (((W.setCell ⟨b, 0, none⟩ x).setCell ⟨b, 1, none⟩ y).setCell ⟨b, 2, none⟩ z) = .ok (.agg #[x, y, z]) (((W.setCell ⟨b, 0, none⟩ x).setCell ⟨b, 1, none⟩ y).setCell ⟨b, 2, none⟩ z) := by
 refine resC h tmps _ b x y z hp ?_ ?_ ?_
 ·rw [World.cell?_setCell_other _ _ _ _ (by simp), World.cell?_setCell_other _ _ _ _ (by simp)]; exact World.cell?_setCell_same' _ _ _ h0
 ·rw [World.cell?_setCell_other _ _ _ _ (by simp)]; exact World.cell?_setCell_same' _ _ _ (by rw [World.cell?_setCell_other _ _ _ _ (by simp)]; exact h1)
 ·exact World.cell?_setCell_same' _ _ _ (by rw [World.cell?_setCell_other _ _ _ _ (by simp), World.cell?_setCell_other _ _ _ _ (by simp)]; exact h2)
structure DarkAt (B : Nat) (w' : World) (A : Option Addr) (na ca : Nat) (z1 : List Int) (A2 : Option Addr) (nb cb : Nat) (z2 : List Int) (pb nc : Nat) : Prop where
 coils : NewI B w' A na ca z1
 shells : NewI B w' A2 nb cb z2
 base : B ≤ pb
 lt : pb < w'.heap.size
 apart : (∀ a, A = some a → a.block ≠ pb) ∧ ∀ a, A2 = some a → a.block ≠ pb
 zero : ZeroL pb nc w'
def Dark (na nb nc : Nat) (z1 z2 : List Int) (w : World) (e : Ending) (w' : World) : Prop :=
 ∃ (A : Option Addr) (ca : Nat) (A2 : Option Addr) (cb pb : Nat), e = .returned (.agg #[.slice A na ca, .slice A2 nb cb, .slice (some ⟨pb, 0, none⟩) nc nc]) ∧ DarkAt w.heap.size w' A na ca z1 A2 nb cb z2 pb nc ∧ Below w.heap.size w w'
theorem infoI : (Tryz.prog.info? 3).map (fun i => (i.zero, i.size, i.bytes)) = some (some (.int .i64 0), 1, 8) := by kernel_rfl
set_option maxRecDepth 100000 in
set_option maxHeartbeats 4000000 in
theorem dark_any (A1 B1 C1 : Option Addr) (na qa nb qb nc qc : Nat) (z1 z2 : List Int) (w : World) (h1 : IsT 1 intCells w A1 na z1) (h2 : IsT 1 intCells w B1 nb z2) (l1 : na ≤ 1000000000000) (l2 : nb ≤ 1000000000000) (l3 : nc ≤ 1000000000000) :
  Calls Tryz.prog 66 #[.agg #[.slice A1 na qa, .slice B1 nb qb, .slice C1 nc qc]] w (Dark na nb nc z1 z2 w) := by
 have HK1 := Lib.hid (fun W (hb : Below w.heap.size w W) => clone_any A1 na qa z1 W (h1.below hb) l1)
 have HK2 := Lib.hid (fun W (hb : Below w.heap.size w W) => clone_any B1 nb qb z2 W (h2.below hb) l2)
 clear h1 h2
 have hmk := run_make_row' (P := Tryz.prog) 30 3 (.int .i64 0) 8 Tryz.underlying30 infoI rfl .i64 .i64 nc (by omega) (by omega)
 go_enter Tryz.func66, Tryz.ntmps66
 go_upto_region 1 with (fail)
 have c0 : ((w.alloc (.cells #[.slice A1 na qa, .slice B1 nb qb, .slice C1 nc qc] 32)).alloc (.cells #[.slice none 0 0, .slice none 0 0, .slice none 0 0] 32)).cell? ⟨w.heap.size, 0, none⟩ = some (.slice A1 na qa) := by go_simp
 have c1 : ((w.alloc (.cells #[.slice A1 na qa, .slice B1 nb qb, .slice C1 nc qc] 32)).alloc (.cells #[.slice none 0 0, .slice none 0 0, .slice none 0 0] 32)).cell? ⟨w.heap.size, 1, none⟩ = some (.slice B1 nb qb) := by go_simp
 have c2 : ((w.alloc (.cells #[.slice A1 na qa, .slice B1 nb qb, .slice C1 nc qc] 32)).alloc (.cells #[.slice none 0 0, .slice none 0 0, .slice none 0 0] 32)).cell? ⟨w.heap.size, 2, none⟩ = some (.slice C1 nc qc) := by go_simp
 have d0 : ((w.alloc (.cells #[.slice A1 na qa, .slice B1 nb qb, .slice C1 nc qc] 32)).alloc (.cells #[.slice none 0 0, .slice none 0 0, .slice none 0 0] 32)).cell? ⟨w.heap.size + 1, 0, none⟩ = some (.slice none 0 0) := by go_simp
 have f0 : ((w.alloc (.cells #[.slice A1 na qa, .slice B1 nb qb, .slice C1 nc qc] 32)).alloc (.cells #[.slice none 0 0, .slice none 0 0, .slice none 0 0] 32)).frozen? ⟨w.heap.size + 1, 0, none⟩ = false := by go_simp
 have d1 : ((w.alloc (.cells #[.slice A1 na qa, .slice B1 nb qb, .slice C1 nc qc] 32)).alloc (.cells #[.slice none 0 0, .slice none 0 0, .slice none 0 0] 32)).cell? ⟨w.heap.size + 1, 1, none⟩ = some (.slice none 0 0) := by go_simp
 have f1 : ((w.alloc (.cells #[.slice A1 na qa, .slice B1 nb qb, .slice C1 nc qc] 32)).alloc (.cells #[.slice none 0 0, .slice none 0 0, .slice none 0 0] 32)).frozen? ⟨w.heap.size + 1, 1, none⟩ = false := by go_simp
 have d2 : ((w.alloc (.cells #[.slice A1 na qa, .slice B1 nb qb, .slice C1 nc qc] 32)).alloc (.cells #[.slice none 0 0, .slice none 0 0, .slice none 0 0] 32)).cell? ⟨w.heap.size + 1, 2, none⟩ = some (.slice none 0 0) := by go_simp
 have f2 : ((w.alloc (.cells #[.slice A1 na qa, .slice B1 nb qb, .slice C1 nc qc] 32)).alloc (.cells #[.slice none 0 0, .slice none 0 0, .slice none 0 0] 32)).frozen? ⟨w.heap.size + 1, 2, none⟩ = false := by go_simp
 have hB : Below w.heap.size w ((w.alloc (.cells #[.slice A1 na qa, .slice B1 nb qb, .slice C1 nc qc] 32)).alloc (.cells #[.slice none 0 0, .slice none 0 0, .slice none 0 0] 32)) := by (repeat first | with_reducible exact Below.refl _ _ | (with_reducible refine Below.alloc ?_ ?_ _; rotate_left; exact (by first | omega | (simp; done))))
 have hz : w.heap.size + 1 < ((w.alloc (.cells #[.slice A1 na qa, .slice B1 nb qb, .slice C1 nc qc] 32)).alloc (.cells #[.slice none 0 0, .slice none 0 0, .slice none 0 0] 32)).heap.size := by simp
 obtain ⟨W0, hW0⟩ : ∃ W, (w.alloc (.cells #[.slice A1 na qa, .slice B1 nb qb, .slice C1 nc qc] 32)).alloc (.cells #[.slice none 0 0, .slice none 0 0, .slice none 0 0] 32) = W := ⟨_, rfl⟩
 rw [hW0] at c0 c1 c2 d0 d1 d2 f0 f1 f2 hB hz ⊢
 clear hW0
 have HS : Hid (∀ w' : World, Reg (w.heap.size + 1) (W0) w' → (Reg (w.heap.size + 1) (W0) w' ∧ w'.cell? ⟨w.heap.size, 0, none⟩ = some (.slice A1 na qa) ∧ w'.cell? ⟨w.heap.size, 1, none⟩ = some (.slice B1 nb qb) ∧ w'.cell? ⟨w.heap.size, 2, none⟩ = some (.slice C1 nc qc) ∧ w'.cell? ⟨w.heap.size + 1, 0, none⟩ = some (cur w' ⟨w.heap.size + 1, 0, none⟩) ∧ w'.frozen? ⟨w.heap.size + 1, 0, none⟩ = false ∧ w'.cell? ⟨w.heap.size + 1, 1, none⟩ = some (cur w' ⟨w.heap.size + 1, 1, none⟩) ∧ w'.frozen? ⟨w.heap.size + 1, 1, none⟩ = false ∧ w'.cell? ⟨w.heap.size + 1, 2, none⟩ = some (cur w' ⟨w.heap.size + 1, 2, none⟩) ∧ w'.frozen? ⟨w.heap.size + 1, 2, none⟩ = false)) := (fun w' h => by (have hc := h.cells; have hs := h.some; have hf := h.frozen; refine ⟨h, ?_⟩; (try simp only [World.size_alloc, World.size_setCell, size_drew, size_drewN] at hc hs hf); first | (simp (disch := omega) only [hc, hs, hf, cur_iff]; (try go_simp); done) | (simp (disch := first | omega | (simp; done)) only [hc, hs, hf, cur_iff]; (try go_simp); done) | (simp (maxDischargeDepth := 4) [hc, hs, hf, cur_iff, go_sem]; done) | (go_simp; done) | (simp (maxDischargeDepth := 4) [hc, hs, hf, cur_iff, go_sem]; go_simp))); go_region_held3 (fun w' => Reg (w.heap.size + 1) (W0) w' ∧ w'.cell? ⟨w.heap.size, 0, none⟩ = some (.slice A1 na qa) ∧ w'.cell? ⟨w.heap.size, 1, none⟩ = some (.slice B1 nb qb) ∧ w'.cell? ⟨w.heap.size, 2, none⟩ = some (.slice C1 nc qc) ∧ w'.cell? ⟨w.heap.size + 1, 0, none⟩ = some (cur w' ⟨w.heap.size + 1, 0, none⟩) ∧ w'.frozen? ⟨w.heap.size + 1, 0, none⟩ = false ∧ w'.cell? ⟨w.heap.size + 1, 1, none⟩ = some (cur w' ⟨w.heap.size + 1, 1, none⟩) ∧ w'.frozen? ⟨w.heap.size + 1, 1, none⟩ = false ∧ w'.cell? ⟨w.heap.size + 1, 2, none⟩ = some (cur w' ⟨w.heap.size + 1, 2, none⟩) ∧ w'.frozen? ⟨w.heap.size + 1, 2, none⟩ = false) (exact HS.out _ (by (repeat first | with_reducible exact Reg.refl _ _ | with_reducible exact (‹Reg _ _ _ ∧ _›).1 | (with_reducible refine Reg.setCell ?_ ?_ _; rotate_left; exact (by (simp; done))) | with_reducible refine Reg.alloc ?_ _ | with_reducible refine Reg.drew ?_ | (with_reducible apply Reg.call; rotate_left; with_reducible assumption)))) (first | (go_at_call 109; (with_reducible refine (HK1.out _ (Reg.out (‹Reg _ _ _ ∧ _›).1 (by (repeat with_reducible assumption)) (by omega))).mono ?_); rintro e w8 ⟨Ac, cac, rfl, hnc, hb⟩; have hbc := hb; (first | (with_reducible have hk := Nat.lt_of_lt_of_le (size_alloc_lt _ _) hb.size) | skip); (try simp only [World.size_alloc, World.size_setCell, size_drew, size_drewN] at hk); obtain ⟨hc, hf⟩ := bcell hb; have hs := hb.size; (try simp only [World.size_alloc, World.size_setCell, size_drew, size_drewN] at hs)) | (go_at_call 109; (with_reducible refine (HK2.out _ (Reg.out (‹Reg _ _ _ ∧ _›).1 (by (repeat with_reducible assumption)) (by omega))).mono ?_); rintro e w9 ⟨As, cas, rfl, hns, hb⟩; have hbs := hb; (first | (with_reducible have hk := Nat.lt_of_lt_of_le (size_alloc_lt _ _) hb.size) | (with_reducible have hk := Nat.lt_of_lt_of_le hk hb.size) | skip); (try simp only [World.size_alloc, World.size_setCell, size_drew, size_drewN] at hk); obtain ⟨hc, hf⟩ := bcell hb; have hs := hb.size; (try simp only [World.size_alloc, World.size_setCell, size_drew, size_drewN] at hs)))
 all_goals go_wp2_with fail
 all_goals (have zz1 := hbc.size; have zz2 := hbs.size; (try simp only [World.size_alloc, World.size_setCell, size_drew, size_drewN] at zz1 zz2))
 all_goals (have q1 := hnc.new; have q2 := hnc.lt; have q3 := hns.new; have q4 := hns.lt; (try simp only [World.size_alloc, World.size_setCell, size_drew, size_drewN] at q1 q2 q3 q4))
 all_goals (have hnc0 := hnc.mono (B' := w.heap.size) (by (try simp only [World.size_alloc, World.size_setCell, size_drew, size_drewN]); omega); have hns0 := hns.mono (B' := w.heap.size) (by (try simp only [World.size_alloc, World.size_setCell, size_drew, size_drewN]); omega))
 all_goals exact bodyPost_ret (resC3 Tryz.results66 _ _ _ _ _ _ rfl ((Reg.some (x := w.heap.size + 1) (W := W0) (by (repeat first | with_reducible exact Reg.refl _ _ | with_reducible refine Reg.alloc ?_ _ | with_reducible refine Reg.drew ?_ | (with_reducible apply Reg.call; rotate_left; with_reducible assumption))) (w.heap.size + 1) 0 (by omega)).trans (by rw [d0]; rfl)) ((Reg.some (x := w.heap.size + 1) (W := W0) (by (repeat first | with_reducible exact Reg.refl _ _ | with_reducible refine Reg.alloc ?_ _ | with_reducible refine Reg.drew ?_ | (with_reducible apply Reg.call; rotate_left; with_reducible assumption))) (w.heap.size + 1) 1 (by omega)).trans (by rw [d1]; rfl)) ((Reg.some (x := w.heap.size + 1) (W := W0) (by (repeat first | with_reducible exact Reg.refl _ _ | with_reducible refine Reg.alloc ?_ _ | with_reducible refine Reg.drew ?_ | (with_reducible apply Reg.call; rotate_left; with_reducible assumption))) (w.heap.size + 1) 2 (by omega)).trans (by rw [d2]; rfl))) rfl ⟨_, _, _, _, _, rfl, ⟨(by (repeat first | with_reducible assumption | (with_reducible refine NewI.setCell ?_ (fun a ha => (by have h9 := q1 a ha; dsimp only; omega)) _) | with_reducible refine NewI.alloc ?_ _ | (with_reducible apply NewI.below; rotate_left; with_reducible assumption))), (by (repeat first | with_reducible assumption | (with_reducible refine NewI.setCell ?_ (fun a ha => (by have h9 := q3 a ha; dsimp only; omega)) _) | with_reducible refine NewI.alloc ?_ _)), (by (try simp only [World.size_alloc, World.size_setCell, size_drew, size_drewN]); omega), by (simp; try omega), ⟨fun a ha => (by have h9 := q1 a ha; have h8 := q2 a ha; (try simp only [World.size_alloc, World.size_setCell, size_drew, size_drewN]); omega), fun a ha => (by have h9 := q3 a ha; have h8 := q4 a ha; (try simp only [World.size_alloc, World.size_setCell, size_drew, size_drewN]); omega)⟩, by (repeat first | (with_reducible exact ZeroL.new _ _ _ (by omega)) | (with_reducible refine ZeroL.setCell ?_ (by dsimp only; omega) _) | with_reducible refine ZeroL.drew ?_ | (with_reducible apply ZeroL.below; rotate_left; with_reducible assumption))⟩, Reg.out (x := w.heap.size + 1) (by (repeat with_reducible exact (‹Reg _ _ _ ∧ _›).1)) hB (by omega)⟩
end
section
open Go.RowKit Go.Shelf
theorem blk_new {w : World} {g : Nat} {o : Obj} (h : g = w.heap.size) : (w.alloc o).heap[g]? = some o := by
 rw [h]; exact heap_alloc_new w o
theorem ZeroL.newAt {b n : Nat} {W : World} {t : TypeId} (h : b = W.heap.size) (hn : n ≤ 1000000000000) : ZeroL b n (W.alloc (.cells (madeCells #[.int .i64 0] n) t)) := by
 rw [h]; exact ZeroL.new W n t hn
theorem blk_alloc {w : World} {g : Nat} {o : Obj} (h : w.heap[g]? = some o) (c : Obj) : (w.alloc c).heap[g]? = some o :=
 (((Below.refl _ w).alloc (Nat.le_refl _) c).block g (Array.getElem?_eq_some_iff.1 h).1).trans h
theorem blk_drew {w : World} {g : Nat} {o : Obj} (h : w.heap[g]? = some o) : w.drew.heap[g]? = some o := h
theorem blk_below {w w' : World} {g : Nat} {o : Obj} (h : w.heap[g]? = some o) (hb : Below w.heap.size w w') : w'.heap[g]? = some o :=
 (hb.block g (Array.getElem?_eq_some_iff.1 h).1).trans h
set_option maxRecDepth 100000 in
set_option maxHeartbeats 8000000 in
theorem rdark_any (R : MachR) (M : MachD) (A1 B1 C1 : Option Addr) (na qa nb qb nc qc : Nat) (z1 z2 : List Int) (w : World) (h1 : IsT 1 intCells w A1 na z1) (h2 : IsT 1 intCells w B1 nb z2) (l1 : na ≤ 1000) (l2 : nb ≤ 1000) (l3 : nc ≤ 1000) :
  Calls Tryz.prog 55 #[.agg (machCells R M), .agg #[.slice A1 na qa, .slice B1 nb qb, .slice C1 nc qc]] w (Dark na nb nc z1 z2 w) := by
 have HI1 := Lib.hid (fun W (hb : Below w.heap.size w W) => h1.below hb)
 have HI2 := Lib.hid (fun W (hb : Below w.heap.size w W) => h2.below hb)
 clear h1 h2
 have hmk := run_make_row' (P := Tryz.prog) 30 3 (.int .i64 0) 8 Tryz.underlying30 infoI rfl .i64 .i64 nc (by omega) (by omega)
 obtain ⟨A, B, Cl, D, la, ca, lb, cb, lc, cl, ld, cd⟩ := R
 obtain ⟨name, coils, shells, limits, ⟨r, z, nr, nz, step⟩, sensors⟩ := M
 show Calls Tryz.prog 55 #[.agg #[.string name, .slice A la ca, .slice B lb cb, .slice Cl lc cl, .int .i64 r, .int .i64 z, .int .i64 nr, .int .i64 nz, .int .i64 step, .slice D ld cd], .agg #[.slice A1 na qa, .slice B1 nb qb, .slice C1 nc qc]] w _
 go_enter Tryz.func55, Tryz.ntmps55
 go_upto_region 1 with (fail)
 have Fm : Hid (RowL (w.heap.size) [.string name, .slice A la ca, .slice B lb cb, .slice Cl lc cl, .int .i64 r, .int .i64 z, .int .i64 nr, .int .i64 nz, .int .i64 step, .slice D ld cd] (((w.alloc (.cells #[.string name, .slice A la ca, .slice B lb cb, .slice Cl lc cl, .int .i64 r, .int .i64 z, .int .i64 nr, .int .i64 nz, .int .i64 step, .slice D ld cd] 29)).alloc (.cells #[.slice A1 na qa, .slice B1 nb qb, .slice C1 nc qc] 32)).alloc (.cells #[.slice none 0 0, .slice none 0 0, .slice none 0 0] 32))) := Lib.hid (by have h := RowL.new w #[.string name, .slice A la ca, .slice B lb cb, .slice Cl lc cl, .int .i64 r, .int .i64 z, .int .i64 nr, .int .i64 nz, .int .i64 step, .slice D ld cd] 29; (try simp only [World.size_alloc] at h); exact ((h.alloc _).alloc _))
 have Fc : Hid (RowL (w.heap.size + 1) [.slice A1 na qa, .slice B1 nb qb, .slice C1 nc qc] (((w.alloc (.cells #[.string name, .slice A la ca, .slice B lb cb, .slice Cl lc cl, .int .i64 r, .int .i64 z, .int .i64 nr, .int .i64 nz, .int .i64 step, .slice D ld cd] 29)).alloc (.cells #[.slice A1 na qa, .slice B1 nb qb, .slice C1 nc qc] 32)).alloc (.cells #[.slice none 0 0, .slice none 0 0, .slice none 0 0] 32))) := Lib.hid (by have h := RowL.new (w.alloc (.cells #[.string name, .slice A la ca, .slice B lb cb, .slice Cl lc cl, .int .i64 r, .int .i64 z, .int .i64 nr, .int .i64 nz, .int .i64 step, .slice D ld cd] 29)) #[.slice A1 na qa, .slice B1 nb qb, .slice C1 nc qc] 32; (try simp only [World.size_alloc] at h); exact (h.alloc _))
 have Ft : Hid (RowL (w.heap.size + 1 + 1) [.slice none 0 0, .slice none 0 0, .slice none 0 0] (((w.alloc (.cells #[.string name, .slice A la ca, .slice B lb cb, .slice Cl lc cl, .int .i64 r, .int .i64 z, .int .i64 nr, .int .i64 nz, .int .i64 step, .slice D ld cd] 29)).alloc (.cells #[.slice A1 na qa, .slice B1 nb qb, .slice C1 nc qc] 32)).alloc (.cells #[.slice none 0 0, .slice none 0 0, .slice none 0 0] 32))) := Lib.hid (by have h := RowL.new ((w.alloc (.cells #[.string name, .slice A la ca, .slice B lb cb, .slice Cl lc cl, .int .i64 r, .int .i64 z, .int .i64 nr, .int .i64 nz, .int .i64 step, .slice D ld cd] 29)).alloc (.cells #[.slice A1 na qa, .slice B1 nb qb, .slice C1 nc qc] 32)) #[.slice none 0 0, .slice none 0 0, .slice none 0 0] 32; (try simp only [World.size_alloc] at h); exact h)
 have hB0 : Below w.heap.size w (((w.alloc (.cells #[.string name, .slice A la ca, .slice B lb cb, .slice Cl lc cl, .int .i64 r, .int .i64 z, .int .i64 nr, .int .i64 nz, .int .i64 step, .slice D ld cd] 29)).alloc (.cells #[.slice A1 na qa, .slice B1 nb qb, .slice C1 nc qc] 32)).alloc (.cells #[.slice none 0 0, .slice none 0 0, .slice none 0 0] 32)) := by (with_reducible repeat first | exact Below.refl _ _ | assumption | ((first | refine Below.setCell ?_ ?_ _ | refine Below.alloc ?_ ?_ _); rotate_left; exact (by first | omega | (simp; done) | (simp; omega))) | refine Below.drew ?_ | refine Below_drewN ?_ _)
 have sW0 : w.heap.size + 1 + 1 < (((w.alloc (.cells #[.string name, .slice A la ca, .slice B lb cb, .slice Cl lc cl, .int .i64 r, .int .i64 z, .int .i64 nr, .int .i64 nz, .int .i64 step, .slice D ld cd] 29)).alloc (.cells #[.slice A1 na qa, .slice B1 nb qb, .slice C1 nc qc] 32)).alloc (.cells #[.slice none 0 0, .slice none 0 0, .slice none 0 0] 32)).heap.size := by simp only [World.size_alloc]; omega
 obtain ⟨W0, hW0⟩ : ∃ W, (((w.alloc (.cells #[.string name, .slice A la ca, .slice B lb cb, .slice Cl lc cl, .int .i64 r, .int .i64 z, .int .i64 nr, .int .i64 nz, .int .i64 step, .slice D ld cd] 29)).alloc (.cells #[.slice A1 na qa, .slice B1 nb qb, .slice C1 nc qc] 32)).alloc (.cells #[.slice none 0 0, .slice none 0 0, .slice none 0 0] 32)) = W := ⟨_, rfl⟩
 rw [hW0] at Fm Fc Ft hB0 sW0 ⊢
 clear hW0
 have m0 := Fm.out.cell 0 (.string name) rfl
 have m1 := Fm.out.cell 1 (.slice A la ca) rfl
 have m2 := Fm.out.cell 2 (.slice B lb cb) rfl
 have m3 := Fm.out.cell 3 (.slice Cl lc cl) rfl
 have m4 := Fm.out.cell 4 (.int .i64 r) rfl
 have m5 := Fm.out.cell 5 (.int .i64 z) rfl
 have m6 := Fm.out.cell 6 (.int .i64 nr) rfl
 have m7 := Fm.out.cell 7 (.int .i64 nz) rfl
 have m8 := Fm.out.cell 8 (.int .i64 step) rfl
 have m9 := Fm.out.cell 9 (.slice D ld cd) rfl
 have c0 := Fc.out.cell 0 (.slice A1 na qa) rfl
 have c1 := Fc.out.cell 1 (.slice B1 nb qb) rfl
 have c2 := Fc.out.cell 2 (.slice C1 nc qc) rfl
 have t0 := Ft.out.cell 0 (.slice none 0 0) rfl
 have tf0 := Ft.out.mark 0 (by simp)
 have t1 := Ft.out.cell 1 (.slice none 0 0) rfl
 have tf1 := Ft.out.mark 1 (by simp)
 have t2 := Ft.out.cell 2 (.slice none 0 0) rfl
 have tf2 := Ft.out.mark 2 (by simp)
 clear Fm Fc m0 m1 m2 m3 m4 m5 m6 m7 m8 m9
 have HS : Hid (∀ w' : World, Reg (w.heap.size + 1 + 1) (W0) w' → (Reg (w.heap.size + 1 + 1) (W0) w' ∧ w'.cell? ⟨w.heap.size + 1, 0, none⟩ = some (.slice A1 na qa) ∧ w'.cell? ⟨w.heap.size + 1, 1, none⟩ = some (.slice B1 nb qb) ∧ w'.cell? ⟨w.heap.size + 1, 2, none⟩ = some (.slice C1 nc qc) ∧ w'.cell? ⟨w.heap.size + 1 + 1, 0, none⟩ = some (cur w' ⟨w.heap.size + 1 + 1, 0, none⟩) ∧ w'.frozen? ⟨w.heap.size + 1 + 1, 0, none⟩ = false ∧ w'.cell? ⟨w.heap.size + 1 + 1, 1, none⟩ = some (cur w' ⟨w.heap.size + 1 + 1, 1, none⟩) ∧ w'.frozen? ⟨w.heap.size + 1 + 1, 1, none⟩ = false ∧ w'.cell? ⟨w.heap.size + 1 + 1, 2, none⟩ = some (cur w' ⟨w.heap.size + 1 + 1, 2, none⟩) ∧ w'.frozen? ⟨w.heap.size + 1 + 1, 2, none⟩ = false)) := (fun w' h => by (have hc := h.cells; have hs := h.some; have hf := h.frozen; refine ⟨h, ?_⟩; (try simp only [World.size_alloc, World.size_setCell, size_drew, size_drewN] at hc hs hf); first | (simp (disch := omega) only [hc, hs, hf, cur_iff]; (try go_simp); done) | (simp (disch := first | omega | (simp; done)) only [hc, hs, hf, cur_iff]; (try go_simp); done) | (simp (maxDischargeDepth := 4) [hc, hs, hf, cur_iff, go_sem]; done) | (go_simp; done) | (simp (maxDischargeDepth := 4) [hc, hs, hf, cur_iff, go_sem]; go_simp))); go_region_held3 (fun w' => Reg (w.heap.size + 1 + 1) (W0) w' ∧ w'.cell? ⟨w.heap.size + 1, 0, none⟩ = some (.slice A1 na qa) ∧ w'.cell? ⟨w.heap.size + 1, 1, none⟩ = some (.slice B1 nb qb) ∧ w'.cell? ⟨w.heap.size + 1, 2, none⟩ = some (.slice C1 nc qc) ∧ w'.cell? ⟨w.heap.size + 1 + 1, 0, none⟩ = some (cur w' ⟨w.heap.size + 1 + 1, 0, none⟩) ∧ w'.frozen? ⟨w.heap.size + 1 + 1, 0, none⟩ = false ∧ w'.cell? ⟨w.heap.size + 1 + 1, 1, none⟩ = some (cur w' ⟨w.heap.size + 1 + 1, 1, none⟩) ∧ w'.frozen? ⟨w.heap.size + 1 + 1, 1, none⟩ = false ∧ w'.cell? ⟨w.heap.size + 1 + 1, 2, none⟩ = some (cur w' ⟨w.heap.size + 1 + 1, 2, none⟩) ∧ w'.frozen? ⟨w.heap.size + 1 + 1, 2, none⟩ = false) (exact HS.out _ (by (repeat first | with_reducible exact Reg.refl _ _ | with_reducible exact Reg.drewN2 _ _ _ _ | with_reducible exact (‹Reg _ _ _ ∧ _›).1 | (with_reducible refine Reg.setCell ?_ ?_ _; rotate_left; exact (by first | omega | ((try simp only [World.size_alloc, World.size_setCell, size_drew, size_drewN]); omega) | (simp; done) | (simp; omega))) | with_reducible refine Reg.alloc ?_ _ | with_reducible refine Reg.drew ?_ | with_reducible refine Reg.drewN ?_ _ | (with_reducible apply Reg.call; rotate_left; with_reducible assumption)))) (first | (refine push_new W0.heap.size rfl (Operand.tmp 5) (Operand.tmp 7) rfl _ rfl (by (repeat first | exact blk_new (by first | omega | ((try simp only [World.size_alloc, World.size_setCell, size_drew, size_drewN]); omega) | (simp; done) | (simp; omega)) | with_reducible refine blk_alloc ?_ _ | with_reducible refine blk_drew ?_ | (with_reducible apply blk_below; rotate_left; with_reducible assumption))) A1 na qa z1 rfl (HI1.out _ (Reg.out (x := w.heap.size + 1 + 1) (by (repeat first | with_reducible exact Reg.refl _ _ | with_reducible exact Reg.drewN2 _ _ _ _ | with_reducible exact (‹Reg _ _ _ ∧ _›).1 | (with_reducible refine Reg.setCell ?_ ?_ _; rotate_left; exact (by first | omega | ((try simp only [World.size_alloc, World.size_setCell, size_drew, size_drewN]); omega) | (simp; done) | (simp; omega))) | with_reducible refine Reg.alloc ?_ _ | with_reducible refine Reg.drew ?_ | with_reducible refine Reg.drewN ?_ _ | (with_reducible apply Reg.call; rotate_left; with_reducible assumption))) hB0 (by first | omega | (simp; done) | (simp; omega)))) (by omega) (by (try simp only [World.size_alloc, World.size_setCell, size_drew, size_drewN]); omega) (by (try simp only [World.size_alloc, World.size_setCell, size_drew, size_drewN]); omega) ?_; intro Ac cac w8 hnc hac hbc; have hb := hbc; (first | (with_reducible have hk := Nat.lt_of_lt_of_le (size_alloc_lt _ _) hb.size) | (with_reducible have hk := Nat.lt_of_lt_of_le (size_alloc_drew_lt _ _) hb.size) | (with_reducible have hk := Nat.lt_of_lt_of_le hk hb.size) | skip); (try simp only [World.size_alloc, World.size_setCell, size_drew, size_drewN] at hk); obtain ⟨hc, hf⟩ := bcell hb; have hs := hb.size; (try simp only [World.size_alloc, World.size_setCell, size_drew, size_drewN] at hs); clear hb) | (refine push_new W0.heap.size rfl (Operand.tmp 9) (Operand.tmp 11) rfl _ rfl (by (repeat first | exact blk_new (by first | omega | ((try simp only [World.size_alloc, World.size_setCell, size_drew, size_drewN]); omega) | (simp; done) | (simp; omega)) | with_reducible refine blk_alloc ?_ _ | with_reducible refine blk_drew ?_ | (with_reducible apply blk_below; rotate_left; with_reducible assumption))) B1 nb qb z2 rfl (HI2.out _ (Reg.out (x := w.heap.size + 1 + 1) (by (repeat first | with_reducible exact Reg.refl _ _ | with_reducible exact Reg.drewN2 _ _ _ _ | with_reducible exact (‹Reg _ _ _ ∧ _›).1 | (with_reducible refine Reg.setCell ?_ ?_ _; rotate_left; exact (by first | omega | ((try simp only [World.size_alloc, World.size_setCell, size_drew, size_drewN]); omega) | (simp; done) | (simp; omega))) | with_reducible refine Reg.alloc ?_ _ | with_reducible refine Reg.drew ?_ | with_reducible refine Reg.drewN ?_ _ | (with_reducible apply Reg.call; rotate_left; with_reducible assumption))) hB0 (by first | omega | (simp; done) | (simp; omega)))) (by omega) (by (try simp only [World.size_alloc, World.size_setCell, size_drew, size_drewN]); omega) (by (try simp only [World.size_alloc, World.size_setCell, size_drew, size_drewN]); omega) ?_; intro As cas w9 hns has hbs; have hb := hbs; (first | (with_reducible have hk := Nat.lt_of_lt_of_le (size_alloc_lt _ _) hb.size) | (with_reducible have hk := Nat.lt_of_lt_of_le (size_alloc_drew_lt _ _) hb.size) | (with_reducible have hk := Nat.lt_of_lt_of_le hk hb.size) | skip); (try simp only [World.size_alloc, World.size_setCell, size_drew, size_drewN] at hk); obtain ⟨hc, hf⟩ := bcell hb; have hs := hb.size; (try simp only [World.size_alloc, World.size_setCell, size_drew, size_drewN] at hs); clear hb))
 all_goals go_wp2_with fail
 all_goals (have zz1 := hbc.size; have zz2 := hbs.size; (try simp only [World.size_alloc, World.size_setCell, size_drew, size_drewN] at zz1 zz2))
 all_goals (have q1 := hnc.new; have q2 := hnc.lt; have q3 := hns.new; have q4 := hns.lt; (try simp only [World.size_alloc, World.size_setCell, size_drew, size_drewN] at q1 q2 q3 q4 hac has))
 all_goals (have hnc0 := hnc.mono (B' := w.heap.size) (by (try simp only [World.size_alloc, World.size_setCell, size_drew, size_drewN]); omega); have hns0 := hns.mono (B' := w.heap.size) (by (try simp only [World.size_alloc, World.size_setCell, size_drew, size_drewN]); omega))
 all_goals exact bodyPost_ret (resC3 Tryz.results55 _ _ _ _ _ _ rfl ((Reg.some (x := w.heap.size + 1 + 1) (W := W0) (by (repeat first | with_reducible exact Reg.refl _ _ | with_reducible exact Reg.drewN2 _ _ _ _ | with_reducible exact (‹Reg _ _ _ ∧ _›).1 | (with_reducible refine Reg.setCell ?_ ?_ _; rotate_left; exact (by first | omega | ((try simp only [World.size_alloc, World.size_setCell, size_drew, size_drewN]); omega) | (simp; done) | (simp; omega))) | with_reducible refine Reg.alloc ?_ _ | with_reducible refine Reg.drew ?_ | with_reducible refine Reg.drewN ?_ _ | (with_reducible apply Reg.call; rotate_left; with_reducible assumption))) (w.heap.size + 1 + 1) 0 (by omega)).trans (by rw [t0]; rfl)) ((Reg.some (x := w.heap.size + 1 + 1) (W := W0) (by (repeat first | with_reducible exact Reg.refl _ _ | with_reducible exact Reg.drewN2 _ _ _ _ | with_reducible exact (‹Reg _ _ _ ∧ _›).1 | (with_reducible refine Reg.setCell ?_ ?_ _; rotate_left; exact (by first | omega | ((try simp only [World.size_alloc, World.size_setCell, size_drew, size_drewN]); omega) | (simp; done) | (simp; omega))) | with_reducible refine Reg.alloc ?_ _ | with_reducible refine Reg.drew ?_ | with_reducible refine Reg.drewN ?_ _ | (with_reducible apply Reg.call; rotate_left; with_reducible assumption))) (w.heap.size + 1 + 1) 1 (by omega)).trans (by rw [t1]; rfl)) ((Reg.some (x := w.heap.size + 1 + 1) (W := W0) (by (repeat first | with_reducible exact Reg.refl _ _ | with_reducible exact Reg.drewN2 _ _ _ _ | with_reducible exact (‹Reg _ _ _ ∧ _›).1 | (with_reducible refine Reg.setCell ?_ ?_ _; rotate_left; exact (by first | omega | ((try simp only [World.size_alloc, World.size_setCell, size_drew, size_drewN]); omega) | (simp; done) | (simp; omega))) | with_reducible refine Reg.alloc ?_ _ | with_reducible refine Reg.drew ?_ | with_reducible refine Reg.drewN ?_ _ | (with_reducible apply Reg.call; rotate_left; with_reducible assumption))) (w.heap.size + 1 + 1) 2 (by omega)).trans (by rw [t2]; rfl))) rfl ⟨_, _, _, _, _, rfl, ⟨(by (repeat first | with_reducible assumption | (with_reducible refine NewI.setCell ?_ (fun a ha => (by have h9 := q1 a ha; dsimp only; omega)) _) | with_reducible refine NewI.alloc ?_ _ | with_reducible refine NewI.drew ?_ | (with_reducible apply NewI.below; rotate_left; with_reducible assumption))), (by (repeat first | with_reducible assumption | (with_reducible refine NewI.setCell ?_ (fun a ha => (by have h9 := q3 a ha; dsimp only; omega)) _) | with_reducible refine NewI.alloc ?_ _ | with_reducible refine NewI.drew ?_ | (with_reducible apply NewI.below; rotate_left; with_reducible assumption))), (by (try simp only [World.size_alloc, World.size_setCell, size_drew, size_drewN]); omega), by (simp; try omega), ⟨fun a ha => (by have h9 := q1 a ha; have h8 := q2 a ha; have h7 := hac a ha; (try simp only [World.size_alloc, World.size_setCell, size_drew, size_drewN]); omega), fun a ha => (by have h9 := q3 a ha; have h8 := q4 a ha; have h7 := has a ha; (try simp only [World.size_alloc, World.size_setCell, size_drew, size_drewN]); omega)⟩, by (repeat first | with_reducible assumption | (with_reducible refine ZeroL.newAt ?_ ?_; exact (by first | omega | ((try simp only [World.size_alloc, World.size_setCell, size_drew, size_drewN]); omega) | (simp; done) | (simp; omega)); omega) | (with_reducible refine ZeroL.setCell ?_ (by dsimp only; omega) _) | with_reducible refine ZeroL.alloc ?_ _ | with_reducible refine ZeroL.drew ?_ | (with_reducible apply ZeroL.below; rotate_left; with_reducible assumption))⟩, Reg.out (x := w.heap.size + 1 + 1) (by (repeat first | with_reducible exact Reg.refl _ _ | with_reducible exact Reg.drewN2 _ _ _ _ | with_reducible exact (‹Reg _ _ _ ∧ _›).1 | (with_reducible refine Reg.setCell ?_ ?_ _; rotate_left; exact (by first | omega | ((try simp only [World.size_alloc, World.size_setCell, size_drew, size_drewN]); omega) | (simp; done) | (simp; omega))) | with_reducible refine Reg.alloc ?_ _ | with_reducible refine Reg.drew ?_ | with_reducible refine Reg.drewN ?_ _ | (with_reducible apply Reg.call; rotate_left; with_reducible assumption))) hB0 (by omega)⟩
end
end Go.Proofs.YtapldonpflgnfaaGreatDoor
