import Derived.Test.YtjjajleiladbhaaGreatDoorKAR
import Derived.Test.YtjjajleiladbhaaGreatDoorKBF
import Derived.Test.YtjjajleiladbhaaGreatDoorRows
import Derived.KernelRfl
import Derived.Laws.StructEq
section
/- MachineMirrored: the law's walk, over this seat's translation (written by ax_lm.py). -/
namespace Go.Proofs.YtjjajleiladbhaaGreatDoor
set_option linter.unusedVariables false
set_option linter.unusedSimpArgs false
open Go.RowKit

set_option maxRecDepth 100000 in
theorem mirrored_bad (R : MachR) (M : MachD) (Q : CurR) (C : CurD) (p0 p1 : Int) (W : World) (hE : Env W) (hM : R.la ≤ 1000000000000000 → R.lb ≤ 1000000000000000 → R.lc ≤ 1000000000000000 → R.ld ≤ 1000000000000000 → IsM W R M) (hC : OpC W Q C) (hv : validC M C = false) : Calls Tryz.prog 11 #[(.agg (machCells R M)), Q.v, (.agg #[.int .i64 p0, .int .i64 p1])] W (Ret (.bool true) W) := by
  refine calls_ax (vs := [(.agg (machCells R M)), Q.v, (.agg #[.int .i64 p0, .int .i64 p1])]) Tryz.func11 rfl rfl ?_
  refine ac_seq ?_
  refine ac_region ?_
  refine al_new (fun b => .pointer (some ⟨b, 0, none⟩)) (r_box rfl rfl) rfl rfl rfl ?_
  intro b1
  refine al_new (fun b => .pointer (some ⟨b, 0, none⟩)) (r_box rfl rfl) rfl rfl rfl ?_
  intro b2
  refine al_new (fun b => .pointer (some ⟨b, 0, none⟩)) (r_box rfl rfl) rfl rfl rfl ?_
  intro b3
  refine al_q (q_assign rfl) rfl rfl rfl ?_
  refine al_end ?_
  refine aq_then ?_
  refine ac_seq ?_
  refine ac_seq ?_
  refine ac_region ?_
  refine al_q (q_loadAll (i := 2) rfl rfl Tryz.isAgg29 Tryz.sizeOf29 rfl) rfl rfl rfl ?_
  refine al_q (q_loadAll (i := 1) rfl rfl Tryz.isAgg34 Tryz.sizeOf34 rfl) rfl rfl rfl ?_
  refine al_call Tryz.call16 (.cons rfl (.cons rfl .nil)) rfl rfl (fun w1 hs1 => ?_)
  refine (brief2_any R M Q _).mono ?_
  rintro e u1 ⟨rfl, hb_1⟩
  refine ⟨_, rfl, hb_1, ?_⟩
  clear hs1
  refine al_q (q_not rfl) rfl rfl rfl ?_
  refine al_end ?_
  refine aq_then ?_
  refine ac_cond rfl (fun h1 => ?_) (fun h1 => ?_)
  · skip
    refine ac_seq ?_
    refine ac_region ?_
    refine al_call Tryz.call19 .nil rfl rfl (fun w2 hs2 => ?_)
    refine (awake2_any _ (hE.below hs2.below)).mono ?_
    rintro e u2 ⟨rfl, hb_2⟩
    refine ⟨_, rfl, hb_2, ?_⟩
    clear hs2
    refine al_q (q_assign rfl) rfl rfl rfl ?_
    refine al_end ?_
    refine aq_then ?_
    refine ac_ret ?_
    refine aq_thenR ?_
    refine ret1 Tryz.results11 rfl (fun w9 hs => ?_)
    exact ⟨rfl, hs.below⟩
  · have hbf := brief2_iff.1 (show brief2 R Q = true by simpa using h1)
    have hM := hM (by omega) (by omega) (by omega) (by omega)
    have hC := hC.isC (by omega) (by omega) (by omega)
    refine ac_skip ?_
    refine aq_then ?_
    refine ac_seq ?_
    refine ac_region ?_
    refine al_q (q_loadAll (i := 2) rfl rfl Tryz.isAgg29 Tryz.sizeOf29 rfl) rfl rfl rfl ?_
    refine al_q (q_loadAll (i := 1) rfl rfl Tryz.isAgg34 Tryz.sizeOf34 rfl) rfl rfl rfl ?_
    refine al_call Tryz.call53 (.cons rfl (.cons rfl .nil)) rfl rfl (fun w3 hs3 => ?_)
    refine (mirror_bad R M Q C _ (hM.below hs3.below) (hC.below hs3.below) hv).mono ?_
    rintro e u3 ⟨rfl, hb_3⟩
    refine ⟨_, rfl, hb_3, ?_⟩
    clear hs3
    refine al_q (q_move rfl) rfl rfl rfl ?_
    refine al_q (q_extract rfl rfl) rfl rfl rfl ?_
    refine al_q (q_extract rfl rfl) rfl rfl rfl ?_
    refine al_q (q_extract rfl rfl) rfl rfl rfl ?_
    refine al_new (fun b => .pointer (some ⟨b, 0, none⟩)) (r_alloc Tryz.zeroValue29 rfl) rfl rfl rfl ?_
    intro b4
    refine al_new (fun b => .pointer (some ⟨b, 0, none⟩)) (r_alloc Tryz.zeroValue34 rfl) rfl rfl rfl ?_
    intro b5
    refine al_storeAll (i := 1) rfl rfl rfl rfl Tryz.sizeOf29 rfl rfl .k1 rfl ?_
    refine al_storeAll (i := 0) rfl rfl rfl rfl Tryz.sizeOf34 rfl rfl .k0 rfl ?_
    refine al_q (q_assign rfl) rfl rfl rfl ?_
    refine al_end ?_
    refine aq_then ?_
    refine ac_seq ?_
    refine ac_region ?_
    refine al_q (q_loadAll (i := 4) rfl rfl Tryz.isAgg29 Tryz.sizeOf29 rfl) rfl rfl rfl ?_
    refine al_q (q_loadAll (i := 3) rfl rfl Tryz.isAgg34 Tryz.sizeOf34 rfl) rfl rfl rfl ?_
    refine al_q (q_loadAll (i := 2) rfl rfl Tryz.isAgg40 Tryz.sizeOf40 rfl) rfl rfl rfl ?_
    refine al_call Tryz.call42 (.cons rfl (.cons rfl (.cons rfl .nil))) rfl rfl (fun w4 hs4 => ?_)
    refine (flux_any R M Q C p0 p1 _ (hM.below hs4.below) (hC.below hs4.below)).mono ?_
    rintro e u4 ⟨rfl, hb_4⟩
    refine ⟨_, rfl, hb_4, ?_⟩
    clear hs4
    refine al_q (q_move rfl) rfl rfl rfl ?_
    refine al_q (q_extract rfl rfl) rfl rfl rfl ?_
    refine al_q (q_extract rfl rfl) rfl rfl rfl ?_
    refine al_q (q_assign rfl) rfl rfl rfl ?_
    refine al_q (q_assign rfl) rfl rfl rfl ?_
    refine al_end ?_
    refine aq_then ?_
    refine ac_seq ?_
    refine ac_region ?_
    refine al_q (q_loadAll (i := 4) rfl rfl Tryz.isAgg29 Tryz.sizeOf29 rfl) rfl rfl rfl ?_
    refine al_q (q_loadAll (i := 3) rfl rfl Tryz.isAgg34 Tryz.sizeOf34 rfl) rfl rfl rfl ?_
    refine al_q (q_loadAll (i := 2) rfl rfl Tryz.isAgg40 Tryz.sizeOf40 rfl) rfl rfl rfl ?_
    refine al_call Tryz.call44 (.cons rfl (.cons rfl (.cons rfl .nil))) rfl rfl (fun w5 hs5 => ?_)
    refine (field_any R M Q C p0 p1 _ (hM.below hs5.below) (hC.below hs5.below)).mono ?_
    rintro e u5 ⟨rfl, hb_5⟩
    refine ⟨_, rfl, hb_5, ?_⟩
    clear hs5
    refine al_q (q_move rfl) rfl rfl rfl ?_
    refine al_q (q_extract rfl rfl) rfl rfl rfl ?_
    refine al_q (q_extract rfl rfl) rfl rfl rfl ?_
    refine al_q (q_extract rfl rfl) rfl rfl rfl ?_
    refine al_q (q_assign rfl) rfl rfl rfl ?_
    refine al_q (q_assign rfl) rfl rfl rfl ?_
    refine al_q (q_assign rfl) rfl rfl rfl ?_
    refine al_end ?_
    refine aq_then ?_
    refine ac_seq ?_
    refine ac_seq ?_
    refine ac_region ?_
    refine al_q (q_move rfl) rfl rfl rfl ?_
    refine al_q (q_same (v' := .bool true) (q_neq rfl rfl) (by simp)) rfl rfl rfl ?_
    refine al_q (q_move rfl) rfl rfl rfl ?_
    refine al_skip rfl rfl rfl ?_
    refine al_skip rfl rfl rfl ?_
    refine al_q (q_pickT rfl rfl) rfl rfl rfl ?_
    refine al_q (q_move rfl) rfl rfl rfl ?_
    refine al_skip rfl rfl rfl ?_
    refine al_skip rfl rfl rfl ?_
    refine al_q (q_pickT rfl rfl) rfl rfl rfl ?_
    refine al_end ?_
    refine aq_then ?_
    refine ac_condT rfl ?_
    refine ac_seq ?_
    refine ac_region ?_
    refine al_call Tryz.call19 .nil rfl rfl (fun w6 hs6 => ?_)
    refine (awake2_any _ (hE.below hs6.below)).mono ?_
    rintro e u6 ⟨rfl, hb_6⟩
    refine ⟨_, rfl, hb_6, ?_⟩
    clear hs6
    refine al_q (q_assign rfl) rfl rfl rfl ?_
    refine al_end ?_
    refine aq_then ?_
    refine ac_ret ?_
    refine aq_thenR ?_
    refine ret1 Tryz.results11 rfl (fun w9 hs => ?_)
    exact ⟨rfl, hs.below⟩

set_option maxRecDepth 100000 in
theorem mirrored_far (R : MachR) (M : MachD) (Q : CurR) (C : CurD) (p0 p1 : Int) (W : World) (hE : Env W) (hM : R.la ≤ 1000000000000000 → R.lb ≤ 1000000000000000 → R.lc ≤ 1000000000000000 → R.ld ≤ 1000000000000000 → IsM W R M) (hC : OpC W Q C) (hf : Fit2 M C) (hn : nearB p0 p1 100 = false) : Calls Tryz.prog 11 #[(.agg (machCells R M)), Q.v, (.agg #[.int .i64 p0, .int .i64 p1])] W (Ret (.bool true) W) := by
  refine calls_ax (vs := [(.agg (machCells R M)), Q.v, (.agg #[.int .i64 p0, .int .i64 p1])]) Tryz.func11 rfl rfl ?_
  refine ac_seq ?_
  refine ac_region ?_
  refine al_new (fun b => .pointer (some ⟨b, 0, none⟩)) (r_box rfl rfl) rfl rfl rfl ?_
  intro b1
  refine al_new (fun b => .pointer (some ⟨b, 0, none⟩)) (r_box rfl rfl) rfl rfl rfl ?_
  intro b2
  refine al_new (fun b => .pointer (some ⟨b, 0, none⟩)) (r_box rfl rfl) rfl rfl rfl ?_
  intro b3
  refine al_q (q_assign rfl) rfl rfl rfl ?_
  refine al_end ?_
  refine aq_then ?_
  refine ac_seq ?_
  refine ac_seq ?_
  refine ac_region ?_
  refine al_q (q_loadAll (i := 2) rfl rfl Tryz.isAgg29 Tryz.sizeOf29 rfl) rfl rfl rfl ?_
  refine al_q (q_loadAll (i := 1) rfl rfl Tryz.isAgg34 Tryz.sizeOf34 rfl) rfl rfl rfl ?_
  refine al_call Tryz.call16 (.cons rfl (.cons rfl .nil)) rfl rfl (fun w1 hs1 => ?_)
  refine (brief2_any R M Q _).mono ?_
  rintro e u1 ⟨rfl, hb_1⟩
  refine ⟨_, rfl, hb_1, ?_⟩
  clear hs1
  refine al_q (q_not rfl) rfl rfl rfl ?_
  refine al_end ?_
  refine aq_then ?_
  refine ac_cond rfl (fun h1 => ?_) (fun h1 => ?_)
  · skip
    refine ac_seq ?_
    refine ac_region ?_
    refine al_call Tryz.call19 .nil rfl rfl (fun w2 hs2 => ?_)
    refine (awake2_any _ (hE.below hs2.below)).mono ?_
    rintro e u2 ⟨rfl, hb_2⟩
    refine ⟨_, rfl, hb_2, ?_⟩
    clear hs2
    refine al_q (q_assign rfl) rfl rfl rfl ?_
    refine al_end ?_
    refine aq_then ?_
    refine ac_ret ?_
    refine aq_thenR ?_
    refine ret1 Tryz.results11 rfl (fun w9 hs => ?_)
    exact ⟨rfl, hs.below⟩
  · have hbf := brief2_iff.1 (show brief2 R Q = true by simpa using h1)
    have hM := hM (by omega) (by omega) (by omega) (by omega)
    have hC := hC.isC (by omega) (by omega) (by omega)
    refine ac_skip ?_
    refine aq_then ?_
    refine ac_seq ?_
    refine ac_region ?_
    refine al_q (q_loadAll (i := 2) rfl rfl Tryz.isAgg29 Tryz.sizeOf29 rfl) rfl rfl rfl ?_
    refine al_q (q_loadAll (i := 1) rfl rfl Tryz.isAgg34 Tryz.sizeOf34 rfl) rfl rfl rfl ?_
    refine al_call Tryz.call53 (.cons rfl (.cons rfl .nil)) rfl rfl (fun w3 hs3 => ?_)
    refine (mirror_ok R M Q C _ (hM.below hs3.below) (hC.below hs3.below) hf).mono ?_
    rintro e u3 ⟨R1, Q1, rfl, NM, NC, hRl, hQl, hb_3⟩
    refine ⟨_, rfl, hb_3, ?_⟩
    clear hs3
    refine al_q (q_move rfl) rfl rfl rfl ?_
    refine al_q (q_extract rfl rfl) rfl rfl rfl ?_
    refine al_q (q_extract rfl rfl) rfl rfl rfl ?_
    refine al_q (q_extract rfl rfl) rfl rfl rfl ?_
    refine al_new (fun b => .pointer (some ⟨b, 0, none⟩)) (r_alloc Tryz.zeroValue29 rfl) rfl rfl rfl ?_
    intro b4
    refine al_new (fun b => .pointer (some ⟨b, 0, none⟩)) (r_alloc Tryz.zeroValue34 rfl) rfl rfl rfl ?_
    intro b5
    refine al_storeAll (i := 1) rfl rfl rfl rfl Tryz.sizeOf29 rfl rfl .k1 rfl ?_
    refine al_storeAll (i := 0) rfl rfl rfl rfl Tryz.sizeOf34 rfl rfl .k0 rfl ?_
    refine al_q (q_assign rfl) rfl rfl rfl ?_
    refine al_end ?_
    refine aq_then ?_
    refine ac_seq ?_
    refine ac_region ?_
    refine al_q (q_loadAll (i := 4) rfl rfl Tryz.isAgg29 Tryz.sizeOf29 rfl) rfl rfl rfl ?_
    refine al_q (q_loadAll (i := 3) rfl rfl Tryz.isAgg34 Tryz.sizeOf34 rfl) rfl rfl rfl ?_
    refine al_q (q_loadAll (i := 2) rfl rfl Tryz.isAgg40 Tryz.sizeOf40 rfl) rfl rfl rfl ?_
    refine al_call Tryz.call42 (.cons rfl (.cons rfl (.cons rfl .nil))) rfl rfl (fun w4 hs4 => ?_)
    refine (flux_any R M Q C p0 p1 _ (hM.below hs4.below) (hC.below hs4.below)).mono ?_
    rintro e u4 ⟨rfl, hb_4⟩
    refine ⟨_, rfl, hb_4, ?_⟩
    clear hs4
    refine al_q (q_move rfl) rfl rfl rfl ?_
    refine al_q (q_extract rfl rfl) rfl rfl rfl ?_
    refine al_q (q_extract rfl rfl) rfl rfl rfl ?_
    refine al_q (q_assign rfl) rfl rfl rfl ?_
    refine al_q (q_assign rfl) rfl rfl rfl ?_
    refine al_end ?_
    refine aq_then ?_
    refine ac_seq ?_
    refine ac_region ?_
    refine al_q (q_loadAll (i := 4) rfl rfl Tryz.isAgg29 Tryz.sizeOf29 rfl) rfl rfl rfl ?_
    refine al_q (q_loadAll (i := 3) rfl rfl Tryz.isAgg34 Tryz.sizeOf34 rfl) rfl rfl rfl ?_
    refine al_q (q_loadAll (i := 2) rfl rfl Tryz.isAgg40 Tryz.sizeOf40 rfl) rfl rfl rfl ?_
    refine al_call Tryz.call44 (.cons rfl (.cons rfl (.cons rfl .nil))) rfl rfl (fun w5 hs5 => ?_)
    refine (field_any R M Q C p0 p1 _ (hM.below hs5.below) (hC.below hs5.below)).mono ?_
    rintro e u5 ⟨rfl, hb_5⟩
    refine ⟨_, rfl, hb_5, ?_⟩
    clear hs5
    refine al_q (q_move rfl) rfl rfl rfl ?_
    refine al_q (q_extract rfl rfl) rfl rfl rfl ?_
    refine al_q (q_extract rfl rfl) rfl rfl rfl ?_
    refine al_q (q_extract rfl rfl) rfl rfl rfl ?_
    refine al_q (q_assign rfl) rfl rfl rfl ?_
    refine al_q (q_assign rfl) rfl rfl rfl ?_
    refine al_q (q_assign rfl) rfl rfl rfl ?_
    refine al_end ?_
    refine aq_then ?_
    refine ac_seq ?_
    refine ac_seq ?_
    refine ac_region ?_
    refine al_q (q_move rfl) rfl rfl rfl ?_
    refine al_q (q_same (v' := .bool false) (q_neq rfl rfl) (by simp)) rfl rfl rfl ?_
    refine al_q (q_move rfl) rfl rfl rfl ?_
    refine al_q (q_move rfl) rfl rfl rfl ?_
    refine al_q (q_same (v' := .bool true) (q_neq rfl rfl) (by simp [fluxE, fieldE, fit2_iff.2 hf, hn])) rfl rfl rfl ?_
    refine al_q (q_pickF rfl rfl) rfl rfl rfl ?_
    refine al_q (q_move rfl) rfl rfl rfl ?_
    refine al_skip rfl rfl rfl ?_
    refine al_skip rfl rfl rfl ?_
    refine al_q (q_pickT rfl rfl) rfl rfl rfl ?_
    refine al_end ?_
    refine aq_then ?_
    refine ac_condT rfl ?_
    refine ac_seq ?_
    refine ac_region ?_
    refine al_call Tryz.call19 .nil rfl rfl (fun w6 hs6 => ?_)
    refine (awake2_any _ (hE.below hs6.below)).mono ?_
    rintro e u6 ⟨rfl, hb_6⟩
    refine ⟨_, rfl, hb_6, ?_⟩
    clear hs6
    refine al_q (q_assign rfl) rfl rfl rfl ?_
    refine al_end ?_
    refine aq_then ?_
    refine ac_ret ?_
    refine aq_thenR ?_
    refine ret1 Tryz.results11 rfl (fun w9 hs => ?_)
    exact ⟨rfl, hs.below⟩

theorem lwm_bl_apiPoint_0_1 (a0 a1 : Value) (ha0 : a0.oneCell' = true) (ha1 : a1.oneCell' = true) : ∀ w, (Instr.build 40 #[(0, a0), (1, a1)]).run Tryz.prog w = .ok (.agg #[a0, a1]) w := by
  have ea0 : a0.cells = #[a0] := cells_one ha0
  have ea1 : a1.cells = #[a1] := cells_one ha1
  intro w; simp [Instr.build, Instr.fill, cells_agg, Tryz.runUnderlying40, Tryz.zeroValue40, Tryz.sizeOf3, ea0, ea1]

set_option maxRecDepth 100000 in
theorem mirrored_ok (R : MachR) (M : MachD) (Q : CurR) (C : CurD) (p0 p1 : Int) (W : World) (hE : Env W) (hM : R.la ≤ 1000000000000000 → R.lb ≤ 1000000000000000 → R.lc ≤ 1000000000000000 → R.ld ≤ 1000000000000000 → IsM W R M) (hC : OpC W Q C) (hf : Fit2 M C) (hn : nearB p0 p1 100 = true) : Calls Tryz.prog 11 #[(.agg (machCells R M)), Q.v, (.agg #[.int .i64 p0, .int .i64 p1])] W (Ret (.bool true) W) := by
  have hn2 := near_iff.1 hn
  refine calls_ax (vs := [(.agg (machCells R M)), Q.v, (.agg #[.int .i64 p0, .int .i64 p1])]) Tryz.func11 rfl rfl ?_
  refine ac_seq ?_
  refine ac_region ?_
  refine al_new (fun b => .pointer (some ⟨b, 0, none⟩)) (r_box rfl rfl) rfl rfl rfl ?_
  intro b1
  refine al_new (fun b => .pointer (some ⟨b, 0, none⟩)) (r_box rfl rfl) rfl rfl rfl ?_
  intro b2
  refine al_new (fun b => .pointer (some ⟨b, 0, none⟩)) (r_box rfl rfl) rfl rfl rfl ?_
  intro b3
  refine al_q (q_assign rfl) rfl rfl rfl ?_
  refine al_end ?_
  refine aq_then ?_
  refine ac_seq ?_
  refine ac_seq ?_
  refine ac_region ?_
  refine al_q (q_loadAll (i := 2) rfl rfl Tryz.isAgg29 Tryz.sizeOf29 rfl) rfl rfl rfl ?_
  refine al_q (q_loadAll (i := 1) rfl rfl Tryz.isAgg34 Tryz.sizeOf34 rfl) rfl rfl rfl ?_
  refine al_call Tryz.call16 (.cons rfl (.cons rfl .nil)) rfl rfl (fun w1 hs1 => ?_)
  refine (brief2_any R M Q _).mono ?_
  rintro e u1 ⟨rfl, hb_1⟩
  refine ⟨_, rfl, hb_1, ?_⟩
  clear hs1
  refine al_q (q_not rfl) rfl rfl rfl ?_
  refine al_end ?_
  refine aq_then ?_
  refine ac_cond rfl (fun h1 => ?_) (fun h1 => ?_)
  · skip
    refine ac_seq ?_
    refine ac_region ?_
    refine al_call Tryz.call19 .nil rfl rfl (fun w2 hs2 => ?_)
    refine (awake2_any _ (hE.below hs2.below)).mono ?_
    rintro e u2 ⟨rfl, hb_2⟩
    refine ⟨_, rfl, hb_2, ?_⟩
    clear hs2
    refine al_q (q_assign rfl) rfl rfl rfl ?_
    refine al_end ?_
    refine aq_then ?_
    refine ac_ret ?_
    refine aq_thenR ?_
    refine ret1 Tryz.results11 rfl (fun w9 hs => ?_)
    exact ⟨rfl, hs.below⟩
  · have hbf := brief2_iff.1 (show brief2 R Q = true by simpa using h1)
    have hM := hM (by omega) (by omega) (by omega) (by omega)
    have hC := hC.isC (by omega) (by omega) (by omega)
    have g1 := (small_of (fit_mir hf)).bd (p0, -p1 - 1)
    have g2 := (small_of (fit_mir hf)).bd (p0, -p1 + 1)
    have k0 := flux_mir p0 p1 hf
    have k1 := flux_mir p0 (p1 + 1) hf
    have k2 := flux_mir p0 (p1 - 1) hf
    have k3 := flux_mir (p0 + 1) p1 hf
    have k4 := flux_mir (p0 - 1) p1 hf
    rw [show -(p1 + 1) = -p1 - 1 by omega] at k1
    rw [show -(p1 - 1) = -p1 + 1 by omega] at k2
    refine ac_skip ?_
    refine aq_then ?_
    refine ac_seq ?_
    refine ac_region ?_
    refine al_q (q_loadAll (i := 2) rfl rfl Tryz.isAgg29 Tryz.sizeOf29 rfl) rfl rfl rfl ?_
    refine al_q (q_loadAll (i := 1) rfl rfl Tryz.isAgg34 Tryz.sizeOf34 rfl) rfl rfl rfl ?_
    refine al_call Tryz.call53 (.cons rfl (.cons rfl .nil)) rfl rfl (fun w3 hs3 => ?_)
    refine (mirror_ok R M Q C _ (hM.below hs3.below) (hC.below hs3.below) hf).mono ?_
    rintro e u3 ⟨R1, Q1, rfl, NM, NC, hRl, hQl, hb_3⟩
    refine ⟨_, rfl, hb_3, ?_⟩
    clear hs3
    refine al_q (q_move rfl) rfl rfl rfl ?_
    refine al_q (q_extract rfl rfl) rfl rfl rfl ?_
    refine al_q (q_extract rfl rfl) rfl rfl rfl ?_
    refine al_q (q_extract rfl rfl) rfl rfl rfl ?_
    refine al_new (fun b => .pointer (some ⟨b, 0, none⟩)) (r_alloc Tryz.zeroValue29 rfl) rfl rfl rfl ?_
    intro b4
    refine al_new (fun b => .pointer (some ⟨b, 0, none⟩)) (r_alloc Tryz.zeroValue34 rfl) rfl rfl rfl ?_
    intro b5
    refine al_storeAll (i := 1) rfl rfl rfl rfl Tryz.sizeOf29 rfl rfl .k1 rfl ?_
    refine al_storeAll (i := 0) rfl rfl rfl rfl Tryz.sizeOf34 rfl rfl .k0 rfl ?_
    refine al_q (q_assign rfl) rfl rfl rfl ?_
    refine al_end ?_
    refine aq_then ?_
    refine ac_seq ?_
    refine ac_region ?_
    refine al_q (q_loadAll (i := 4) rfl rfl Tryz.isAgg29 Tryz.sizeOf29 rfl) rfl rfl rfl ?_
    refine al_q (q_loadAll (i := 3) rfl rfl Tryz.isAgg34 Tryz.sizeOf34 rfl) rfl rfl rfl ?_
    refine al_q (q_loadAll (i := 2) rfl rfl Tryz.isAgg40 Tryz.sizeOf40 rfl) rfl rfl rfl ?_
    refine al_call Tryz.call42 (.cons rfl (.cons rfl (.cons rfl .nil))) rfl rfl (fun w4 hs4 => ?_)
    refine (flux_good R M Q C p0 p1 _ (hM.below hs4.below) (hC.below hs4.below) hf hn2).mono ?_
    rintro e u4 ⟨rfl, hb_4⟩
    refine ⟨_, rfl, hb_4, ?_⟩
    clear hs4
    refine al_q (q_move rfl) rfl rfl rfl ?_
    refine al_q (q_extract rfl rfl) rfl rfl rfl ?_
    refine al_q (q_extract rfl rfl) rfl rfl rfl ?_
    refine al_q (q_assign rfl) rfl rfl rfl ?_
    refine al_q (q_assign rfl) rfl rfl rfl ?_
    refine al_end ?_
    refine aq_then ?_
    refine ac_seq ?_
    refine ac_region ?_
    refine al_q (q_loadAll (i := 4) rfl rfl Tryz.isAgg29 Tryz.sizeOf29 rfl) rfl rfl rfl ?_
    refine al_q (q_loadAll (i := 3) rfl rfl Tryz.isAgg34 Tryz.sizeOf34 rfl) rfl rfl rfl ?_
    refine al_q (q_loadAll (i := 2) rfl rfl Tryz.isAgg40 Tryz.sizeOf40 rfl) rfl rfl rfl ?_
    refine al_call Tryz.call44 (.cons rfl (.cons rfl (.cons rfl .nil))) rfl rfl (fun w5 hs5 => ?_)
    refine (field_good R M Q C p0 p1 _ (hM.below hs5.below) (hC.below hs5.below) hf hn2).mono ?_
    rintro e u5 ⟨rfl, hb_5⟩
    refine ⟨_, rfl, hb_5, ?_⟩
    clear hs5
    refine al_q (q_move rfl) rfl rfl rfl ?_
    refine al_q (q_extract rfl rfl) rfl rfl rfl ?_
    refine al_q (q_extract rfl rfl) rfl rfl rfl ?_
    refine al_q (q_extract rfl rfl) rfl rfl rfl ?_
    refine al_q (q_assign rfl) rfl rfl rfl ?_
    refine al_q (q_assign rfl) rfl rfl rfl ?_
    refine al_q (q_assign rfl) rfl rfl rfl ?_
    refine al_end ?_
    refine aq_then ?_
    refine ac_seq ?_
    refine ac_seq ?_
    refine ac_region ?_
    refine al_q (q_move rfl) rfl rfl rfl ?_
    refine al_q (q_same (v' := .bool false) (q_neq rfl rfl) (by simp)) rfl rfl rfl ?_
    refine al_q (q_move rfl) rfl rfl rfl ?_
    refine al_q (q_move rfl) rfl rfl rfl ?_
    refine al_q (q_same (v' := .bool false) (q_neq rfl rfl) (by simp)) rfl rfl rfl ?_
    refine al_q (q_pickF rfl rfl) rfl rfl rfl ?_
    refine al_q (q_move rfl) rfl rfl rfl ?_
    refine al_q (q_move rfl) rfl rfl rfl ?_
    refine al_q (q_same (v' := .bool false) (q_neq rfl rfl) (by simp)) rfl rfl rfl ?_
    refine al_q (q_pickF rfl rfl) rfl rfl rfl ?_
    refine al_end ?_
    refine aq_then ?_
    refine ac_condF rfl ?_
    refine ac_skip ?_
    refine aq_then ?_
    refine ac_seq ?_
    refine ac_region ?_
    refine al_q (q_fieldAddr 0 rfl Tryz.runUnderlying40 rfl Tryz.sizeOf3 (by decide) rfl) rfl rfl rfl ?_
    refine al_q (q_load (i := 2) rfl rfl rfl Tryz.isAgg3) rfl rfl rfl ?_
    refine al_q (q_fieldAddr 1 rfl Tryz.runUnderlying40 rfl Tryz.sizeOf3 (by decide) rfl) rfl rfl rfl ?_
    refine al_q (q_load (i := 2) rfl rfl rfl Tryz.isAgg3) rfl rfl rfl ?_
    refine al_q (q_neg rfl (by omega)) rfl rfl rfl ?_
    refine al_q (q_build (.cons rfl (.cons rfl .nil)) (lwm_bl_apiPoint_0_1 _ _ rfl rfl)) rfl rfl rfl ?_
    refine al_new (fun b => .pointer (some ⟨b, 0, none⟩)) (r_alloc Tryz.zeroValue40 rfl) rfl rfl rfl ?_
    intro b6
    refine al_storeAll (i := 0) rfl rfl rfl rfl Tryz.sizeOf40 rfl rfl .k0 rfl ?_
    refine al_end ?_
    refine aq_then ?_
    refine ac_seq ?_
    refine ac_region ?_
    refine al_q (q_loadAll (i := 2) rfl rfl Tryz.isAgg29 Tryz.sizeOf29 rfl) rfl rfl rfl ?_
    refine al_q (q_loadAll (i := 1) rfl rfl Tryz.isAgg34 Tryz.sizeOf34 rfl) rfl rfl rfl ?_
    refine al_q (q_loadAll (i := 0) rfl rfl Tryz.isAgg40 Tryz.sizeOf40 rfl) rfl rfl rfl ?_
    refine al_call Tryz.call42 (.cons rfl (.cons rfl (.cons rfl .nil))) rfl rfl (fun w6 hs6 => ?_)
    have hM1 := hs6.newMT (.tail _ (.tail _ (.head _))) NM (by omega) (by omega) (by omega) (by omega)
    have hC1 := hs6.newCT (.tail _ (.tail _ (.head _))) NC (by omega) (by omega) (by omega)
    refine (flux_good R1 (mirM M) Q1 (mirC M.grid C) p0 (-p1) _ hM1 hC1 (fit_mir hf) ⟨⟨by omega, by omega⟩, by omega, by omega⟩).mono ?_
    rintro e u6 ⟨rfl, hb_6⟩
    refine ⟨_, rfl, hb_6, ?_⟩
    clear hs6
    refine al_q (q_move rfl) rfl rfl rfl ?_
    refine al_q (q_extract rfl rfl) rfl rfl rfl ?_
    refine al_q (q_extract rfl rfl) rfl rfl rfl ?_
    refine al_q (q_assign rfl) rfl rfl rfl ?_
    refine al_q (q_assign rfl) rfl rfl rfl ?_
    refine al_end ?_
    refine aq_then ?_
    refine ac_seq ?_
    refine ac_region ?_
    refine al_q (q_loadAll (i := 2) rfl rfl Tryz.isAgg29 Tryz.sizeOf29 rfl) rfl rfl rfl ?_
    refine al_q (q_loadAll (i := 1) rfl rfl Tryz.isAgg34 Tryz.sizeOf34 rfl) rfl rfl rfl ?_
    refine al_q (q_loadAll (i := 0) rfl rfl Tryz.isAgg40 Tryz.sizeOf40 rfl) rfl rfl rfl ?_
    refine al_call Tryz.call44 (.cons rfl (.cons rfl (.cons rfl .nil))) rfl rfl (fun w7 hs7 => ?_)
    have hM1 := hs7.newMT (.tail _ (.tail _ (.tail _ (.head _)))) NM (by omega) (by omega) (by omega) (by omega)
    have hC1 := hs7.newCT (.tail _ (.tail _ (.tail _ (.head _)))) NC (by omega) (by omega) (by omega)
    refine (field_good R1 (mirM M) Q1 (mirC M.grid C) p0 (-p1) _ hM1 hC1 (fit_mir hf) ⟨⟨by omega, by omega⟩, by omega, by omega⟩).mono ?_
    rintro e u7 ⟨rfl, hb_7⟩
    refine ⟨_, rfl, hb_7, ?_⟩
    clear hs7
    refine al_q (q_move rfl) rfl rfl rfl ?_
    refine al_q (q_extract rfl rfl) rfl rfl rfl ?_
    refine al_q (q_extract rfl rfl) rfl rfl rfl ?_
    refine al_q (q_extract rfl rfl) rfl rfl rfl ?_
    refine al_q (q_assign rfl) rfl rfl rfl ?_
    refine al_q (q_assign rfl) rfl rfl rfl ?_
    refine al_q (q_assign rfl) rfl rfl rfl ?_
    refine al_end ?_
    refine aq_then ?_
    refine aq_keepL [6, 10, 12, 13, 16, 17, 18, 19, 20] (.cons rfl (.cons rfl (.cons rfl (.cons rfl (.cons rfl (.cons rfl (.cons rfl (.cons rfl (.cons rfl .nil))))))))) ?_
    refine ac_seq ?_
    refine ac_region ?_
    refine al_q (q_move rfl) rfl rfl rfl ?_
    refine al_q (q_same (v' := .bool true) (q_eql rfl rfl) (by simp)) rfl rfl rfl ?_
    refine al_q (q_move rfl) rfl rfl rfl ?_
    refine al_q (q_move rfl) rfl rfl rfl ?_
    refine al_q (q_same (v' := .bool true) (q_eql rfl rfl) (by simp)) rfl rfl rfl ?_
    refine al_q (q_pickT rfl rfl) rfl rfl rfl ?_
    refine al_q (q_move rfl) rfl rfl rfl ?_
    refine al_q (q_move rfl) rfl rfl rfl ?_
    refine al_q (q_move rfl) rfl rfl rfl ?_
    refine al_q (q_same (v' := .bool true) (q_eql rfl rfl) (by rw [k0]; simp)) rfl rfl rfl ?_
    refine al_q (q_pickT rfl rfl) rfl rfl rfl ?_
    refine al_q (q_move rfl) rfl rfl rfl ?_
    refine al_q (q_move rfl) rfl rfl rfl ?_
    refine al_q (q_move rfl) rfl rfl rfl ?_
    refine al_q (q_neg rfl (by omega)) rfl rfl rfl ?_
    refine al_q (q_same (v' := .bool true) (q_eql rfl rfl) (by rw [k1, k2]; exact congrArg Value.bool (decide_eq_true (by omega)))) rfl rfl rfl ?_
    refine al_q (q_pickT rfl rfl) rfl rfl rfl ?_
    refine al_q (q_move rfl) rfl rfl rfl ?_
    refine al_q (q_move rfl) rfl rfl rfl ?_
    refine al_q (q_move rfl) rfl rfl rfl ?_
    refine al_q (q_same (v' := .bool true) (q_eql rfl rfl) (by rw [k3, k4]; simp)) rfl rfl rfl ?_
    refine al_q (q_pickT rfl rfl) rfl rfl rfl ?_
    refine al_q (q_move rfl) rfl rfl rfl ?_
    refine al_call Tryz.call19 .nil rfl rfl (fun w8 hs8 => ?_)
    refine (awake2_any _ (hE.below hs8.below)).mono ?_
    rintro e u8 ⟨rfl, hb_8⟩
    refine ⟨_, rfl, hb_8, ?_⟩
    clear hs8
    refine al_q (q_pickT rfl rfl) rfl rfl rfl ?_
    refine al_q (q_assign rfl) rfl rfl rfl ?_
    refine al_end ?_
    refine aq_then ?_
    refine ac_ret ?_
    refine ret1 Tryz.results11 rfl (fun w9 hs => ?_)
    exact ⟨rfl, hs.below⟩

theorem mirrored_walk (R : MachR) (M : MachD) (Q : CurR) (C : CurD) (p0 p1 : Int) (W : World) (hE : Env W) (hM : R.la ≤ 1000000000000000 → R.lb ≤ 1000000000000000 → R.lc ≤ 1000000000000000 → R.ld ≤ 1000000000000000 → IsM W R M) (hC : OpC W Q C) : Calls Tryz.prog 11 #[.agg (machCells R M), Q.v, .agg #[.int .i64 p0, .int .i64 p1]] W (Ret (.bool true) W) := by
  cases hv : validC M C with
  | false => exact mirrored_bad R M Q C p0 p1 W hE hM hC hv
  | true =>
    cases hn : nearB p0 p1 100 with
    | false => exact mirrored_far R M Q C p0 p1 W hE hM hC (fit2_iff.1 hv) hn
    | true => exact mirrored_ok R M Q C p0 p1 W hE hM hC (fit2_iff.1 hv) hn

end Go.Proofs.YtjjajleiladbhaaGreatDoor
end
