import Derived.Test.YtjjajleiladbhaaGreatDoorLAD
import Derived.Test.YtjjajleiladbhaaGreatDoorLAH
import Derived.Test.YtjjajleiladbhaaGreatDoorLAO
import Derived.Test.YtjjajleiladbhaaGreatDoorRows
import Derived.KernelRfl
section
/- Package machine: readText on the example of layer 2, over this seat's translation (written by ax_parse2.py). -/
namespace Go.Proofs.YtjjajleiladbhaaGreatDoor
set_option linter.unusedVariables false
set_option linter.unusedSimpArgs false
open Go.RowKit

theorem par2_bl_machinelineForm_0_1_2_3 (a0 a1 a2 a3 : Value) (ha0 : a0.oneCell' = true) (ha1 : a1.oneCell' = true) (ha2 : a2.oneCell' = true) (ha3 : a3.oneCell' = true) : ∀ w, (Instr.build 161 #[(0, a0), (1, a1), (2, a2), (3, a3)]).run Tryz.prog w = .ok (.agg #[a0, a1, a2, a3]) w := by
  have ea0 : a0.cells = #[a0] := cells_one ha0
  have ea1 : a1.cells = #[a1] := cells_one ha1
  have ea2 : a2.cells = #[a2] := cells_one ha2
  have ea3 : a3.cells = #[a3] := cells_one ha3
  intro w; simp [Instr.build, Instr.fill, cells_agg, Tryz.runUnderlying161, Tryz.zeroValue161, Tryz.sizeOf3, Tryz.sizeOf159, ea0, ea1, ea2, ea3]

theorem par2_bl_apiCoil_0_ (a0 : Value) (ha0 : a0.oneCell' = true) : ∀ w, (Instr.build 75 #[(0, a0)]).run Tryz.prog w = .ok (.agg #[a0, (.int .i64 0), (.int .i64 0), (.int .i64 0), (.int .i64 0), (.int .i64 0), (.int .i64 0), (.int .i64 0)]) w := by
  have ea0 : a0.cells = #[a0] := cells_one ha0
  intro w; simp [Instr.build, Instr.fill, cells_agg, Tryz.runUnderlying75, Tryz.zeroValue75, Tryz.sizeOf3, Tryz.sizeOf9, ea0]

theorem par2_bs_int_7_0_1_2_3_4_5_6 (a0 a1 a2 a3 a4 a5 a6 : Value) (ha0 : a0.oneCell' = true) (ha1 : a1.oneCell' = true) (ha2 : a2.oneCell' = true) (ha3 : a3.oneCell' = true) (ha4 : a4.oneCell' = true) (ha5 : a5.oneCell' = true) (ha6 : a6.oneCell' = true) : ∀ w, (Instr.buildSlice 180 7 #[(0, a0), (1, a1), (2, a2), (3, a3), (4, a4), (5, a5), (6, a6)]).run Tryz.prog w = .ok (.slice (some ⟨w.heap.size, 0, none⟩) 7 7) (w.alloc (.cells [a0, a1, a2, a3, a4, a5, a6].toArray 137)) := by
  have ea0 : a0.cells = #[a0] := cells_one ha0
  have ea1 : a1.cells = #[a1] := cells_one ha1
  have ea2 : a2.cells = #[a2] := cells_one ha2
  have ea3 : a3.cells = #[a3] := cells_one ha3
  have ea4 : a4.cells = #[a4] := cells_one ha4
  have ea5 : a5.cells = #[a5] := cells_one ha5
  have ea6 : a6.cells = #[a6] := cells_one ha6
  intro w; (simp [Instr.buildSlice, Instr.fill, cells_agg, newRow, Tryz.runUnderlying180, Tryz.zeroValue137, Tryz.sizeOf137, ea0, ea1, ea2, ea3, ea4, ea5, ea6] <;> (rw [(by kernel_rfl : Array.range 7 = #[0, 1, 2, 3, 4, 5, 6])]; simp [Value.cells]))

theorem par2_bs_apiCoil_1_0_ (c0_0 c0_1 c0_2 c0_3 c0_4 c0_5 c0_6 c0_7 : Value) : ∀ w, (Instr.buildSlice 22 1 #[(0, .agg #[c0_0, c0_1, c0_2, c0_3, c0_4, c0_5, c0_6, c0_7])]).run Tryz.prog w = .ok (.slice (some ⟨w.heap.size, 0, none⟩) 1 1) (w.alloc (.cells [c0_0, c0_1, c0_2, c0_3, c0_4, c0_5, c0_6, c0_7].toArray 75)) := by
  intro w; (simp [Instr.buildSlice, Instr.fill, cells_agg, newRow, Tryz.runUnderlying22, Tryz.zeroValue75, Tryz.sizeOf75] <;> (rw [(by kernel_rfl : Array.range 8 = #[0, 1, 2, 3, 4, 5, 6, 7])]; simp [Value.cells]))

theorem par2_bs_int_2_0_1 (a0 a1 : Value) (ha0 : a0.oneCell' = true) (ha1 : a1.oneCell' = true) : ∀ w, (Instr.buildSlice 180 2 #[(0, a0), (1, a1)]).run Tryz.prog w = .ok (.slice (some ⟨w.heap.size, 0, none⟩) 2 2) (w.alloc (.cells [a0, a1].toArray 137)) := by
  have ea0 : a0.cells = #[a0] := cells_one ha0
  have ea1 : a1.cells = #[a1] := cells_one ha1
  intro w; (simp [Instr.buildSlice, Instr.fill, cells_agg, newRow, Tryz.runUnderlying180, Tryz.zeroValue137, Tryz.sizeOf137, ea0, ea1] <;> (rw [(by kernel_rfl : Array.range 2 = #[0, 1])]; simp [Value.cells]))

theorem par2_bs_apiPoint_1_0_ (c0_0 c0_1 : Value) : ∀ w, (Instr.buildSlice 24 1 #[(0, .agg #[c0_0, c0_1])]).run Tryz.prog w = .ok (.slice (some ⟨w.heap.size, 0, none⟩) 1 1) (w.alloc (.cells [c0_0, c0_1].toArray 40)) := by
  intro w; (simp [Instr.buildSlice, Instr.fill, cells_agg, newRow, Tryz.runUnderlying24, Tryz.zeroValue40, Tryz.sizeOf40] <;> (rw [(by kernel_rfl : Array.range 2 = #[0, 1])]; simp [Value.cells]))

theorem par2_bs_int_5_0_1_2_3_4 (a0 a1 a2 a3 a4 : Value) (ha0 : a0.oneCell' = true) (ha1 : a1.oneCell' = true) (ha2 : a2.oneCell' = true) (ha3 : a3.oneCell' = true) (ha4 : a4.oneCell' = true) : ∀ w, (Instr.buildSlice 180 5 #[(0, a0), (1, a1), (2, a2), (3, a3), (4, a4)]).run Tryz.prog w = .ok (.slice (some ⟨w.heap.size, 0, none⟩) 5 5) (w.alloc (.cells [a0, a1, a2, a3, a4].toArray 137)) := by
  have ea0 : a0.cells = #[a0] := cells_one ha0
  have ea1 : a1.cells = #[a1] := cells_one ha1
  have ea2 : a2.cells = #[a2] := cells_one ha2
  have ea3 : a3.cells = #[a3] := cells_one ha3
  have ea4 : a4.cells = #[a4] := cells_one ha4
  intro w; (simp [Instr.buildSlice, Instr.fill, cells_agg, newRow, Tryz.runUnderlying180, Tryz.zeroValue137, Tryz.sizeOf137, ea0, ea1, ea2, ea3, ea4] <;> (rw [(by kernel_rfl : Array.range 5 = #[0, 1, 2, 3, 4])]; simp [Value.cells]))

/-- The machine of layer 2's example. -/
def exM : MachD := ⟨⟨#[97]⟩, [⟨⟨#[99]⟩, 0, 0, 2, 10, 5, 1000, 1⟩], [], [⟨9, 9⟩], ⟨3, 4, 1, 1, 1⟩, []⟩

set_option maxHeartbeats 20000000 in
set_option maxRecDepth 100000 in
theorem readText_ex (w : World) (hE : Env w) : Calls Tryz.prog 99 #[(.string ⟨#[109, 97, 99, 104, 105, 110, 101, 32, 97, 10, 99, 111, 105, 108, 32, 99, 32, 48, 32, 48, 32, 50, 32, 49, 48, 32, 53, 32, 49, 48, 48, 48, 32, 49, 10, 108, 105, 109, 105, 116, 32, 57, 32, 57, 10, 103, 114, 105, 100, 32, 51, 32, 52, 32, 49, 32, 49, 32, 49, 10]⟩)] w (fun e w' => ∃ R, e = .returned (.agg (machCells R exM)) ∧ IsM w' R exM ∧ NewM w R ∧ Below w.heap.size w w') := by
  refine calls_ax (vs := [(.string ⟨#[109, 97, 99, 104, 105, 110, 101, 32, 97, 10, 99, 111, 105, 108, 32, 99, 32, 48, 32, 48, 32, 50, 32, 49, 48, 32, 53, 32, 49, 48, 48, 48, 32, 49, 10, 108, 105, 109, 105, 116, 32, 57, 32, 57, 10, 103, 114, 105, 100, 32, 51, 32, 52, 32, 49, 32, 49, 32, 49, 10]⟩)]) Tryz.func99 rfl rfl ?_
  refine ac_seq ?_
  refine ac_region ?_
  refine al_new (fun b => .pointer (some ⟨b, 0, none⟩)) (r_alloc Tryz.zeroValue29 rfl) rfl rfl rfl ?_
  intro b1
  refine al_end ?_
  refine aq_then ?_
  refine ac_seq ?_
  refine ac_region ?_
  refine al_new (fun b => .pointer (some ⟨b, 0, none⟩)) (r_alloc Tryz.zeroValue152 rfl) rfl rfl rfl ?_
  intro b2
  refine al_end ?_
  refine aq_then ?_
  refine ac_seq ?_
  refine ac_region ?_
  refine al_inl Tryz.call124 .nil rfl rfl Tryz.func124 rfl rfl ?_
  refine ac_seq ?_
  refine ac_region ?_
  refine al_q (q_assign rfl) rfl rfl rfl ?_
  refine al_end ?_
  refine aq_then ?_
  refine ac_seq ?_
  refine ac_region ?_
  refine al_makeMap rfl rfl ?_
  intro b3
  refine al_q (q_build (.cons rfl (.cons rfl (.cons rfl (.cons rfl .nil)))) (par2_bl_machinelineForm_0_1_2_3 _ _ _ _ rfl rfl rfl rfl)) rfl rfl rfl ?_
  refine al_insert (i := 0) rfl rfl rfl rfl Tryz.underlying153 Tryz.underlying9 rfl rfl (by kernel_rfl) .k0 rfl ?_
  refine al_q (q_build (.cons rfl (.cons rfl (.cons rfl (.cons rfl .nil)))) (par2_bl_machinelineForm_0_1_2_3 _ _ _ _ rfl rfl rfl rfl)) rfl rfl rfl ?_
  refine al_insert (i := 0) rfl rfl rfl rfl Tryz.underlying153 Tryz.underlying9 rfl rfl (by kernel_rfl) .k0 rfl ?_
  refine al_q (q_build (.cons rfl (.cons rfl (.cons rfl (.cons rfl .nil)))) (par2_bl_machinelineForm_0_1_2_3 _ _ _ _ rfl rfl rfl rfl)) rfl rfl rfl ?_
  refine al_insert (i := 0) rfl rfl rfl rfl Tryz.underlying153 Tryz.underlying9 rfl rfl (by kernel_rfl) .k0 rfl ?_
  refine al_q (q_build (.cons rfl (.cons rfl (.cons rfl (.cons rfl .nil)))) (par2_bl_machinelineForm_0_1_2_3 _ _ _ _ rfl rfl rfl rfl)) rfl rfl rfl ?_
  refine al_insert (i := 0) rfl rfl rfl rfl Tryz.underlying153 Tryz.underlying9 rfl rfl (by kernel_rfl) .k0 rfl ?_
  refine al_q (q_build (.cons rfl (.cons rfl (.cons rfl (.cons rfl .nil)))) (par2_bl_machinelineForm_0_1_2_3 _ _ _ _ rfl rfl rfl rfl)) rfl rfl rfl ?_
  refine al_insert (i := 0) rfl rfl rfl rfl Tryz.underlying153 Tryz.underlying9 rfl rfl (by kernel_rfl) .k0 rfl ?_
  refine al_q (q_build (.cons rfl (.cons rfl (.cons rfl (.cons rfl .nil)))) (par2_bl_machinelineForm_0_1_2_3 _ _ _ _ rfl rfl rfl rfl)) rfl rfl rfl ?_
  refine al_insert (i := 0) rfl rfl rfl rfl Tryz.underlying153 Tryz.underlying9 rfl rfl (by kernel_rfl) .k0 rfl ?_
  refine al_q (q_move rfl) rfl rfl rfl ?_
  refine al_q (q_assign rfl) rfl rfl rfl ?_
  refine al_end ?_
  refine aq_then ?_
  refine ac_ret ?_
  refine retI Tryz.results124 (.tmp rfl .nil) .one ?_
  refine al_q (q_assign rfl) rfl rfl rfl ?_
  refine al_end ?_
  refine aq_then ?_
  refine ac_seq ?_
  refine ac_block ?_
  refine ac_loop1 ?_
  refine ac_seq ?_
  refine ac_seq ?_
  refine ac_region ?_
  refine al_q (q_move rfl) rfl rfl rfl ?_
  refine al_q (q_same (v' := .bool true) (q_neqT rfl rfl) (by kernel_rfl)) rfl rfl rfl ?_
  refine al_end ?_
  refine aq_then ?_
  refine ac_condT rfl ?_
  refine ac_skip ?_
  refine aq_then ?_
  refine ac_block ?_
  refine ac_seq ?_
  refine ac_region ?_
  refine al_q (q_move rfl) rfl rfl rfl ?_
  refine al_call Tryz.call125 (.cons rfl (.cons rfl .nil)) rfl rfl (fun w1 hs1 => ?_)
  refine (cut_at _ _ ⟨#[109, 97, 99, 104, 105, 110, 101, 32, 97]⟩ ⟨#[99, 111, 105, 108, 32, 99, 32, 48, 32, 48, 32, 50, 32, 49, 48, 32, 53, 32, 49, 48, 48, 48, 32, 49, 10, 108, 105, 109, 105, 116, 32, 57, 32, 57, 10, 103, 114, 105, 100, 32, 51, 32, 52, 32, 49, 32, 49, 32, 49, 10]⟩ true _ (hE.below hs1.below) (by decide) (by kernel_rfl)).mono ?_
  rintro e u1 ⟨rfl, hb_1⟩
  refine ⟨_, rfl, hb_1, ?_⟩
  clear hs1
  refine al_q (q_move rfl) rfl rfl rfl ?_
  refine al_q (q_extract rfl rfl) rfl rfl rfl ?_
  refine al_q (q_extract rfl rfl) rfl rfl rfl ?_
  refine al_q (q_extract rfl rfl) rfl rfl rfl ?_
  refine al_q (q_assign rfl) rfl rfl rfl ?_
  refine al_q (q_assign rfl) rfl rfl rfl ?_
  refine al_q (q_assign rfl) rfl rfl rfl ?_
  refine al_end ?_
  refine aq_then ?_
  refine ac_seq ?_
  refine ac_region ?_
  refine al_q (q_move rfl) rfl rfl rfl ?_
  refine al_inl Tryz.call126 (.cons rfl (.cons rfl .nil)) rfl rfl Tryz.func126 rfl rfl ?_
  refine ac_seq ?_
  refine ac_region ?_
  refine al_q (q_move rfl) rfl rfl rfl ?_
  refine al_q (q_not rfl) rfl rfl rfl ?_
  refine al_end ?_
  refine aq_then ?_
  refine ac_condF rfl ?_
  refine ac_skip ?_
  refine retIN Tryz.results126 .nil .zero ?_
  refine al_end ?_
  refine aq_then ?_
  refine ac_seq ?_
  refine ac_region ?_
  refine al_q (q_move rfl) rfl rfl rfl ?_
  refine al_callS Tryz.call127 (.cons rfl (.cons rfl .nil)) rfl rfl (fun w2 hs2 => ?_)
  refine (split_at _ _ [⟨#[109, 97, 99, 104, 105, 110, 101]⟩, ⟨#[97]⟩] 2 _ (hE.below hs2.below) (by decide) (by decide) (by kernel_rfl) (by kernel_rfl)).mono ?_
  rintro e u2 ⟨rfl, hb_2, hx_2⟩
  refine ⟨_, _, _, rfl, hs2.adopt hb_2 (Nat.le_refl _) hx_2, ?_⟩
  generalize (World.heap w2).size = b4
  refine al_q (q_fieldAddr 12 rfl Tryz.runUnderlying152 rfl Tryz.sizeOf150 (by decide) rfl) rfl rfl rfl ?_
  refine al_store1 (i := 2) rfl rfl rfl rfl Tryz.sizeOf150 .k12 .k2 rfl ?_
  refine al_end ?_
  refine aq_then ?_
  refine ac_seq ?_
  refine ac_region ?_
  refine al_q (q_move rfl) rfl rfl rfl ?_
  refine al_inl Tryz.call128 (.cons rfl .nil) rfl rfl Tryz.func128 rfl rfl ?_
  refine ac_seq ?_
  refine ac_region ?_
  refine al_q (q_assign rfl) rfl rfl rfl ?_
  refine al_end ?_
  refine aq_then ?_
  refine ac_seq ?_
  refine ac_region ?_
  refine al_q (q_move rfl) rfl rfl rfl ?_
  refine al_q (q_move rfl) rfl rfl rfl ?_
  refine al_q (q_nilCheckP rfl) rfl rfl rfl ?_
  refine al_q (q_fieldAddr 12 rfl Tryz.runUnderlying152 rfl Tryz.sizeOf150 (by decide) rfl) rfl rfl rfl ?_
  refine al_q (q_load (i := 2) rfl rfl rfl Tryz.isAgg150) rfl rfl rfl ?_
  refine al_q (q_same (v' := .int .i64 2) (q_lenS rfl Tryz.runUnderlying150) rfl) rfl rfl rfl ?_
  refine al_q (q_same (v' := .bool true) (q_gtr rfl rfl) rfl) rfl rfl rfl ?_
  refine al_q (q_move rfl) rfl rfl rfl ?_
  refine al_q (q_move rfl) rfl rfl rfl ?_
  refine al_q (q_nilCheckP rfl) rfl rfl rfl ?_
  refine al_q (q_fieldAddr 12 rfl Tryz.runUnderlying152 rfl Tryz.sizeOf150 (by decide) rfl) rfl rfl rfl ?_
  refine al_q (q_load (i := 2) rfl rfl rfl Tryz.isAgg150) rfl rfl rfl ?_
  refine al_q (q_indexAddr (i := 0) 0 rfl rfl rfl (by decide) Tryz.runUnderlying150 Tryz.sizeOf9 rfl) rfl rfl rfl ?_
  refine al_q (q_load (i := 0) rfl rfl rfl Tryz.isAgg9) rfl rfl rfl ?_
  refine al_q (q_same (v' := .bool true) (q_neqT rfl rfl) (by kernel_rfl)) rfl rfl rfl ?_
  refine al_q (q_pickT rfl rfl) rfl rfl rfl ?_
  refine al_inl Tryz.call126 (.cons rfl (.cons rfl .nil)) rfl rfl Tryz.func126 rfl rfl ?_
  refine ac_seq ?_
  refine ac_region ?_
  refine al_q (q_move rfl) rfl rfl rfl ?_
  refine al_q (q_not rfl) rfl rfl rfl ?_
  refine al_end ?_
  refine aq_then ?_
  refine ac_condF rfl ?_
  refine ac_skip ?_
  refine retIN Tryz.results126 .nil .zero ?_
  refine al_end ?_
  refine aq_then ?_
  refine ac_seq ?_
  refine ac_region ?_
  refine al_q (q_move rfl) rfl rfl rfl ?_
  refine al_q (q_nilCheckP rfl) rfl rfl rfl ?_
  refine al_q (q_fieldAddr 12 rfl Tryz.runUnderlying152 rfl Tryz.sizeOf150 (by decide) rfl) rfl rfl rfl ?_
  refine al_q (q_load (i := 2) rfl rfl rfl Tryz.isAgg150) rfl rfl rfl ?_
  refine al_q (q_indexAddr (i := 0) 0 rfl rfl rfl (by decide) Tryz.runUnderlying150 Tryz.sizeOf9 rfl) rfl rfl rfl ?_
  refine al_q (q_load (i := 0) rfl rfl rfl Tryz.isAgg9) rfl rfl rfl ?_
  refine al_q (q_assign rfl) rfl rfl rfl ?_
  refine al_end ?_
  refine aq_then ?_
  refine ac_seq ?_
  refine ac_region ?_
  refine al_q (q_move rfl) rfl rfl rfl ?_
  refine al_q (q_move rfl) rfl rfl rfl ?_
  refine al_q (q_nilCheckP rfl) rfl rfl rfl ?_
  refine al_q (q_fieldAddr 12 rfl Tryz.runUnderlying152 rfl Tryz.sizeOf150 (by decide) rfl) rfl rfl rfl ?_
  refine al_q (q_load (i := 2) rfl rfl rfl Tryz.isAgg150) rfl rfl rfl ?_
  refine al_q (q_same (v' := .slice (some ⟨b4, 1, none⟩) 1 1) (q_fromS (lo := 1) rfl rfl rfl (by decide) (by decide) Tryz.underlying150 Tryz.sizeOf9 rfl) rfl) rfl rfl rfl ?_
  refine al_q (q_nilCheckP rfl) rfl rfl rfl ?_
  refine al_q (q_fieldAddr 12 rfl Tryz.runUnderlying152 rfl Tryz.sizeOf150 (by decide) rfl) rfl rfl rfl ?_
  refine al_store1 (i := 2) rfl rfl rfl rfl Tryz.sizeOf150 .k12 .k2 rfl ?_
  refine al_end ?_
  refine aq_then ?_
  refine aq_keepL [2, 3] (.cons rfl (.cons rfl .nil)) ?_
  refine aq_keepU ?_
  refine ac_seq ?_
  refine ac_region ?_
  refine al_q (q_move rfl) rfl rfl rfl ?_
  refine al_q (q_assign rfl) rfl rfl rfl ?_
  refine al_end ?_
  refine aq_then ?_
  refine ac_ret ?_
  refine retI Tryz.results128 (.tmp rfl .nil) .one ?_
  refine al_q (q_lookup2 (i := 1) (j := 0) (v := (.agg #[(.int .i64 1), (.int .i64 0), (.int .i64 0), (.func (.func 140) #[] #[])])) rfl rfl rfl Tryz.underlying153 Tryz.underlying9 rfl rfl (by kernel_rfl)) rfl rfl rfl ?_
  refine al_q (q_move rfl) rfl rfl rfl ?_
  refine al_q (q_extract rfl rfl) rfl rfl rfl ?_
  refine al_q (q_extract rfl rfl) rfl rfl rfl ?_
  refine al_new (fun b => .pointer (some ⟨b, 0, none⟩)) (r_alloc Tryz.zeroValue161 rfl) rfl rfl rfl ?_
  intro b5
  refine al_storeAll (i := 0) rfl rfl rfl rfl Tryz.sizeOf161 rfl rfl .k0 rfl ?_
  refine al_q (q_assign rfl) rfl rfl rfl ?_
  refine al_end ?_
  refine aq_then ?_
  refine ac_seq ?_
  refine ac_region ?_
  refine al_q (q_move rfl) rfl rfl rfl ?_
  refine al_q (q_move rfl) rfl rfl rfl ?_
  refine al_q (q_fieldAddr 11 rfl Tryz.runUnderlying152 rfl Tryz.sizeOf3 (by decide) rfl) rfl rfl rfl ?_
  refine al_q (q_load (i := 3) rfl rfl rfl Tryz.isAgg3) rfl rfl rfl ?_
  refine al_q (q_fieldAddr 1 rfl Tryz.runUnderlying161 rfl Tryz.sizeOf3 (by decide) rfl) rfl rfl rfl ?_
  refine al_q (q_load (i := 0) rfl rfl rfl Tryz.isAgg3) rfl rfl rfl ?_
  refine al_q (q_fieldAddr 2 rfl Tryz.runUnderlying161 rfl Tryz.sizeOf3 (by decide) rfl) rfl rfl rfl ?_
  refine al_q (q_load (i := 0) rfl rfl rfl Tryz.isAgg3) rfl rfl rfl ?_
  refine al_inl Tryz.call74 (.cons rfl (.cons rfl (.cons rfl .nil))) rfl rfl Tryz.func74 rfl rfl ?_
  refine ac_seq ?_
  refine ac_region ?_
  refine al_q (q_assign rfl) rfl rfl rfl ?_
  refine al_end ?_
  refine aq_then ?_
  refine ac_seq ?_
  refine ac_region ?_
  refine al_q (q_move rfl) rfl rfl rfl ?_
  refine al_q (q_move rfl) rfl rfl rfl ?_
  refine al_q (q_same (v' := .bool true) (q_leq rfl rfl) rfl) rfl rfl rfl ?_
  refine al_q (q_move rfl) rfl rfl rfl ?_
  refine al_q (q_move rfl) rfl rfl rfl ?_
  refine al_q (q_move rfl) rfl rfl rfl ?_
  refine al_q (q_same (v' := .bool true) (q_leq rfl rfl) rfl) rfl rfl rfl ?_
  refine al_q (q_pickT rfl rfl) rfl rfl rfl ?_
  refine al_q (q_assign rfl) rfl rfl rfl ?_
  refine al_end ?_
  refine aq_then ?_
  refine ac_ret ?_
  refine retI Tryz.results74 (.tmp rfl .nil) .one ?_
  refine al_q (q_pickT rfl rfl) rfl rfl rfl ?_
  refine al_inl Tryz.call126 (.cons rfl (.cons rfl .nil)) rfl rfl Tryz.func126 rfl rfl ?_
  refine ac_seq ?_
  refine ac_region ?_
  refine al_q (q_move rfl) rfl rfl rfl ?_
  refine al_q (q_not rfl) rfl rfl rfl ?_
  refine al_end ?_
  refine aq_then ?_
  refine ac_condF rfl ?_
  refine ac_skip ?_
  refine retIN Tryz.results126 .nil .zero ?_
  refine al_end ?_
  refine aq_then ?_
  refine ac_seq ?_
  refine ac_region ?_
  refine al_q (q_fieldAddr 3 rfl Tryz.runUnderlying161 rfl Tryz.sizeOf159 (by decide) rfl) rfl rfl rfl ?_
  refine al_q (q_load (i := 0) rfl rfl rfl Tryz.isAgg159) rfl rfl rfl ?_
  refine al_inlV (fi := []) (ca := []) rfl Tryz.call140 (.cons rfl .nil) rfl rfl Tryz.func140 rfl rfl ?_
  refine ac_region ?_
  refine al_q (q_move rfl) rfl rfl rfl ?_
  refine al_q (q_move rfl) rfl rfl rfl ?_
  refine al_inl Tryz.call128 (.cons rfl .nil) rfl rfl Tryz.func128 rfl rfl ?_
  refine ac_seq ?_
  refine ac_region ?_
  refine al_q (q_assign rfl) rfl rfl rfl ?_
  refine al_end ?_
  refine aq_then ?_
  refine ac_seq ?_
  refine ac_region ?_
  refine al_q (q_move rfl) rfl rfl rfl ?_
  refine al_q (q_move rfl) rfl rfl rfl ?_
  refine al_q (q_nilCheckP rfl) rfl rfl rfl ?_
  refine al_q (q_fieldAddr 12 rfl Tryz.runUnderlying152 rfl Tryz.sizeOf150 (by decide) rfl) rfl rfl rfl ?_
  refine al_q (q_load (i := 3) rfl rfl rfl Tryz.isAgg150) rfl rfl rfl ?_
  refine al_q (q_same (v' := .int .i64 1) (q_lenS rfl Tryz.runUnderlying150) rfl) rfl rfl rfl ?_
  refine al_q (q_same (v' := .bool true) (q_gtr rfl rfl) rfl) rfl rfl rfl ?_
  refine al_q (q_move rfl) rfl rfl rfl ?_
  refine al_q (q_move rfl) rfl rfl rfl ?_
  refine al_q (q_nilCheckP rfl) rfl rfl rfl ?_
  refine al_q (q_fieldAddr 12 rfl Tryz.runUnderlying152 rfl Tryz.sizeOf150 (by decide) rfl) rfl rfl rfl ?_
  refine al_q (q_load (i := 3) rfl rfl rfl Tryz.isAgg150) rfl rfl rfl ?_
  refine al_q (q_indexAddr (i := 0) 1 rfl rfl rfl (by decide) Tryz.runUnderlying150 Tryz.sizeOf9 rfl) rfl rfl rfl ?_
  refine al_q (q_load (i := 1) rfl rfl rfl Tryz.isAgg9) rfl rfl rfl ?_
  refine al_q (q_same (v' := .bool true) (q_neqT rfl rfl) (by kernel_rfl)) rfl rfl rfl ?_
  refine al_q (q_pickT rfl rfl) rfl rfl rfl ?_
  refine al_inl Tryz.call126 (.cons rfl (.cons rfl .nil)) rfl rfl Tryz.func126 rfl rfl ?_
  refine ac_seq ?_
  refine ac_region ?_
  refine al_q (q_move rfl) rfl rfl rfl ?_
  refine al_q (q_not rfl) rfl rfl rfl ?_
  refine al_end ?_
  refine aq_then ?_
  refine ac_condF rfl ?_
  refine ac_skip ?_
  refine retIN Tryz.results126 .nil .zero ?_
  refine al_end ?_
  refine aq_then ?_
  refine ac_seq ?_
  refine ac_region ?_
  refine al_q (q_move rfl) rfl rfl rfl ?_
  refine al_q (q_nilCheckP rfl) rfl rfl rfl ?_
  refine al_q (q_fieldAddr 12 rfl Tryz.runUnderlying152 rfl Tryz.sizeOf150 (by decide) rfl) rfl rfl rfl ?_
  refine al_q (q_load (i := 3) rfl rfl rfl Tryz.isAgg150) rfl rfl rfl ?_
  refine al_q (q_indexAddr (i := 0) 1 rfl rfl rfl (by decide) Tryz.runUnderlying150 Tryz.sizeOf9 rfl) rfl rfl rfl ?_
  refine al_q (q_load (i := 1) rfl rfl rfl Tryz.isAgg9) rfl rfl rfl ?_
  refine al_q (q_assign rfl) rfl rfl rfl ?_
  refine al_end ?_
  refine aq_then ?_
  refine ac_seq ?_
  refine ac_region ?_
  refine al_q (q_move rfl) rfl rfl rfl ?_
  refine al_q (q_move rfl) rfl rfl rfl ?_
  refine al_q (q_nilCheckP rfl) rfl rfl rfl ?_
  refine al_q (q_fieldAddr 12 rfl Tryz.runUnderlying152 rfl Tryz.sizeOf150 (by decide) rfl) rfl rfl rfl ?_
  refine al_q (q_load (i := 3) rfl rfl rfl Tryz.isAgg150) rfl rfl rfl ?_
  refine al_q (q_same (v' := .slice (some ⟨b4, 1, none⟩) 0 0) (q_fromS (lo := 1) rfl rfl rfl (by decide) (by decide) Tryz.underlying150 Tryz.sizeOf9 rfl) rfl) rfl rfl rfl ?_
  refine al_q (q_nilCheckP rfl) rfl rfl rfl ?_
  refine al_q (q_fieldAddr 12 rfl Tryz.runUnderlying152 rfl Tryz.sizeOf150 (by decide) rfl) rfl rfl rfl ?_
  refine al_store1 (i := 3) rfl rfl rfl rfl Tryz.sizeOf150 .k12 .k3 rfl ?_
  refine al_end ?_
  refine aq_then ?_
  refine aq_keepL [2, 3] (.cons rfl (.cons rfl .nil)) ?_
  refine ac_seq ?_
  refine ac_region ?_
  refine al_q (q_move rfl) rfl rfl rfl ?_
  refine al_q (q_assign rfl) rfl rfl rfl ?_
  refine al_end ?_
  refine aq_then ?_
  refine ac_ret ?_
  refine retI Tryz.results128 (.tmp rfl .nil) .one ?_
  refine al_q (q_nilCheckP rfl) rfl rfl rfl ?_
  refine al_q (q_fieldAddr 0 rfl Tryz.runUnderlying152 rfl Tryz.sizeOf29 (by decide) rfl) rfl rfl rfl ?_
  refine al_q (q_fieldAddr 0 rfl Tryz.runUnderlying29 rfl Tryz.sizeOf9 (by decide) rfl) rfl rfl rfl ?_
  refine al_store1 (i := 3) rfl rfl rfl rfl Tryz.sizeOf9 .k0 .k3 rfl ?_
  refine al_end ?_
  refine retIN Tryz.results140 .nil .zero ?_
  refine al_end ?_
  refine aq_then ?_
  refine ac_seq ?_
  refine ac_region ?_
  refine al_q (q_fieldAddr 12 rfl Tryz.runUnderlying152 rfl Tryz.sizeOf150 (by decide) rfl) rfl rfl rfl ?_
  refine al_q (q_load (i := 3) rfl rfl rfl Tryz.isAgg150) rfl rfl rfl ?_
  refine al_q (q_same (v' := .int .i64 0) (q_lenS rfl Tryz.runUnderlying150) rfl) rfl rfl rfl ?_
  refine al_q (q_same (v' := .bool true) (q_eql rfl rfl) rfl) rfl rfl rfl ?_
  refine al_inl Tryz.call126 (.cons rfl (.cons rfl .nil)) rfl rfl Tryz.func126 rfl rfl ?_
  refine ac_seq ?_
  refine ac_region ?_
  refine al_q (q_move rfl) rfl rfl rfl ?_
  refine al_q (q_not rfl) rfl rfl rfl ?_
  refine al_end ?_
  refine aq_then ?_
  refine ac_condF rfl ?_
  refine ac_skip ?_
  refine retIN Tryz.results126 .nil .zero ?_
  refine al_end ?_
  refine aq_then ?_
  refine ac_seq ?_
  refine ac_region ?_
  refine al_q (q_fieldAddr 0 rfl Tryz.runUnderlying161 rfl Tryz.sizeOf3 (by decide) rfl) rfl rfl rfl ?_
  refine al_q (q_load (i := 0) rfl rfl rfl Tryz.isAgg3) rfl rfl rfl ?_
  refine al_q (q_fieldAddr 11 rfl Tryz.runUnderlying152 rfl Tryz.sizeOf3 (by decide) rfl) rfl rfl rfl ?_
  refine al_store1 (i := 3) rfl rfl rfl rfl Tryz.sizeOf3 .k11 .k3 rfl ?_
  refine al_end ?_
  refine aq_then ?_
  refine ac_seq ?_
  refine ac_region ?_
  refine al_q (q_fieldAddr 10 rfl Tryz.runUnderlying152 rfl Tryz.sizeOf3 (by decide) rfl) rfl rfl rfl ?_
  refine al_q (q_load (i := 3) rfl rfl rfl Tryz.isAgg3) rfl rfl rfl ?_
  refine al_q (q_same (v' := .int .i64 1) (q_add rfl rfl (by omega)) rfl) rfl rfl rfl ?_
  refine al_q (q_fieldAddr 10 rfl Tryz.runUnderlying152 rfl Tryz.sizeOf3 (by decide) rfl) rfl rfl rfl ?_
  refine al_store1 (i := 3) rfl rfl rfl rfl Tryz.sizeOf3 .k10 .k3 rfl ?_
  refine al_end ?_
  refine aq_then ?_
  refine ac_region ?_
  refine al_q (q_move rfl) rfl rfl rfl ?_
  refine al_q (q_assign rfl) rfl rfl rfl ?_
  refine al_end ?_
  refine aq_inN ?_
  refine aq_then (aq_again ?_)
  refine ac_seq ?_
  refine ac_seq ?_
  refine ac_region ?_
  refine al_q (q_move rfl) rfl rfl rfl ?_
  refine al_q (q_same (v' := .bool true) (q_neqT rfl rfl) (by kernel_rfl)) rfl rfl rfl ?_
  refine al_end ?_
  refine aq_then ?_
  refine ac_condT rfl ?_
  refine ac_skip ?_
  refine aq_then ?_
  refine ac_block ?_
  refine ac_seq ?_
  refine ac_region ?_
  refine al_q (q_move rfl) rfl rfl rfl ?_
  refine al_call Tryz.call125 (.cons rfl (.cons rfl .nil)) rfl rfl (fun w3 hs3 => ?_)
  refine (cut_at _ _ ⟨#[99, 111, 105, 108, 32, 99, 32, 48, 32, 48, 32, 50, 32, 49, 48, 32, 53, 32, 49, 48, 48, 48, 32, 49]⟩ ⟨#[108, 105, 109, 105, 116, 32, 57, 32, 57, 10, 103, 114, 105, 100, 32, 51, 32, 52, 32, 49, 32, 49, 32, 49, 10]⟩ true _ (hE.below hs3.below) (by decide) (by kernel_rfl)).mono ?_
  rintro e u3 ⟨rfl, hb_3⟩
  refine ⟨_, rfl, hb_3, ?_⟩
  clear hs3
  refine al_q (q_move rfl) rfl rfl rfl ?_
  refine al_q (q_extract rfl rfl) rfl rfl rfl ?_
  refine al_q (q_extract rfl rfl) rfl rfl rfl ?_
  refine al_q (q_extract rfl rfl) rfl rfl rfl ?_
  refine al_q (q_assign rfl) rfl rfl rfl ?_
  refine al_q (q_assign rfl) rfl rfl rfl ?_
  refine al_q (q_assign rfl) rfl rfl rfl ?_
  refine al_end ?_
  refine aq_then ?_
  refine ac_seq ?_
  refine ac_region ?_
  refine al_q (q_move rfl) rfl rfl rfl ?_
  refine al_inl Tryz.call126 (.cons rfl (.cons rfl .nil)) rfl rfl Tryz.func126 rfl rfl ?_
  refine ac_seq ?_
  refine ac_region ?_
  refine al_q (q_move rfl) rfl rfl rfl ?_
  refine al_q (q_not rfl) rfl rfl rfl ?_
  refine al_end ?_
  refine aq_then ?_
  refine ac_condF rfl ?_
  refine ac_skip ?_
  refine retIN Tryz.results126 .nil .zero ?_
  refine al_end ?_
  refine aq_then ?_
  refine ac_seq ?_
  refine ac_region ?_
  refine al_q (q_move rfl) rfl rfl rfl ?_
  refine al_callS Tryz.call127 (.cons rfl (.cons rfl .nil)) rfl rfl (fun w4 hs4 => ?_)
  refine (split_at _ _ [⟨#[99, 111, 105, 108]⟩, ⟨#[99]⟩, ⟨#[48]⟩, ⟨#[48]⟩, ⟨#[50]⟩, ⟨#[49, 48]⟩, ⟨#[53]⟩, ⟨#[49, 48, 48, 48]⟩, ⟨#[49]⟩] 9 _ (hE.below hs4.below) (by decide) (by decide) (by kernel_rfl) (by kernel_rfl)).mono ?_
  rintro e u4 ⟨rfl, hb_4, hx_4⟩
  refine ⟨_, _, _, rfl, hs4.adopt hb_4 (Nat.le_refl _) hx_4, ?_⟩
  generalize (World.heap w4).size = b6
  refine al_q (q_fieldAddr 12 rfl Tryz.runUnderlying152 rfl Tryz.sizeOf150 (by decide) rfl) rfl rfl rfl ?_
  refine al_store1 (i := 4) rfl rfl rfl rfl Tryz.sizeOf150 .k12 .k4 rfl ?_
  refine al_end ?_
  refine aq_then ?_
  refine ac_seq ?_
  refine ac_region ?_
  refine al_q (q_move rfl) rfl rfl rfl ?_
  refine al_inl Tryz.call128 (.cons rfl .nil) rfl rfl Tryz.func128 rfl rfl ?_
  refine ac_seq ?_
  refine ac_region ?_
  refine al_q (q_assign rfl) rfl rfl rfl ?_
  refine al_end ?_
  refine aq_then ?_
  refine ac_seq ?_
  refine ac_region ?_
  refine al_q (q_move rfl) rfl rfl rfl ?_
  refine al_q (q_move rfl) rfl rfl rfl ?_
  refine al_q (q_nilCheckP rfl) rfl rfl rfl ?_
  refine al_q (q_fieldAddr 12 rfl Tryz.runUnderlying152 rfl Tryz.sizeOf150 (by decide) rfl) rfl rfl rfl ?_
  refine al_q (q_load (i := 4) rfl rfl rfl Tryz.isAgg150) rfl rfl rfl ?_
  refine al_q (q_same (v' := .int .i64 9) (q_lenS rfl Tryz.runUnderlying150) rfl) rfl rfl rfl ?_
  refine al_q (q_same (v' := .bool true) (q_gtr rfl rfl) rfl) rfl rfl rfl ?_
  refine al_q (q_move rfl) rfl rfl rfl ?_
  refine al_q (q_move rfl) rfl rfl rfl ?_
  refine al_q (q_nilCheckP rfl) rfl rfl rfl ?_
  refine al_q (q_fieldAddr 12 rfl Tryz.runUnderlying152 rfl Tryz.sizeOf150 (by decide) rfl) rfl rfl rfl ?_
  refine al_q (q_load (i := 4) rfl rfl rfl Tryz.isAgg150) rfl rfl rfl ?_
  refine al_q (q_indexAddr (i := 0) 0 rfl rfl rfl (by decide) Tryz.runUnderlying150 Tryz.sizeOf9 rfl) rfl rfl rfl ?_
  refine al_q (q_load (i := 0) rfl rfl rfl Tryz.isAgg9) rfl rfl rfl ?_
  refine al_q (q_same (v' := .bool true) (q_neqT rfl rfl) (by kernel_rfl)) rfl rfl rfl ?_
  refine al_q (q_pickT rfl rfl) rfl rfl rfl ?_
  refine al_inl Tryz.call126 (.cons rfl (.cons rfl .nil)) rfl rfl Tryz.func126 rfl rfl ?_
  refine ac_seq ?_
  refine ac_region ?_
  refine al_q (q_move rfl) rfl rfl rfl ?_
  refine al_q (q_not rfl) rfl rfl rfl ?_
  refine al_end ?_
  refine aq_then ?_
  refine ac_condF rfl ?_
  refine ac_skip ?_
  refine retIN Tryz.results126 .nil .zero ?_
  refine al_end ?_
  refine aq_then ?_
  refine ac_seq ?_
  refine ac_region ?_
  refine al_q (q_move rfl) rfl rfl rfl ?_
  refine al_q (q_nilCheckP rfl) rfl rfl rfl ?_
  refine al_q (q_fieldAddr 12 rfl Tryz.runUnderlying152 rfl Tryz.sizeOf150 (by decide) rfl) rfl rfl rfl ?_
  refine al_q (q_load (i := 4) rfl rfl rfl Tryz.isAgg150) rfl rfl rfl ?_
  refine al_q (q_indexAddr (i := 0) 0 rfl rfl rfl (by decide) Tryz.runUnderlying150 Tryz.sizeOf9 rfl) rfl rfl rfl ?_
  refine al_q (q_load (i := 0) rfl rfl rfl Tryz.isAgg9) rfl rfl rfl ?_
  refine al_q (q_assign rfl) rfl rfl rfl ?_
  refine al_end ?_
  refine aq_then ?_
  refine aq_keepL [0, 2, 3] (.cons rfl (.cons rfl (.cons rfl .nil))) ?_
  refine aq_keepU ?_
  refine ac_seq ?_
  refine ac_region ?_
  refine al_q (q_move rfl) rfl rfl rfl ?_
  refine al_q (q_move rfl) rfl rfl rfl ?_
  refine al_q (q_nilCheckP rfl) rfl rfl rfl ?_
  refine al_q (q_fieldAddr 12 rfl Tryz.runUnderlying152 rfl Tryz.sizeOf150 (by decide) rfl) rfl rfl rfl ?_
  refine al_q (q_load (i := 4) rfl rfl rfl Tryz.isAgg150) rfl rfl rfl ?_
  refine al_q (q_same (v' := .slice (some ⟨b6, 1, none⟩) 8 8) (q_fromS (lo := 1) rfl rfl rfl (by decide) (by decide) Tryz.underlying150 Tryz.sizeOf9 rfl) rfl) rfl rfl rfl ?_
  refine al_q (q_nilCheckP rfl) rfl rfl rfl ?_
  refine al_q (q_fieldAddr 12 rfl Tryz.runUnderlying152 rfl Tryz.sizeOf150 (by decide) rfl) rfl rfl rfl ?_
  refine al_store1 (i := 4) rfl rfl rfl rfl Tryz.sizeOf150 .k12 .k4 rfl ?_
  refine al_end ?_
  refine aq_then ?_
  refine ac_seq ?_
  refine ac_region ?_
  refine al_q (q_move rfl) rfl rfl rfl ?_
  refine al_q (q_assign rfl) rfl rfl rfl ?_
  refine al_end ?_
  refine aq_then ?_
  refine ac_ret ?_
  refine retI Tryz.results128 (.tmp rfl .nil) .one ?_
  refine al_q (q_lookup2 (i := 3) (j := 1) (v := (.agg #[(.int .i64 2), (.int .i64 1), (.int .i64 2), (.func (.func 141) #[] #[])])) rfl rfl rfl Tryz.underlying153 Tryz.underlying9 rfl rfl (by kernel_rfl)) rfl rfl rfl ?_
  refine al_q (q_move rfl) rfl rfl rfl ?_
  refine al_q (q_extract rfl rfl) rfl rfl rfl ?_
  refine al_q (q_extract rfl rfl) rfl rfl rfl ?_
  refine al_new (fun b => .pointer (some ⟨b, 0, none⟩)) (r_alloc Tryz.zeroValue161 rfl) rfl rfl rfl ?_
  intro b7
  refine al_storeAll (i := 0) rfl rfl rfl rfl Tryz.sizeOf161 rfl rfl .k0 rfl ?_
  refine al_q (q_assign rfl) rfl rfl rfl ?_
  refine al_end ?_
  refine aq_then ?_
  refine ac_seq ?_
  refine ac_region ?_
  refine al_q (q_move rfl) rfl rfl rfl ?_
  refine al_q (q_move rfl) rfl rfl rfl ?_
  refine al_q (q_fieldAddr 11 rfl Tryz.runUnderlying152 rfl Tryz.sizeOf3 (by decide) rfl) rfl rfl rfl ?_
  refine al_q (q_load (i := 5) rfl rfl rfl Tryz.isAgg3) rfl rfl rfl ?_
  refine al_q (q_fieldAddr 1 rfl Tryz.runUnderlying161 rfl Tryz.sizeOf3 (by decide) rfl) rfl rfl rfl ?_
  refine al_q (q_load (i := 0) rfl rfl rfl Tryz.isAgg3) rfl rfl rfl ?_
  refine al_q (q_fieldAddr 2 rfl Tryz.runUnderlying161 rfl Tryz.sizeOf3 (by decide) rfl) rfl rfl rfl ?_
  refine al_q (q_load (i := 0) rfl rfl rfl Tryz.isAgg3) rfl rfl rfl ?_
  refine al_inl Tryz.call74 (.cons rfl (.cons rfl (.cons rfl .nil))) rfl rfl Tryz.func74 rfl rfl ?_
  refine ac_seq ?_
  refine ac_region ?_
  refine al_q (q_assign rfl) rfl rfl rfl ?_
  refine al_end ?_
  refine aq_then ?_
  refine ac_seq ?_
  refine ac_region ?_
  refine al_q (q_move rfl) rfl rfl rfl ?_
  refine al_q (q_move rfl) rfl rfl rfl ?_
  refine al_q (q_same (v' := .bool true) (q_leq rfl rfl) rfl) rfl rfl rfl ?_
  refine al_q (q_move rfl) rfl rfl rfl ?_
  refine al_q (q_move rfl) rfl rfl rfl ?_
  refine al_q (q_move rfl) rfl rfl rfl ?_
  refine al_q (q_same (v' := .bool true) (q_leq rfl rfl) rfl) rfl rfl rfl ?_
  refine al_q (q_pickT rfl rfl) rfl rfl rfl ?_
  refine al_q (q_assign rfl) rfl rfl rfl ?_
  refine al_end ?_
  refine aq_then ?_
  refine ac_ret ?_
  refine retI Tryz.results74 (.tmp rfl .nil) .one ?_
  refine al_q (q_pickT rfl rfl) rfl rfl rfl ?_
  refine al_inl Tryz.call126 (.cons rfl (.cons rfl .nil)) rfl rfl Tryz.func126 rfl rfl ?_
  refine ac_seq ?_
  refine ac_region ?_
  refine al_q (q_move rfl) rfl rfl rfl ?_
  refine al_q (q_not rfl) rfl rfl rfl ?_
  refine al_end ?_
  refine aq_then ?_
  refine ac_condF rfl ?_
  refine ac_skip ?_
  refine retIN Tryz.results126 .nil .zero ?_
  refine al_end ?_
  refine aq_then ?_
  refine ac_seq ?_
  refine ac_region ?_
  refine al_q (q_fieldAddr 3 rfl Tryz.runUnderlying161 rfl Tryz.sizeOf159 (by decide) rfl) rfl rfl rfl ?_
  refine al_q (q_load (i := 0) rfl rfl rfl Tryz.isAgg159) rfl rfl rfl ?_
  refine al_inlV (fi := []) (ca := []) rfl Tryz.call141 (.cons rfl .nil) rfl rfl Tryz.func141 rfl rfl ?_
  refine ac_seq ?_
  refine ac_region ?_
  refine al_q (q_move rfl) rfl rfl rfl ?_
  refine al_inl Tryz.call128 (.cons rfl .nil) rfl rfl Tryz.func128 rfl rfl ?_
  refine ac_seq ?_
  refine ac_region ?_
  refine al_q (q_assign rfl) rfl rfl rfl ?_
  refine al_end ?_
  refine aq_then ?_
  refine ac_seq ?_
  refine ac_region ?_
  refine al_q (q_move rfl) rfl rfl rfl ?_
  refine al_q (q_move rfl) rfl rfl rfl ?_
  refine al_q (q_nilCheckP rfl) rfl rfl rfl ?_
  refine al_q (q_fieldAddr 12 rfl Tryz.runUnderlying152 rfl Tryz.sizeOf150 (by decide) rfl) rfl rfl rfl ?_
  refine al_q (q_load (i := 5) rfl rfl rfl Tryz.isAgg150) rfl rfl rfl ?_
  refine al_q (q_same (v' := .int .i64 8) (q_lenS rfl Tryz.runUnderlying150) rfl) rfl rfl rfl ?_
  refine al_q (q_same (v' := .bool true) (q_gtr rfl rfl) rfl) rfl rfl rfl ?_
  refine al_q (q_move rfl) rfl rfl rfl ?_
  refine al_q (q_move rfl) rfl rfl rfl ?_
  refine al_q (q_nilCheckP rfl) rfl rfl rfl ?_
  refine al_q (q_fieldAddr 12 rfl Tryz.runUnderlying152 rfl Tryz.sizeOf150 (by decide) rfl) rfl rfl rfl ?_
  refine al_q (q_load (i := 5) rfl rfl rfl Tryz.isAgg150) rfl rfl rfl ?_
  refine al_q (q_indexAddr (i := 0) 1 rfl rfl rfl (by decide) Tryz.runUnderlying150 Tryz.sizeOf9 rfl) rfl rfl rfl ?_
  refine al_q (q_load (i := 1) rfl rfl rfl Tryz.isAgg9) rfl rfl rfl ?_
  refine al_q (q_same (v' := .bool true) (q_neqT rfl rfl) (by kernel_rfl)) rfl rfl rfl ?_
  refine al_q (q_pickT rfl rfl) rfl rfl rfl ?_
  refine al_inl Tryz.call126 (.cons rfl (.cons rfl .nil)) rfl rfl Tryz.func126 rfl rfl ?_
  refine ac_seq ?_
  refine ac_region ?_
  refine al_q (q_move rfl) rfl rfl rfl ?_
  refine al_q (q_not rfl) rfl rfl rfl ?_
  refine al_end ?_
  refine aq_then ?_
  refine ac_condF rfl ?_
  refine ac_skip ?_
  refine retIN Tryz.results126 .nil .zero ?_
  refine al_end ?_
  refine aq_then ?_
  refine ac_seq ?_
  refine ac_region ?_
  refine al_q (q_move rfl) rfl rfl rfl ?_
  refine al_q (q_nilCheckP rfl) rfl rfl rfl ?_
  refine al_q (q_fieldAddr 12 rfl Tryz.runUnderlying152 rfl Tryz.sizeOf150 (by decide) rfl) rfl rfl rfl ?_
  refine al_q (q_load (i := 5) rfl rfl rfl Tryz.isAgg150) rfl rfl rfl ?_
  refine al_q (q_indexAddr (i := 0) 1 rfl rfl rfl (by decide) Tryz.runUnderlying150 Tryz.sizeOf9 rfl) rfl rfl rfl ?_
  refine al_q (q_load (i := 1) rfl rfl rfl Tryz.isAgg9) rfl rfl rfl ?_
  refine al_q (q_assign rfl) rfl rfl rfl ?_
  refine al_end ?_
  refine aq_then ?_
  refine aq_keepL [0, 2, 3] (.cons rfl (.cons rfl (.cons rfl .nil))) ?_
  refine ac_seq ?_
  refine ac_region ?_
  refine al_q (q_move rfl) rfl rfl rfl ?_
  refine al_q (q_move rfl) rfl rfl rfl ?_
  refine al_q (q_nilCheckP rfl) rfl rfl rfl ?_
  refine al_q (q_fieldAddr 12 rfl Tryz.runUnderlying152 rfl Tryz.sizeOf150 (by decide) rfl) rfl rfl rfl ?_
  refine al_q (q_load (i := 5) rfl rfl rfl Tryz.isAgg150) rfl rfl rfl ?_
  refine al_q (q_same (v' := .slice (some ⟨b6, 2, none⟩) 7 7) (q_fromS (lo := 1) rfl rfl rfl (by decide) (by decide) Tryz.underlying150 Tryz.sizeOf9 rfl) rfl) rfl rfl rfl ?_
  refine al_q (q_nilCheckP rfl) rfl rfl rfl ?_
  refine al_q (q_fieldAddr 12 rfl Tryz.runUnderlying152 rfl Tryz.sizeOf150 (by decide) rfl) rfl rfl rfl ?_
  refine al_store1 (i := 5) rfl rfl rfl rfl Tryz.sizeOf150 .k12 .k5 rfl ?_
  refine al_end ?_
  refine aq_then ?_
  refine ac_seq ?_
  refine ac_region ?_
  refine al_q (q_move rfl) rfl rfl rfl ?_
  refine al_q (q_assign rfl) rfl rfl rfl ?_
  refine al_end ?_
  refine aq_then ?_
  refine ac_ret ?_
  refine retI Tryz.results128 (.tmp rfl .nil) .one ?_
  refine al_q (q_build (.cons rfl .nil) (par2_bl_apiCoil_0_ _ rfl)) rfl rfl rfl ?_
  refine al_new (fun b => .pointer (some ⟨b, 0, none⟩)) (r_alloc Tryz.zeroValue75 rfl) rfl rfl rfl ?_
  intro b8
  refine al_storeAll (i := 0) rfl rfl rfl rfl Tryz.sizeOf75 rfl rfl .k0 rfl ?_
  refine al_end ?_
  refine aq_then ?_
  refine ac_seq ?_
  refine ac_region ?_
  refine al_q (q_move rfl) rfl rfl rfl ?_
  refine al_q (q_fieldAddr 1 rfl Tryz.runUnderlying75 rfl Tryz.sizeOf3 (by decide) rfl) rfl rfl rfl ?_
  refine al_q (q_fieldAddr 2 rfl Tryz.runUnderlying75 rfl Tryz.sizeOf3 (by decide) rfl) rfl rfl rfl ?_
  refine al_q (q_fieldAddr 3 rfl Tryz.runUnderlying75 rfl Tryz.sizeOf3 (by decide) rfl) rfl rfl rfl ?_
  refine al_q (q_fieldAddr 4 rfl Tryz.runUnderlying75 rfl Tryz.sizeOf3 (by decide) rfl) rfl rfl rfl ?_
  refine al_q (q_fieldAddr 5 rfl Tryz.runUnderlying75 rfl Tryz.sizeOf3 (by decide) rfl) rfl rfl rfl ?_
  refine al_q (q_fieldAddr 6 rfl Tryz.runUnderlying75 rfl Tryz.sizeOf3 (by decide) rfl) rfl rfl rfl ?_
  refine al_q (q_fieldAddr 7 rfl Tryz.runUnderlying75 rfl Tryz.sizeOf3 (by decide) rfl) rfl rfl rfl ?_
  refine al_new (fun b => .slice (some ⟨b, 0, none⟩) 7 7) (r_buildSlice (.cons rfl (.cons rfl (.cons rfl (.cons rfl (.cons rfl (.cons rfl (.cons rfl .nil))))))) (par2_bs_int_7_0_1_2_3_4_5_6 _ _ _ _ _ _ _ rfl rfl rfl rfl rfl rfl rfl)) rfl rfl rfl ?_
  intro b9
  refine al_inl Tryz.call148 (.cons rfl (.cons rfl .nil)) rfl rfl Tryz.func148 rfl rfl ?_
  refine ac_seq ?_
  refine ac_region ?_
  refine al_q (q_move rfl) rfl rfl rfl ?_
  refine al_q (q_same (v' := .int .i64 7) (q_lenS rfl Tryz.runUnderlying180) rfl) rfl rfl rfl ?_
  refine al_q (q_move rfl) rfl rfl rfl ?_
  refine al_end ?_
  refine aq_then ?_
  refine ac_block ?_
  refine ac_loop1 ?_
  refine ac_seq ?_
  refine ac_region ?_
  refine al_q (q_same (v' := .bool true) (q_lss rfl rfl) rfl) rfl rfl rfl ?_
  refine al_end ?_
  refine aq_then ?_
  refine ac_seq ?_
  refine ac_condT rfl ?_
  refine ac_skip ?_
  refine aq_then ?_
  refine ac_seq ?_
  refine ac_block ?_
  refine ac_seq ?_
  refine ac_region ?_
  refine al_q (q_indexAddr (i := 0) 0 rfl rfl rfl (by decide) Tryz.runUnderlying180 Tryz.sizeOf137 rfl) rfl rfl rfl ?_
  refine al_q (q_load (i := 0) rfl rfl rfl Tryz.isAgg137) rfl rfl rfl ?_
  refine al_q (q_assign rfl) rfl rfl rfl ?_
  refine al_end ?_
  refine aq_then ?_
  refine ac_seq ?_
  refine ac_region ?_
  refine al_q (q_move rfl) rfl rfl rfl ?_
  refine al_inl Tryz.call128 (.cons rfl .nil) rfl rfl Tryz.func128 rfl rfl ?_
  refine ac_seq ?_
  refine ac_region ?_
  refine al_q (q_assign rfl) rfl rfl rfl ?_
  refine al_end ?_
  refine aq_then ?_
  refine ac_seq ?_
  refine ac_region ?_
  refine al_q (q_move rfl) rfl rfl rfl ?_
  refine al_q (q_move rfl) rfl rfl rfl ?_
  refine al_q (q_nilCheckP rfl) rfl rfl rfl ?_
  refine al_q (q_fieldAddr 12 rfl Tryz.runUnderlying152 rfl Tryz.sizeOf150 (by decide) rfl) rfl rfl rfl ?_
  refine al_q (q_load (i := 7) rfl rfl rfl Tryz.isAgg150) rfl rfl rfl ?_
  refine al_q (q_same (v' := .int .i64 7) (q_lenS rfl Tryz.runUnderlying150) rfl) rfl rfl rfl ?_
  refine al_q (q_same (v' := .bool true) (q_gtr rfl rfl) rfl) rfl rfl rfl ?_
  refine al_q (q_move rfl) rfl rfl rfl ?_
  refine al_q (q_move rfl) rfl rfl rfl ?_
  refine al_q (q_nilCheckP rfl) rfl rfl rfl ?_
  refine al_q (q_fieldAddr 12 rfl Tryz.runUnderlying152 rfl Tryz.sizeOf150 (by decide) rfl) rfl rfl rfl ?_
  refine al_q (q_load (i := 7) rfl rfl rfl Tryz.isAgg150) rfl rfl rfl ?_
  refine al_q (q_indexAddr (i := 0) 2 rfl rfl rfl (by decide) Tryz.runUnderlying150 Tryz.sizeOf9 rfl) rfl rfl rfl ?_
  refine al_q (q_load (i := 3) rfl rfl rfl Tryz.isAgg9) rfl rfl rfl ?_
  refine al_q (q_same (v' := .bool true) (q_neqT rfl rfl) (by kernel_rfl)) rfl rfl rfl ?_
  refine al_q (q_pickT rfl rfl) rfl rfl rfl ?_
  refine al_inl Tryz.call126 (.cons rfl (.cons rfl .nil)) rfl rfl Tryz.func126 rfl rfl ?_
  refine ac_seq ?_
  refine ac_region ?_
  refine al_q (q_move rfl) rfl rfl rfl ?_
  refine al_q (q_not rfl) rfl rfl rfl ?_
  refine al_end ?_
  refine aq_then ?_
  refine ac_condF rfl ?_
  refine ac_skip ?_
  refine retIN Tryz.results126 .nil .zero ?_
  refine al_end ?_
  refine aq_then ?_
  refine ac_seq ?_
  refine ac_region ?_
  refine al_q (q_move rfl) rfl rfl rfl ?_
  refine al_q (q_nilCheckP rfl) rfl rfl rfl ?_
  refine al_q (q_fieldAddr 12 rfl Tryz.runUnderlying152 rfl Tryz.sizeOf150 (by decide) rfl) rfl rfl rfl ?_
  refine al_q (q_load (i := 7) rfl rfl rfl Tryz.isAgg150) rfl rfl rfl ?_
  refine al_q (q_indexAddr (i := 0) 2 rfl rfl rfl (by decide) Tryz.runUnderlying150 Tryz.sizeOf9 rfl) rfl rfl rfl ?_
  refine al_q (q_load (i := 3) rfl rfl rfl Tryz.isAgg9) rfl rfl rfl ?_
  refine al_q (q_assign rfl) rfl rfl rfl ?_
  refine al_end ?_
  refine aq_then ?_
  refine ac_seq ?_
  refine ac_region ?_
  refine al_q (q_move rfl) rfl rfl rfl ?_
  refine al_q (q_move rfl) rfl rfl rfl ?_
  refine al_q (q_nilCheckP rfl) rfl rfl rfl ?_
  refine al_q (q_fieldAddr 12 rfl Tryz.runUnderlying152 rfl Tryz.sizeOf150 (by decide) rfl) rfl rfl rfl ?_
  refine al_q (q_load (i := 7) rfl rfl rfl Tryz.isAgg150) rfl rfl rfl ?_
  refine al_q (q_same (v' := .slice (some ⟨b6, 3, none⟩) 6 6) (q_fromS (lo := 1) rfl rfl rfl (by decide) (by decide) Tryz.underlying150 Tryz.sizeOf9 rfl) rfl) rfl rfl rfl ?_
  refine al_q (q_nilCheckP rfl) rfl rfl rfl ?_
  refine al_q (q_fieldAddr 12 rfl Tryz.runUnderlying152 rfl Tryz.sizeOf150 (by decide) rfl) rfl rfl rfl ?_
  refine al_store1 (i := 7) rfl rfl rfl rfl Tryz.sizeOf150 .k12 .k7 rfl ?_
  refine al_end ?_
  refine aq_then ?_
  refine aq_keepL [2, 3] (.cons rfl (.cons rfl .nil)) ?_
  refine ac_seq ?_
  refine ac_region ?_
  refine al_q (q_move rfl) rfl rfl rfl ?_
  refine al_q (q_assign rfl) rfl rfl rfl ?_
  refine al_end ?_
  refine aq_then ?_
  refine ac_ret ?_
  refine retI Tryz.results128 (.tmp rfl .nil) .one ?_
  refine al_q (q_assign rfl) rfl rfl rfl ?_
  refine al_end ?_
  refine aq_then ?_
  refine ac_seq ?_
  refine ac_region ?_
  refine al_q (q_move rfl) rfl rfl rfl ?_
  refine al_call Tryz.call154 (.cons rfl .nil) rfl rfl (fun w5 hs5 => ?_)
  refine (atoi_at _ 0 _ (by decide) (by kernel_rfl)).mono ?_
  rintro e u5 ⟨rfl, hb_5⟩
  refine ⟨_, rfl, hb_5, ?_⟩
  clear hs5
  refine al_q (q_move rfl) rfl rfl rfl ?_
  refine al_q (q_extract rfl rfl) rfl rfl rfl ?_
  refine al_q (q_extract rfl rfl) rfl rfl rfl ?_
  refine al_q (q_assign rfl) rfl rfl rfl ?_
  refine al_q (q_assign rfl) rfl rfl rfl ?_
  refine al_end ?_
  refine aq_then ?_
  refine ac_seq ?_
  refine ac_region ?_
  refine al_q (q_move rfl) rfl rfl rfl ?_
  refine al_q (q_move rfl) rfl rfl rfl ?_
  refine al_q (q_eqlNilI rfl Tryz.underlying182) rfl rfl rfl ?_
  refine al_q (q_move rfl) rfl rfl rfl ?_
  refine al_q (q_move rfl) rfl rfl rfl ?_
  refine al_call Tryz.call155 (.cons rfl .nil) rfl rfl (fun w6 hs6 => ?_)
  refine (itoa_at _ ⟨#[48]⟩ _ (hE.below hs6.below) (by decide) (by decide) (by kernel_rfl)).mono ?_
  rintro e u6 ⟨rfl, hb_6⟩
  refine ⟨_, rfl, hb_6, ?_⟩
  clear hs6
  refine al_q (q_move rfl) rfl rfl rfl ?_
  refine al_q (q_same (v' := .bool true) (q_eqlT rfl rfl) (by kernel_rfl)) rfl rfl rfl ?_
  refine al_q (q_pickT rfl rfl) rfl rfl rfl ?_
  refine al_q (q_move rfl) rfl rfl rfl ?_
  refine al_q (q_move rfl) rfl rfl rfl ?_
  refine al_inl Tryz.call74 (.cons rfl (.cons rfl (.cons rfl .nil))) rfl rfl Tryz.func74 rfl rfl ?_
  refine ac_seq ?_
  refine ac_region ?_
  refine al_q (q_assign rfl) rfl rfl rfl ?_
  refine al_end ?_
  refine aq_then ?_
  refine ac_seq ?_
  refine ac_region ?_
  refine al_q (q_move rfl) rfl rfl rfl ?_
  refine al_q (q_move rfl) rfl rfl rfl ?_
  refine al_q (q_same (v' := .bool true) (q_leq rfl rfl) rfl) rfl rfl rfl ?_
  refine al_q (q_move rfl) rfl rfl rfl ?_
  refine al_q (q_move rfl) rfl rfl rfl ?_
  refine al_q (q_move rfl) rfl rfl rfl ?_
  refine al_q (q_same (v' := .bool true) (q_leq rfl rfl) rfl) rfl rfl rfl ?_
  refine al_q (q_pickT rfl rfl) rfl rfl rfl ?_
  refine al_q (q_assign rfl) rfl rfl rfl ?_
  refine al_end ?_
  refine aq_then ?_
  refine ac_ret ?_
  refine retI Tryz.results74 (.tmp rfl .nil) .one ?_
  refine al_q (q_pickT rfl rfl) rfl rfl rfl ?_
  refine al_inl Tryz.call126 (.cons rfl (.cons rfl .nil)) rfl rfl Tryz.func126 rfl rfl ?_
  refine ac_seq ?_
  refine ac_region ?_
  refine al_q (q_move rfl) rfl rfl rfl ?_
  refine al_q (q_not rfl) rfl rfl rfl ?_
  refine al_end ?_
  refine aq_then ?_
  refine ac_condF rfl ?_
  refine ac_skip ?_
  refine retIN Tryz.results126 .nil .zero ?_
  refine al_end ?_
  refine aq_then ?_
  refine ac_region ?_
  refine al_q (q_move rfl) rfl rfl rfl ?_
  refine al_q (q_move rfl) rfl rfl rfl ?_
  refine al_q (q_nilCheckP rfl) rfl rfl rfl ?_
  refine al_store1 (i := 1) rfl rfl rfl rfl Tryz.sizeOf3 .k1 .k1 rfl ?_
  refine al_end ?_
  refine aq_inN ?_
  refine aq_then ?_
  refine ac_region ?_
  refine al_q (q_same (v' := .int .i64 1) (q_add rfl rfl (by omega)) rfl) rfl rfl rfl ?_
  refine al_q (q_move rfl) rfl rfl rfl ?_
  refine al_end ?_
  refine aq_then (aq_again ?_)
  refine ac_seq ?_
  refine ac_region ?_
  refine al_q (q_same (v' := .bool true) (q_lss rfl rfl) rfl) rfl rfl rfl ?_
  refine al_end ?_
  refine aq_then ?_
  refine ac_seq ?_
  refine ac_condT rfl ?_
  refine ac_skip ?_
  refine aq_then ?_
  refine ac_seq ?_
  refine ac_block ?_
  refine ac_seq ?_
  refine ac_region ?_
  refine al_q (q_indexAddr (i := 1) 1 rfl rfl rfl (by decide) Tryz.runUnderlying180 Tryz.sizeOf137 rfl) rfl rfl rfl ?_
  refine al_q (q_load (i := 0) rfl rfl rfl Tryz.isAgg137) rfl rfl rfl ?_
  refine al_q (q_assign rfl) rfl rfl rfl ?_
  refine al_end ?_
  refine aq_then ?_
  refine ac_seq ?_
  refine ac_region ?_
  refine al_q (q_move rfl) rfl rfl rfl ?_
  refine al_inl Tryz.call128 (.cons rfl .nil) rfl rfl Tryz.func128 rfl rfl ?_
  refine ac_seq ?_
  refine ac_region ?_
  refine al_q (q_assign rfl) rfl rfl rfl ?_
  refine al_end ?_
  refine aq_then ?_
  refine ac_seq ?_
  refine ac_region ?_
  refine al_q (q_move rfl) rfl rfl rfl ?_
  refine al_q (q_move rfl) rfl rfl rfl ?_
  refine al_q (q_nilCheckP rfl) rfl rfl rfl ?_
  refine al_q (q_fieldAddr 12 rfl Tryz.runUnderlying152 rfl Tryz.sizeOf150 (by decide) rfl) rfl rfl rfl ?_
  refine al_q (q_load (i := 7) rfl rfl rfl Tryz.isAgg150) rfl rfl rfl ?_
  refine al_q (q_same (v' := .int .i64 6) (q_lenS rfl Tryz.runUnderlying150) rfl) rfl rfl rfl ?_
  refine al_q (q_same (v' := .bool true) (q_gtr rfl rfl) rfl) rfl rfl rfl ?_
  refine al_q (q_move rfl) rfl rfl rfl ?_
  refine al_q (q_move rfl) rfl rfl rfl ?_
  refine al_q (q_nilCheckP rfl) rfl rfl rfl ?_
  refine al_q (q_fieldAddr 12 rfl Tryz.runUnderlying152 rfl Tryz.sizeOf150 (by decide) rfl) rfl rfl rfl ?_
  refine al_q (q_load (i := 7) rfl rfl rfl Tryz.isAgg150) rfl rfl rfl ?_
  refine al_q (q_indexAddr (i := 0) 3 rfl rfl rfl (by decide) Tryz.runUnderlying150 Tryz.sizeOf9 rfl) rfl rfl rfl ?_
  refine al_q (q_load (i := 3) rfl rfl rfl Tryz.isAgg9) rfl rfl rfl ?_
  refine al_q (q_same (v' := .bool true) (q_neqT rfl rfl) (by kernel_rfl)) rfl rfl rfl ?_
  refine al_q (q_pickT rfl rfl) rfl rfl rfl ?_
  refine al_inl Tryz.call126 (.cons rfl (.cons rfl .nil)) rfl rfl Tryz.func126 rfl rfl ?_
  refine ac_seq ?_
  refine ac_region ?_
  refine al_q (q_move rfl) rfl rfl rfl ?_
  refine al_q (q_not rfl) rfl rfl rfl ?_
  refine al_end ?_
  refine aq_then ?_
  refine aq_keepL [0, 5] (.cons rfl (.cons rfl .nil)) ?_
  refine aq_keepU ?_
  refine ac_condF rfl ?_
  refine ac_skip ?_
  refine retIN Tryz.results126 .nil .zero ?_
  refine al_end ?_
  refine aq_then ?_
  refine ac_seq ?_
  refine ac_region ?_
  refine al_q (q_move rfl) rfl rfl rfl ?_
  refine al_q (q_nilCheckP rfl) rfl rfl rfl ?_
  refine al_q (q_fieldAddr 12 rfl Tryz.runUnderlying152 rfl Tryz.sizeOf150 (by decide) rfl) rfl rfl rfl ?_
  refine al_q (q_load (i := 7) rfl rfl rfl Tryz.isAgg150) rfl rfl rfl ?_
  refine al_q (q_indexAddr (i := 0) 3 rfl rfl rfl (by decide) Tryz.runUnderlying150 Tryz.sizeOf9 rfl) rfl rfl rfl ?_
  refine al_q (q_load (i := 3) rfl rfl rfl Tryz.isAgg9) rfl rfl rfl ?_
  refine al_q (q_assign rfl) rfl rfl rfl ?_
  refine al_end ?_
  refine aq_then ?_
  refine ac_seq ?_
  refine ac_region ?_
  refine al_q (q_move rfl) rfl rfl rfl ?_
  refine al_q (q_move rfl) rfl rfl rfl ?_
  refine al_q (q_nilCheckP rfl) rfl rfl rfl ?_
  refine al_q (q_fieldAddr 12 rfl Tryz.runUnderlying152 rfl Tryz.sizeOf150 (by decide) rfl) rfl rfl rfl ?_
  refine al_q (q_load (i := 7) rfl rfl rfl Tryz.isAgg150) rfl rfl rfl ?_
  refine al_q (q_same (v' := .slice (some ⟨b6, 4, none⟩) 5 5) (q_fromS (lo := 1) rfl rfl rfl (by decide) (by decide) Tryz.underlying150 Tryz.sizeOf9 rfl) rfl) rfl rfl rfl ?_
  refine al_q (q_nilCheckP rfl) rfl rfl rfl ?_
  refine al_q (q_fieldAddr 12 rfl Tryz.runUnderlying152 rfl Tryz.sizeOf150 (by decide) rfl) rfl rfl rfl ?_
  refine al_store1 (i := 7) rfl rfl rfl rfl Tryz.sizeOf150 .k12 .k7 rfl ?_
  refine al_end ?_
  refine aq_then ?_
  refine ac_seq ?_
  refine ac_region ?_
  refine al_q (q_move rfl) rfl rfl rfl ?_
  refine al_q (q_assign rfl) rfl rfl rfl ?_
  refine al_end ?_
  refine aq_then ?_
  refine ac_ret ?_
  refine retI Tryz.results128 (.tmp rfl .nil) .one ?_
  refine al_q (q_assign rfl) rfl rfl rfl ?_
  refine al_end ?_
  refine aq_then ?_
  refine ac_seq ?_
  refine ac_region ?_
  refine al_q (q_move rfl) rfl rfl rfl ?_
  refine al_call Tryz.call154 (.cons rfl .nil) rfl rfl (fun w7 hs7 => ?_)
  refine (atoi_at _ 0 _ (by decide) (by kernel_rfl)).mono ?_
  rintro e u7 ⟨rfl, hb_7⟩
  refine ⟨_, rfl, hb_7, ?_⟩
  clear hs7
  refine al_q (q_move rfl) rfl rfl rfl ?_
  refine al_q (q_extract rfl rfl) rfl rfl rfl ?_
  refine al_q (q_extract rfl rfl) rfl rfl rfl ?_
  refine al_q (q_assign rfl) rfl rfl rfl ?_
  refine al_q (q_assign rfl) rfl rfl rfl ?_
  refine al_end ?_
  refine aq_then ?_
  refine ac_seq ?_
  refine ac_region ?_
  refine al_q (q_move rfl) rfl rfl rfl ?_
  refine al_q (q_move rfl) rfl rfl rfl ?_
  refine al_q (q_eqlNilI rfl Tryz.underlying182) rfl rfl rfl ?_
  refine al_q (q_move rfl) rfl rfl rfl ?_
  refine al_q (q_move rfl) rfl rfl rfl ?_
  refine al_call Tryz.call155 (.cons rfl .nil) rfl rfl (fun w8 hs8 => ?_)
  refine (itoa_at _ ⟨#[48]⟩ _ (hE.below hs8.below) (by decide) (by decide) (by kernel_rfl)).mono ?_
  rintro e u8 ⟨rfl, hb_8⟩
  refine ⟨_, rfl, hb_8, ?_⟩
  clear hs8
  refine al_q (q_move rfl) rfl rfl rfl ?_
  refine al_q (q_same (v' := .bool true) (q_eqlT rfl rfl) (by kernel_rfl)) rfl rfl rfl ?_
  refine al_q (q_pickT rfl rfl) rfl rfl rfl ?_
  refine al_q (q_move rfl) rfl rfl rfl ?_
  refine al_q (q_move rfl) rfl rfl rfl ?_
  refine al_inl Tryz.call74 (.cons rfl (.cons rfl (.cons rfl .nil))) rfl rfl Tryz.func74 rfl rfl ?_
  refine ac_seq ?_
  refine ac_region ?_
  refine al_q (q_assign rfl) rfl rfl rfl ?_
  refine al_end ?_
  refine aq_then ?_
  refine ac_seq ?_
  refine ac_region ?_
  refine al_q (q_move rfl) rfl rfl rfl ?_
  refine al_q (q_move rfl) rfl rfl rfl ?_
  refine al_q (q_same (v' := .bool true) (q_leq rfl rfl) rfl) rfl rfl rfl ?_
  refine al_q (q_move rfl) rfl rfl rfl ?_
  refine al_q (q_move rfl) rfl rfl rfl ?_
  refine al_q (q_move rfl) rfl rfl rfl ?_
  refine al_q (q_same (v' := .bool true) (q_leq rfl rfl) rfl) rfl rfl rfl ?_
  refine al_q (q_pickT rfl rfl) rfl rfl rfl ?_
  refine al_q (q_assign rfl) rfl rfl rfl ?_
  refine al_end ?_
  refine aq_then ?_
  refine ac_ret ?_
  refine retI Tryz.results74 (.tmp rfl .nil) .one ?_
  refine al_q (q_pickT rfl rfl) rfl rfl rfl ?_
  refine al_inl Tryz.call126 (.cons rfl (.cons rfl .nil)) rfl rfl Tryz.func126 rfl rfl ?_
  refine ac_seq ?_
  refine ac_region ?_
  refine al_q (q_move rfl) rfl rfl rfl ?_
  refine al_q (q_not rfl) rfl rfl rfl ?_
  refine al_end ?_
  refine aq_then ?_
  refine ac_condF rfl ?_
  refine ac_skip ?_
  refine retIN Tryz.results126 .nil .zero ?_
  refine al_end ?_
  refine aq_then ?_
  refine ac_region ?_
  refine al_q (q_move rfl) rfl rfl rfl ?_
  refine al_q (q_move rfl) rfl rfl rfl ?_
  refine al_q (q_nilCheckP rfl) rfl rfl rfl ?_
  refine al_store1 (i := 1) rfl rfl rfl rfl Tryz.sizeOf3 .k2 .k1 rfl ?_
  refine al_end ?_
  refine aq_inN ?_
  refine aq_then ?_
  refine ac_region ?_
  refine al_q (q_same (v' := .int .i64 2) (q_add rfl rfl (by omega)) rfl) rfl rfl rfl ?_
  refine al_q (q_move rfl) rfl rfl rfl ?_
  refine al_end ?_
  refine aq_then (aq_again ?_)
  refine ac_seq ?_
  refine ac_region ?_
  refine al_q (q_same (v' := .bool true) (q_lss rfl rfl) rfl) rfl rfl rfl ?_
  refine al_end ?_
  refine aq_then ?_
  refine ac_seq ?_
  refine ac_condT rfl ?_
  refine ac_skip ?_
  refine aq_then ?_
  refine ac_seq ?_
  refine ac_block ?_
  refine ac_seq ?_
  refine ac_region ?_
  refine al_q (q_indexAddr (i := 2) 2 rfl rfl rfl (by decide) Tryz.runUnderlying180 Tryz.sizeOf137 rfl) rfl rfl rfl ?_
  refine al_q (q_load (i := 0) rfl rfl rfl Tryz.isAgg137) rfl rfl rfl ?_
  refine al_q (q_assign rfl) rfl rfl rfl ?_
  refine al_end ?_
  refine aq_then ?_
  refine ac_seq ?_
  refine ac_region ?_
  refine al_q (q_move rfl) rfl rfl rfl ?_
  refine al_inl Tryz.call128 (.cons rfl .nil) rfl rfl Tryz.func128 rfl rfl ?_
  refine ac_seq ?_
  refine ac_region ?_
  refine al_q (q_assign rfl) rfl rfl rfl ?_
  refine al_end ?_
  refine aq_then ?_
  refine ac_seq ?_
  refine ac_region ?_
  refine al_q (q_move rfl) rfl rfl rfl ?_
  refine al_q (q_move rfl) rfl rfl rfl ?_
  refine al_q (q_nilCheckP rfl) rfl rfl rfl ?_
  refine al_q (q_fieldAddr 12 rfl Tryz.runUnderlying152 rfl Tryz.sizeOf150 (by decide) rfl) rfl rfl rfl ?_
  refine al_q (q_load (i := 7) rfl rfl rfl Tryz.isAgg150) rfl rfl rfl ?_
  refine al_q (q_same (v' := .int .i64 5) (q_lenS rfl Tryz.runUnderlying150) rfl) rfl rfl rfl ?_
  refine al_q (q_same (v' := .bool true) (q_gtr rfl rfl) rfl) rfl rfl rfl ?_
  refine al_q (q_move rfl) rfl rfl rfl ?_
  refine al_q (q_move rfl) rfl rfl rfl ?_
  refine al_q (q_nilCheckP rfl) rfl rfl rfl ?_
  refine al_q (q_fieldAddr 12 rfl Tryz.runUnderlying152 rfl Tryz.sizeOf150 (by decide) rfl) rfl rfl rfl ?_
  refine al_q (q_load (i := 7) rfl rfl rfl Tryz.isAgg150) rfl rfl rfl ?_
  refine al_q (q_indexAddr (i := 0) 4 rfl rfl rfl (by decide) Tryz.runUnderlying150 Tryz.sizeOf9 rfl) rfl rfl rfl ?_
  refine al_q (q_load (i := 3) rfl rfl rfl Tryz.isAgg9) rfl rfl rfl ?_
  refine al_q (q_same (v' := .bool true) (q_neqT rfl rfl) (by kernel_rfl)) rfl rfl rfl ?_
  refine al_q (q_pickT rfl rfl) rfl rfl rfl ?_
  refine al_inl Tryz.call126 (.cons rfl (.cons rfl .nil)) rfl rfl Tryz.func126 rfl rfl ?_
  refine ac_seq ?_
  refine ac_region ?_
  refine al_q (q_move rfl) rfl rfl rfl ?_
  refine al_q (q_not rfl) rfl rfl rfl ?_
  refine al_end ?_
  refine aq_then ?_
  refine aq_keepL [0, 5] (.cons rfl (.cons rfl .nil)) ?_
  refine aq_keepU ?_
  refine ac_condF rfl ?_
  refine ac_skip ?_
  refine retIN Tryz.results126 .nil .zero ?_
  refine al_end ?_
  refine aq_then ?_
  refine ac_seq ?_
  refine ac_region ?_
  refine al_q (q_move rfl) rfl rfl rfl ?_
  refine al_q (q_nilCheckP rfl) rfl rfl rfl ?_
  refine al_q (q_fieldAddr 12 rfl Tryz.runUnderlying152 rfl Tryz.sizeOf150 (by decide) rfl) rfl rfl rfl ?_
  refine al_q (q_load (i := 7) rfl rfl rfl Tryz.isAgg150) rfl rfl rfl ?_
  refine al_q (q_indexAddr (i := 0) 4 rfl rfl rfl (by decide) Tryz.runUnderlying150 Tryz.sizeOf9 rfl) rfl rfl rfl ?_
  refine al_q (q_load (i := 3) rfl rfl rfl Tryz.isAgg9) rfl rfl rfl ?_
  refine al_q (q_assign rfl) rfl rfl rfl ?_
  refine al_end ?_
  refine aq_then ?_
  refine ac_seq ?_
  refine ac_region ?_
  refine al_q (q_move rfl) rfl rfl rfl ?_
  refine al_q (q_move rfl) rfl rfl rfl ?_
  refine al_q (q_nilCheckP rfl) rfl rfl rfl ?_
  refine al_q (q_fieldAddr 12 rfl Tryz.runUnderlying152 rfl Tryz.sizeOf150 (by decide) rfl) rfl rfl rfl ?_
  refine al_q (q_load (i := 7) rfl rfl rfl Tryz.isAgg150) rfl rfl rfl ?_
  refine al_q (q_same (v' := .slice (some ⟨b6, 5, none⟩) 4 4) (q_fromS (lo := 1) rfl rfl rfl (by decide) (by decide) Tryz.underlying150 Tryz.sizeOf9 rfl) rfl) rfl rfl rfl ?_
  refine al_q (q_nilCheckP rfl) rfl rfl rfl ?_
  refine al_q (q_fieldAddr 12 rfl Tryz.runUnderlying152 rfl Tryz.sizeOf150 (by decide) rfl) rfl rfl rfl ?_
  refine al_store1 (i := 7) rfl rfl rfl rfl Tryz.sizeOf150 .k12 .k7 rfl ?_
  refine al_end ?_
  refine aq_then ?_
  refine ac_seq ?_
  refine ac_region ?_
  refine al_q (q_move rfl) rfl rfl rfl ?_
  refine al_q (q_assign rfl) rfl rfl rfl ?_
  refine al_end ?_
  refine aq_then ?_
  refine ac_ret ?_
  refine retI Tryz.results128 (.tmp rfl .nil) .one ?_
  refine al_q (q_assign rfl) rfl rfl rfl ?_
  refine al_end ?_
  refine aq_then ?_
  refine ac_seq ?_
  refine ac_region ?_
  refine al_q (q_move rfl) rfl rfl rfl ?_
  refine al_call Tryz.call154 (.cons rfl .nil) rfl rfl (fun w9 hs9 => ?_)
  refine (atoi_at _ 2 _ (by decide) (by kernel_rfl)).mono ?_
  rintro e u9 ⟨rfl, hb_9⟩
  refine ⟨_, rfl, hb_9, ?_⟩
  clear hs9
  refine al_q (q_move rfl) rfl rfl rfl ?_
  refine al_q (q_extract rfl rfl) rfl rfl rfl ?_
  refine al_q (q_extract rfl rfl) rfl rfl rfl ?_
  refine al_q (q_assign rfl) rfl rfl rfl ?_
  refine al_q (q_assign rfl) rfl rfl rfl ?_
  refine al_end ?_
  refine aq_then ?_
  refine ac_seq ?_
  refine ac_region ?_
  refine al_q (q_move rfl) rfl rfl rfl ?_
  refine al_q (q_move rfl) rfl rfl rfl ?_
  refine al_q (q_eqlNilI rfl Tryz.underlying182) rfl rfl rfl ?_
  refine al_q (q_move rfl) rfl rfl rfl ?_
  refine al_q (q_move rfl) rfl rfl rfl ?_
  refine al_call Tryz.call155 (.cons rfl .nil) rfl rfl (fun w10 hs10 => ?_)
  refine (itoa_at _ ⟨#[50]⟩ _ (hE.below hs10.below) (by decide) (by decide) (by kernel_rfl)).mono ?_
  rintro e u10 ⟨rfl, hb_10⟩
  refine ⟨_, rfl, hb_10, ?_⟩
  clear hs10
  refine al_q (q_move rfl) rfl rfl rfl ?_
  refine al_q (q_same (v' := .bool true) (q_eqlT rfl rfl) (by kernel_rfl)) rfl rfl rfl ?_
  refine al_q (q_pickT rfl rfl) rfl rfl rfl ?_
  refine al_q (q_move rfl) rfl rfl rfl ?_
  refine al_q (q_move rfl) rfl rfl rfl ?_
  refine al_inl Tryz.call74 (.cons rfl (.cons rfl (.cons rfl .nil))) rfl rfl Tryz.func74 rfl rfl ?_
  refine ac_seq ?_
  refine ac_region ?_
  refine al_q (q_assign rfl) rfl rfl rfl ?_
  refine al_end ?_
  refine aq_then ?_
  refine ac_seq ?_
  refine ac_region ?_
  refine al_q (q_move rfl) rfl rfl rfl ?_
  refine al_q (q_move rfl) rfl rfl rfl ?_
  refine al_q (q_same (v' := .bool true) (q_leq rfl rfl) rfl) rfl rfl rfl ?_
  refine al_q (q_move rfl) rfl rfl rfl ?_
  refine al_q (q_move rfl) rfl rfl rfl ?_
  refine al_q (q_move rfl) rfl rfl rfl ?_
  refine al_q (q_same (v' := .bool true) (q_leq rfl rfl) rfl) rfl rfl rfl ?_
  refine al_q (q_pickT rfl rfl) rfl rfl rfl ?_
  refine al_q (q_assign rfl) rfl rfl rfl ?_
  refine al_end ?_
  refine aq_then ?_
  refine ac_ret ?_
  refine retI Tryz.results74 (.tmp rfl .nil) .one ?_
  refine al_q (q_pickT rfl rfl) rfl rfl rfl ?_
  refine al_inl Tryz.call126 (.cons rfl (.cons rfl .nil)) rfl rfl Tryz.func126 rfl rfl ?_
  refine ac_seq ?_
  refine ac_region ?_
  refine al_q (q_move rfl) rfl rfl rfl ?_
  refine al_q (q_not rfl) rfl rfl rfl ?_
  refine al_end ?_
  refine aq_then ?_
  refine ac_condF rfl ?_
  refine ac_skip ?_
  refine retIN Tryz.results126 .nil .zero ?_
  refine al_end ?_
  refine aq_then ?_
  refine ac_region ?_
  refine al_q (q_move rfl) rfl rfl rfl ?_
  refine al_q (q_move rfl) rfl rfl rfl ?_
  refine al_q (q_nilCheckP rfl) rfl rfl rfl ?_
  refine al_store1 (i := 1) rfl rfl rfl rfl Tryz.sizeOf3 .k3 .k1 rfl ?_
  refine al_end ?_
  refine aq_inN ?_
  refine aq_then ?_
  refine ac_region ?_
  refine al_q (q_same (v' := .int .i64 3) (q_add rfl rfl (by omega)) rfl) rfl rfl rfl ?_
  refine al_q (q_move rfl) rfl rfl rfl ?_
  refine al_end ?_
  refine aq_then (aq_again ?_)
  refine ac_seq ?_
  refine ac_region ?_
  refine al_q (q_same (v' := .bool true) (q_lss rfl rfl) rfl) rfl rfl rfl ?_
  refine al_end ?_
  refine aq_then ?_
  refine ac_seq ?_
  refine ac_condT rfl ?_
  refine ac_skip ?_
  refine aq_then ?_
  refine ac_seq ?_
  refine ac_block ?_
  refine ac_seq ?_
  refine ac_region ?_
  refine al_q (q_indexAddr (i := 3) 3 rfl rfl rfl (by decide) Tryz.runUnderlying180 Tryz.sizeOf137 rfl) rfl rfl rfl ?_
  refine al_q (q_load (i := 0) rfl rfl rfl Tryz.isAgg137) rfl rfl rfl ?_
  refine al_q (q_assign rfl) rfl rfl rfl ?_
  refine al_end ?_
  refine aq_then ?_
  refine ac_seq ?_
  refine ac_region ?_
  refine al_q (q_move rfl) rfl rfl rfl ?_
  refine al_inl Tryz.call128 (.cons rfl .nil) rfl rfl Tryz.func128 rfl rfl ?_
  refine ac_seq ?_
  refine ac_region ?_
  refine al_q (q_assign rfl) rfl rfl rfl ?_
  refine al_end ?_
  refine aq_then ?_
  refine ac_seq ?_
  refine ac_region ?_
  refine al_q (q_move rfl) rfl rfl rfl ?_
  refine al_q (q_move rfl) rfl rfl rfl ?_
  refine al_q (q_nilCheckP rfl) rfl rfl rfl ?_
  refine al_q (q_fieldAddr 12 rfl Tryz.runUnderlying152 rfl Tryz.sizeOf150 (by decide) rfl) rfl rfl rfl ?_
  refine al_q (q_load (i := 7) rfl rfl rfl Tryz.isAgg150) rfl rfl rfl ?_
  refine al_q (q_same (v' := .int .i64 4) (q_lenS rfl Tryz.runUnderlying150) rfl) rfl rfl rfl ?_
  refine al_q (q_same (v' := .bool true) (q_gtr rfl rfl) rfl) rfl rfl rfl ?_
  refine al_q (q_move rfl) rfl rfl rfl ?_
  refine al_q (q_move rfl) rfl rfl rfl ?_
  refine al_q (q_nilCheckP rfl) rfl rfl rfl ?_
  refine al_q (q_fieldAddr 12 rfl Tryz.runUnderlying152 rfl Tryz.sizeOf150 (by decide) rfl) rfl rfl rfl ?_
  refine al_q (q_load (i := 7) rfl rfl rfl Tryz.isAgg150) rfl rfl rfl ?_
  refine al_q (q_indexAddr (i := 0) 5 rfl rfl rfl (by decide) Tryz.runUnderlying150 Tryz.sizeOf9 rfl) rfl rfl rfl ?_
  refine al_q (q_load (i := 3) rfl rfl rfl Tryz.isAgg9) rfl rfl rfl ?_
  refine al_q (q_same (v' := .bool true) (q_neqT rfl rfl) (by kernel_rfl)) rfl rfl rfl ?_
  refine al_q (q_pickT rfl rfl) rfl rfl rfl ?_
  refine al_inl Tryz.call126 (.cons rfl (.cons rfl .nil)) rfl rfl Tryz.func126 rfl rfl ?_
  refine ac_seq ?_
  refine ac_region ?_
  refine al_q (q_move rfl) rfl rfl rfl ?_
  refine al_q (q_not rfl) rfl rfl rfl ?_
  refine al_end ?_
  refine aq_then ?_
  refine aq_keepL [0, 5] (.cons rfl (.cons rfl .nil)) ?_
  refine aq_keepU ?_
  refine ac_condF rfl ?_
  refine ac_skip ?_
  refine retIN Tryz.results126 .nil .zero ?_
  refine al_end ?_
  refine aq_then ?_
  refine ac_seq ?_
  refine ac_region ?_
  refine al_q (q_move rfl) rfl rfl rfl ?_
  refine al_q (q_nilCheckP rfl) rfl rfl rfl ?_
  refine al_q (q_fieldAddr 12 rfl Tryz.runUnderlying152 rfl Tryz.sizeOf150 (by decide) rfl) rfl rfl rfl ?_
  refine al_q (q_load (i := 7) rfl rfl rfl Tryz.isAgg150) rfl rfl rfl ?_
  refine al_q (q_indexAddr (i := 0) 5 rfl rfl rfl (by decide) Tryz.runUnderlying150 Tryz.sizeOf9 rfl) rfl rfl rfl ?_
  refine al_q (q_load (i := 3) rfl rfl rfl Tryz.isAgg9) rfl rfl rfl ?_
  refine al_q (q_assign rfl) rfl rfl rfl ?_
  refine al_end ?_
  refine aq_then ?_
  refine ac_seq ?_
  refine ac_region ?_
  refine al_q (q_move rfl) rfl rfl rfl ?_
  refine al_q (q_move rfl) rfl rfl rfl ?_
  refine al_q (q_nilCheckP rfl) rfl rfl rfl ?_
  refine al_q (q_fieldAddr 12 rfl Tryz.runUnderlying152 rfl Tryz.sizeOf150 (by decide) rfl) rfl rfl rfl ?_
  refine al_q (q_load (i := 7) rfl rfl rfl Tryz.isAgg150) rfl rfl rfl ?_
  refine al_q (q_same (v' := .slice (some ⟨b6, 6, none⟩) 3 3) (q_fromS (lo := 1) rfl rfl rfl (by decide) (by decide) Tryz.underlying150 Tryz.sizeOf9 rfl) rfl) rfl rfl rfl ?_
  refine al_q (q_nilCheckP rfl) rfl rfl rfl ?_
  refine al_q (q_fieldAddr 12 rfl Tryz.runUnderlying152 rfl Tryz.sizeOf150 (by decide) rfl) rfl rfl rfl ?_
  refine al_store1 (i := 7) rfl rfl rfl rfl Tryz.sizeOf150 .k12 .k7 rfl ?_
  refine al_end ?_
  refine aq_then ?_
  refine ac_seq ?_
  refine ac_region ?_
  refine al_q (q_move rfl) rfl rfl rfl ?_
  refine al_q (q_assign rfl) rfl rfl rfl ?_
  refine al_end ?_
  refine aq_then ?_
  refine ac_ret ?_
  refine retI Tryz.results128 (.tmp rfl .nil) .one ?_
  refine al_q (q_assign rfl) rfl rfl rfl ?_
  refine al_end ?_
  refine aq_then ?_
  refine ac_seq ?_
  refine ac_region ?_
  refine al_q (q_move rfl) rfl rfl rfl ?_
  refine al_call Tryz.call154 (.cons rfl .nil) rfl rfl (fun w11 hs11 => ?_)
  refine (atoi_at _ 10 _ (by decide) (by kernel_rfl)).mono ?_
  rintro e u11 ⟨rfl, hb_11⟩
  refine ⟨_, rfl, hb_11, ?_⟩
  clear hs11
  refine al_q (q_move rfl) rfl rfl rfl ?_
  refine al_q (q_extract rfl rfl) rfl rfl rfl ?_
  refine al_q (q_extract rfl rfl) rfl rfl rfl ?_
  refine al_q (q_assign rfl) rfl rfl rfl ?_
  refine al_q (q_assign rfl) rfl rfl rfl ?_
  refine al_end ?_
  refine aq_then ?_
  refine ac_seq ?_
  refine ac_region ?_
  refine al_q (q_move rfl) rfl rfl rfl ?_
  refine al_q (q_move rfl) rfl rfl rfl ?_
  refine al_q (q_eqlNilI rfl Tryz.underlying182) rfl rfl rfl ?_
  refine al_q (q_move rfl) rfl rfl rfl ?_
  refine al_q (q_move rfl) rfl rfl rfl ?_
  refine al_call Tryz.call155 (.cons rfl .nil) rfl rfl (fun w12 hs12 => ?_)
  refine (itoa_at _ ⟨#[49, 48]⟩ _ (hE.below hs12.below) (by decide) (by decide) (by kernel_rfl)).mono ?_
  rintro e u12 ⟨rfl, hb_12⟩
  refine ⟨_, rfl, hb_12, ?_⟩
  clear hs12
  refine al_q (q_move rfl) rfl rfl rfl ?_
  refine al_q (q_same (v' := .bool true) (q_eqlT rfl rfl) (by kernel_rfl)) rfl rfl rfl ?_
  refine al_q (q_pickT rfl rfl) rfl rfl rfl ?_
  refine al_q (q_move rfl) rfl rfl rfl ?_
  refine al_q (q_move rfl) rfl rfl rfl ?_
  refine al_inl Tryz.call74 (.cons rfl (.cons rfl (.cons rfl .nil))) rfl rfl Tryz.func74 rfl rfl ?_
  refine ac_seq ?_
  refine ac_region ?_
  refine al_q (q_assign rfl) rfl rfl rfl ?_
  refine al_end ?_
  refine aq_then ?_
  refine ac_seq ?_
  refine ac_region ?_
  refine al_q (q_move rfl) rfl rfl rfl ?_
  refine al_q (q_move rfl) rfl rfl rfl ?_
  refine al_q (q_same (v' := .bool true) (q_leq rfl rfl) rfl) rfl rfl rfl ?_
  refine al_q (q_move rfl) rfl rfl rfl ?_
  refine al_q (q_move rfl) rfl rfl rfl ?_
  refine al_q (q_move rfl) rfl rfl rfl ?_
  refine al_q (q_same (v' := .bool true) (q_leq rfl rfl) rfl) rfl rfl rfl ?_
  refine al_q (q_pickT rfl rfl) rfl rfl rfl ?_
  refine al_q (q_assign rfl) rfl rfl rfl ?_
  refine al_end ?_
  refine aq_then ?_
  refine ac_ret ?_
  refine retI Tryz.results74 (.tmp rfl .nil) .one ?_
  refine al_q (q_pickT rfl rfl) rfl rfl rfl ?_
  refine al_inl Tryz.call126 (.cons rfl (.cons rfl .nil)) rfl rfl Tryz.func126 rfl rfl ?_
  refine ac_seq ?_
  refine ac_region ?_
  refine al_q (q_move rfl) rfl rfl rfl ?_
  refine al_q (q_not rfl) rfl rfl rfl ?_
  refine al_end ?_
  refine aq_then ?_
  refine ac_condF rfl ?_
  refine ac_skip ?_
  refine retIN Tryz.results126 .nil .zero ?_
  refine al_end ?_
  refine aq_then ?_
  refine ac_region ?_
  refine al_q (q_move rfl) rfl rfl rfl ?_
  refine al_q (q_move rfl) rfl rfl rfl ?_
  refine al_q (q_nilCheckP rfl) rfl rfl rfl ?_
  refine al_store1 (i := 1) rfl rfl rfl rfl Tryz.sizeOf3 .k4 .k1 rfl ?_
  refine al_end ?_
  refine aq_inN ?_
  refine aq_then ?_
  refine ac_region ?_
  refine al_q (q_same (v' := .int .i64 4) (q_add rfl rfl (by omega)) rfl) rfl rfl rfl ?_
  refine al_q (q_move rfl) rfl rfl rfl ?_
  refine al_end ?_
  refine aq_then (aq_again ?_)
  refine ac_seq ?_
  refine ac_region ?_
  refine al_q (q_same (v' := .bool true) (q_lss rfl rfl) rfl) rfl rfl rfl ?_
  refine al_end ?_
  refine aq_then ?_
  refine ac_seq ?_
  refine ac_condT rfl ?_
  refine ac_skip ?_
  refine aq_then ?_
  refine ac_seq ?_
  refine ac_block ?_
  refine ac_seq ?_
  refine ac_region ?_
  refine al_q (q_indexAddr (i := 4) 4 rfl rfl rfl (by decide) Tryz.runUnderlying180 Tryz.sizeOf137 rfl) rfl rfl rfl ?_
  refine al_q (q_load (i := 0) rfl rfl rfl Tryz.isAgg137) rfl rfl rfl ?_
  refine al_q (q_assign rfl) rfl rfl rfl ?_
  refine al_end ?_
  refine aq_then ?_
  refine ac_seq ?_
  refine ac_region ?_
  refine al_q (q_move rfl) rfl rfl rfl ?_
  refine al_inl Tryz.call128 (.cons rfl .nil) rfl rfl Tryz.func128 rfl rfl ?_
  refine ac_seq ?_
  refine ac_region ?_
  refine al_q (q_assign rfl) rfl rfl rfl ?_
  refine al_end ?_
  refine aq_then ?_
  refine ac_seq ?_
  refine ac_region ?_
  refine al_q (q_move rfl) rfl rfl rfl ?_
  refine al_q (q_move rfl) rfl rfl rfl ?_
  refine al_q (q_nilCheckP rfl) rfl rfl rfl ?_
  refine al_q (q_fieldAddr 12 rfl Tryz.runUnderlying152 rfl Tryz.sizeOf150 (by decide) rfl) rfl rfl rfl ?_
  refine al_q (q_load (i := 7) rfl rfl rfl Tryz.isAgg150) rfl rfl rfl ?_
  refine al_q (q_same (v' := .int .i64 3) (q_lenS rfl Tryz.runUnderlying150) rfl) rfl rfl rfl ?_
  refine al_q (q_same (v' := .bool true) (q_gtr rfl rfl) rfl) rfl rfl rfl ?_
  refine al_q (q_move rfl) rfl rfl rfl ?_
  refine al_q (q_move rfl) rfl rfl rfl ?_
  refine al_q (q_nilCheckP rfl) rfl rfl rfl ?_
  refine al_q (q_fieldAddr 12 rfl Tryz.runUnderlying152 rfl Tryz.sizeOf150 (by decide) rfl) rfl rfl rfl ?_
  refine al_q (q_load (i := 7) rfl rfl rfl Tryz.isAgg150) rfl rfl rfl ?_
  refine al_q (q_indexAddr (i := 0) 6 rfl rfl rfl (by decide) Tryz.runUnderlying150 Tryz.sizeOf9 rfl) rfl rfl rfl ?_
  refine al_q (q_load (i := 3) rfl rfl rfl Tryz.isAgg9) rfl rfl rfl ?_
  refine al_q (q_same (v' := .bool true) (q_neqT rfl rfl) (by kernel_rfl)) rfl rfl rfl ?_
  refine al_q (q_pickT rfl rfl) rfl rfl rfl ?_
  refine al_inl Tryz.call126 (.cons rfl (.cons rfl .nil)) rfl rfl Tryz.func126 rfl rfl ?_
  refine ac_seq ?_
  refine ac_region ?_
  refine al_q (q_move rfl) rfl rfl rfl ?_
  refine al_q (q_not rfl) rfl rfl rfl ?_
  refine al_end ?_
  refine aq_then ?_
  refine aq_keepL [0, 5] (.cons rfl (.cons rfl .nil)) ?_
  refine aq_keepU ?_
  refine ac_condF rfl ?_
  refine ac_skip ?_
  refine retIN Tryz.results126 .nil .zero ?_
  refine al_end ?_
  refine aq_then ?_
  refine ac_seq ?_
  refine ac_region ?_
  refine al_q (q_move rfl) rfl rfl rfl ?_
  refine al_q (q_nilCheckP rfl) rfl rfl rfl ?_
  refine al_q (q_fieldAddr 12 rfl Tryz.runUnderlying152 rfl Tryz.sizeOf150 (by decide) rfl) rfl rfl rfl ?_
  refine al_q (q_load (i := 7) rfl rfl rfl Tryz.isAgg150) rfl rfl rfl ?_
  refine al_q (q_indexAddr (i := 0) 6 rfl rfl rfl (by decide) Tryz.runUnderlying150 Tryz.sizeOf9 rfl) rfl rfl rfl ?_
  refine al_q (q_load (i := 3) rfl rfl rfl Tryz.isAgg9) rfl rfl rfl ?_
  refine al_q (q_assign rfl) rfl rfl rfl ?_
  refine al_end ?_
  refine aq_then ?_
  refine ac_seq ?_
  refine ac_region ?_
  refine al_q (q_move rfl) rfl rfl rfl ?_
  refine al_q (q_move rfl) rfl rfl rfl ?_
  refine al_q (q_nilCheckP rfl) rfl rfl rfl ?_
  refine al_q (q_fieldAddr 12 rfl Tryz.runUnderlying152 rfl Tryz.sizeOf150 (by decide) rfl) rfl rfl rfl ?_
  refine al_q (q_load (i := 7) rfl rfl rfl Tryz.isAgg150) rfl rfl rfl ?_
  refine al_q (q_same (v' := .slice (some ⟨b6, 7, none⟩) 2 2) (q_fromS (lo := 1) rfl rfl rfl (by decide) (by decide) Tryz.underlying150 Tryz.sizeOf9 rfl) rfl) rfl rfl rfl ?_
  refine al_q (q_nilCheckP rfl) rfl rfl rfl ?_
  refine al_q (q_fieldAddr 12 rfl Tryz.runUnderlying152 rfl Tryz.sizeOf150 (by decide) rfl) rfl rfl rfl ?_
  refine al_store1 (i := 7) rfl rfl rfl rfl Tryz.sizeOf150 .k12 .k7 rfl ?_
  refine al_end ?_
  refine aq_then ?_
  refine ac_seq ?_
  refine ac_region ?_
  refine al_q (q_move rfl) rfl rfl rfl ?_
  refine al_q (q_assign rfl) rfl rfl rfl ?_
  refine al_end ?_
  refine aq_then ?_
  refine ac_ret ?_
  refine retI Tryz.results128 (.tmp rfl .nil) .one ?_
  refine al_q (q_assign rfl) rfl rfl rfl ?_
  refine al_end ?_
  refine aq_then ?_
  refine ac_seq ?_
  refine ac_region ?_
  refine al_q (q_move rfl) rfl rfl rfl ?_
  refine al_call Tryz.call154 (.cons rfl .nil) rfl rfl (fun w13 hs13 => ?_)
  refine (atoi_at _ 5 _ (by decide) (by kernel_rfl)).mono ?_
  rintro e u13 ⟨rfl, hb_13⟩
  refine ⟨_, rfl, hb_13, ?_⟩
  clear hs13
  refine al_q (q_move rfl) rfl rfl rfl ?_
  refine al_q (q_extract rfl rfl) rfl rfl rfl ?_
  refine al_q (q_extract rfl rfl) rfl rfl rfl ?_
  refine al_q (q_assign rfl) rfl rfl rfl ?_
  refine al_q (q_assign rfl) rfl rfl rfl ?_
  refine al_end ?_
  refine aq_then ?_
  refine ac_seq ?_
  refine ac_region ?_
  refine al_q (q_move rfl) rfl rfl rfl ?_
  refine al_q (q_move rfl) rfl rfl rfl ?_
  refine al_q (q_eqlNilI rfl Tryz.underlying182) rfl rfl rfl ?_
  refine al_q (q_move rfl) rfl rfl rfl ?_
  refine al_q (q_move rfl) rfl rfl rfl ?_
  refine al_call Tryz.call155 (.cons rfl .nil) rfl rfl (fun w14 hs14 => ?_)
  refine (itoa_at _ ⟨#[53]⟩ _ (hE.below hs14.below) (by decide) (by decide) (by kernel_rfl)).mono ?_
  rintro e u14 ⟨rfl, hb_14⟩
  refine ⟨_, rfl, hb_14, ?_⟩
  clear hs14
  refine al_q (q_move rfl) rfl rfl rfl ?_
  refine al_q (q_same (v' := .bool true) (q_eqlT rfl rfl) (by kernel_rfl)) rfl rfl rfl ?_
  refine al_q (q_pickT rfl rfl) rfl rfl rfl ?_
  refine al_q (q_move rfl) rfl rfl rfl ?_
  refine al_q (q_move rfl) rfl rfl rfl ?_
  refine al_inl Tryz.call74 (.cons rfl (.cons rfl (.cons rfl .nil))) rfl rfl Tryz.func74 rfl rfl ?_
  refine ac_seq ?_
  refine ac_region ?_
  refine al_q (q_assign rfl) rfl rfl rfl ?_
  refine al_end ?_
  refine aq_then ?_
  refine ac_seq ?_
  refine ac_region ?_
  refine al_q (q_move rfl) rfl rfl rfl ?_
  refine al_q (q_move rfl) rfl rfl rfl ?_
  refine al_q (q_same (v' := .bool true) (q_leq rfl rfl) rfl) rfl rfl rfl ?_
  refine al_q (q_move rfl) rfl rfl rfl ?_
  refine al_q (q_move rfl) rfl rfl rfl ?_
  refine al_q (q_move rfl) rfl rfl rfl ?_
  refine al_q (q_same (v' := .bool true) (q_leq rfl rfl) rfl) rfl rfl rfl ?_
  refine al_q (q_pickT rfl rfl) rfl rfl rfl ?_
  refine al_q (q_assign rfl) rfl rfl rfl ?_
  refine al_end ?_
  refine aq_then ?_
  refine ac_ret ?_
  refine retI Tryz.results74 (.tmp rfl .nil) .one ?_
  refine al_q (q_pickT rfl rfl) rfl rfl rfl ?_
  refine al_inl Tryz.call126 (.cons rfl (.cons rfl .nil)) rfl rfl Tryz.func126 rfl rfl ?_
  refine ac_seq ?_
  refine ac_region ?_
  refine al_q (q_move rfl) rfl rfl rfl ?_
  refine al_q (q_not rfl) rfl rfl rfl ?_
  refine al_end ?_
  refine aq_then ?_
  refine ac_condF rfl ?_
  refine ac_skip ?_
  refine retIN Tryz.results126 .nil .zero ?_
  refine al_end ?_
  refine aq_then ?_
  refine ac_region ?_
  refine al_q (q_move rfl) rfl rfl rfl ?_
  refine al_q (q_move rfl) rfl rfl rfl ?_
  refine al_q (q_nilCheckP rfl) rfl rfl rfl ?_
  refine al_store1 (i := 1) rfl rfl rfl rfl Tryz.sizeOf3 .k5 .k1 rfl ?_
  refine al_end ?_
  refine aq_inN ?_
  refine aq_then ?_
  refine ac_region ?_
  refine al_q (q_same (v' := .int .i64 5) (q_add rfl rfl (by omega)) rfl) rfl rfl rfl ?_
  refine al_q (q_move rfl) rfl rfl rfl ?_
  refine al_end ?_
  refine aq_then (aq_again ?_)
  refine ac_seq ?_
  refine ac_region ?_
  refine al_q (q_same (v' := .bool true) (q_lss rfl rfl) rfl) rfl rfl rfl ?_
  refine al_end ?_
  refine aq_then ?_
  refine ac_seq ?_
  refine ac_condT rfl ?_
  refine ac_skip ?_
  refine aq_then ?_
  refine ac_seq ?_
  refine ac_block ?_
  refine ac_seq ?_
  refine ac_region ?_
  refine al_q (q_indexAddr (i := 5) 5 rfl rfl rfl (by decide) Tryz.runUnderlying180 Tryz.sizeOf137 rfl) rfl rfl rfl ?_
  refine al_q (q_load (i := 0) rfl rfl rfl Tryz.isAgg137) rfl rfl rfl ?_
  refine al_q (q_assign rfl) rfl rfl rfl ?_
  refine al_end ?_
  refine aq_then ?_
  refine ac_seq ?_
  refine ac_region ?_
  refine al_q (q_move rfl) rfl rfl rfl ?_
  refine al_inl Tryz.call128 (.cons rfl .nil) rfl rfl Tryz.func128 rfl rfl ?_
  refine ac_seq ?_
  refine ac_region ?_
  refine al_q (q_assign rfl) rfl rfl rfl ?_
  refine al_end ?_
  refine aq_then ?_
  refine ac_seq ?_
  refine ac_region ?_
  refine al_q (q_move rfl) rfl rfl rfl ?_
  refine al_q (q_move rfl) rfl rfl rfl ?_
  refine al_q (q_nilCheckP rfl) rfl rfl rfl ?_
  refine al_q (q_fieldAddr 12 rfl Tryz.runUnderlying152 rfl Tryz.sizeOf150 (by decide) rfl) rfl rfl rfl ?_
  refine al_q (q_load (i := 7) rfl rfl rfl Tryz.isAgg150) rfl rfl rfl ?_
  refine al_q (q_same (v' := .int .i64 2) (q_lenS rfl Tryz.runUnderlying150) rfl) rfl rfl rfl ?_
  refine al_q (q_same (v' := .bool true) (q_gtr rfl rfl) rfl) rfl rfl rfl ?_
  refine al_q (q_move rfl) rfl rfl rfl ?_
  refine al_q (q_move rfl) rfl rfl rfl ?_
  refine al_q (q_nilCheckP rfl) rfl rfl rfl ?_
  refine al_q (q_fieldAddr 12 rfl Tryz.runUnderlying152 rfl Tryz.sizeOf150 (by decide) rfl) rfl rfl rfl ?_
  refine al_q (q_load (i := 7) rfl rfl rfl Tryz.isAgg150) rfl rfl rfl ?_
  refine al_q (q_indexAddr (i := 0) 7 rfl rfl rfl (by decide) Tryz.runUnderlying150 Tryz.sizeOf9 rfl) rfl rfl rfl ?_
  refine al_q (q_load (i := 3) rfl rfl rfl Tryz.isAgg9) rfl rfl rfl ?_
  refine al_q (q_same (v' := .bool true) (q_neqT rfl rfl) (by kernel_rfl)) rfl rfl rfl ?_
  refine al_q (q_pickT rfl rfl) rfl rfl rfl ?_
  refine al_inl Tryz.call126 (.cons rfl (.cons rfl .nil)) rfl rfl Tryz.func126 rfl rfl ?_
  refine ac_seq ?_
  refine ac_region ?_
  refine al_q (q_move rfl) rfl rfl rfl ?_
  refine al_q (q_not rfl) rfl rfl rfl ?_
  refine al_end ?_
  refine aq_then ?_
  refine aq_keepL [0, 5] (.cons rfl (.cons rfl .nil)) ?_
  refine aq_keepU ?_
  refine ac_condF rfl ?_
  refine ac_skip ?_
  refine retIN Tryz.results126 .nil .zero ?_
  refine al_end ?_
  refine aq_then ?_
  refine ac_seq ?_
  refine ac_region ?_
  refine al_q (q_move rfl) rfl rfl rfl ?_
  refine al_q (q_nilCheckP rfl) rfl rfl rfl ?_
  refine al_q (q_fieldAddr 12 rfl Tryz.runUnderlying152 rfl Tryz.sizeOf150 (by decide) rfl) rfl rfl rfl ?_
  refine al_q (q_load (i := 7) rfl rfl rfl Tryz.isAgg150) rfl rfl rfl ?_
  refine al_q (q_indexAddr (i := 0) 7 rfl rfl rfl (by decide) Tryz.runUnderlying150 Tryz.sizeOf9 rfl) rfl rfl rfl ?_
  refine al_q (q_load (i := 3) rfl rfl rfl Tryz.isAgg9) rfl rfl rfl ?_
  refine al_q (q_assign rfl) rfl rfl rfl ?_
  refine al_end ?_
  refine aq_then ?_
  refine ac_seq ?_
  refine ac_region ?_
  refine al_q (q_move rfl) rfl rfl rfl ?_
  refine al_q (q_move rfl) rfl rfl rfl ?_
  refine al_q (q_nilCheckP rfl) rfl rfl rfl ?_
  refine al_q (q_fieldAddr 12 rfl Tryz.runUnderlying152 rfl Tryz.sizeOf150 (by decide) rfl) rfl rfl rfl ?_
  refine al_q (q_load (i := 7) rfl rfl rfl Tryz.isAgg150) rfl rfl rfl ?_
  refine al_q (q_same (v' := .slice (some ⟨b6, 8, none⟩) 1 1) (q_fromS (lo := 1) rfl rfl rfl (by decide) (by decide) Tryz.underlying150 Tryz.sizeOf9 rfl) rfl) rfl rfl rfl ?_
  refine al_q (q_nilCheckP rfl) rfl rfl rfl ?_
  refine al_q (q_fieldAddr 12 rfl Tryz.runUnderlying152 rfl Tryz.sizeOf150 (by decide) rfl) rfl rfl rfl ?_
  refine al_store1 (i := 7) rfl rfl rfl rfl Tryz.sizeOf150 .k12 .k7 rfl ?_
  refine al_end ?_
  refine aq_then ?_
  refine ac_seq ?_
  refine ac_region ?_
  refine al_q (q_move rfl) rfl rfl rfl ?_
  refine al_q (q_assign rfl) rfl rfl rfl ?_
  refine al_end ?_
  refine aq_then ?_
  refine ac_ret ?_
  refine retI Tryz.results128 (.tmp rfl .nil) .one ?_
  refine al_q (q_assign rfl) rfl rfl rfl ?_
  refine al_end ?_
  refine aq_then ?_
  refine ac_seq ?_
  refine ac_region ?_
  refine al_q (q_move rfl) rfl rfl rfl ?_
  refine al_call Tryz.call154 (.cons rfl .nil) rfl rfl (fun w15 hs15 => ?_)
  refine (atoi_at _ 1000 _ (by decide) (by kernel_rfl)).mono ?_
  rintro e u15 ⟨rfl, hb_15⟩
  refine ⟨_, rfl, hb_15, ?_⟩
  clear hs15
  refine al_q (q_move rfl) rfl rfl rfl ?_
  refine al_q (q_extract rfl rfl) rfl rfl rfl ?_
  refine al_q (q_extract rfl rfl) rfl rfl rfl ?_
  refine al_q (q_assign rfl) rfl rfl rfl ?_
  refine al_q (q_assign rfl) rfl rfl rfl ?_
  refine al_end ?_
  refine aq_then ?_
  refine ac_seq ?_
  refine ac_region ?_
  refine al_q (q_move rfl) rfl rfl rfl ?_
  refine al_q (q_move rfl) rfl rfl rfl ?_
  refine al_q (q_eqlNilI rfl Tryz.underlying182) rfl rfl rfl ?_
  refine al_q (q_move rfl) rfl rfl rfl ?_
  refine al_q (q_move rfl) rfl rfl rfl ?_
  refine al_call Tryz.call155 (.cons rfl .nil) rfl rfl (fun w16 hs16 => ?_)
  refine (itoa_at _ ⟨#[49, 48, 48, 48]⟩ _ (hE.below hs16.below) (by decide) (by decide) (by kernel_rfl)).mono ?_
  rintro e u16 ⟨rfl, hb_16⟩
  refine ⟨_, rfl, hb_16, ?_⟩
  clear hs16
  refine al_q (q_move rfl) rfl rfl rfl ?_
  refine al_q (q_same (v' := .bool true) (q_eqlT rfl rfl) (by kernel_rfl)) rfl rfl rfl ?_
  refine al_q (q_pickT rfl rfl) rfl rfl rfl ?_
  refine al_q (q_move rfl) rfl rfl rfl ?_
  refine al_q (q_move rfl) rfl rfl rfl ?_
  refine al_inl Tryz.call74 (.cons rfl (.cons rfl (.cons rfl .nil))) rfl rfl Tryz.func74 rfl rfl ?_
  refine ac_seq ?_
  refine ac_region ?_
  refine al_q (q_assign rfl) rfl rfl rfl ?_
  refine al_end ?_
  refine aq_then ?_
  refine ac_seq ?_
  refine ac_region ?_
  refine al_q (q_move rfl) rfl rfl rfl ?_
  refine al_q (q_move rfl) rfl rfl rfl ?_
  refine al_q (q_same (v' := .bool true) (q_leq rfl rfl) rfl) rfl rfl rfl ?_
  refine al_q (q_move rfl) rfl rfl rfl ?_
  refine al_q (q_move rfl) rfl rfl rfl ?_
  refine al_q (q_move rfl) rfl rfl rfl ?_
  refine al_q (q_same (v' := .bool true) (q_leq rfl rfl) rfl) rfl rfl rfl ?_
  refine al_q (q_pickT rfl rfl) rfl rfl rfl ?_
  refine al_q (q_assign rfl) rfl rfl rfl ?_
  refine al_end ?_
  refine aq_then ?_
  refine ac_ret ?_
  refine retI Tryz.results74 (.tmp rfl .nil) .one ?_
  refine al_q (q_pickT rfl rfl) rfl rfl rfl ?_
  refine al_inl Tryz.call126 (.cons rfl (.cons rfl .nil)) rfl rfl Tryz.func126 rfl rfl ?_
  refine ac_seq ?_
  refine ac_region ?_
  refine al_q (q_move rfl) rfl rfl rfl ?_
  refine al_q (q_not rfl) rfl rfl rfl ?_
  refine al_end ?_
  refine aq_then ?_
  refine ac_condF rfl ?_
  refine ac_skip ?_
  refine retIN Tryz.results126 .nil .zero ?_
  refine al_end ?_
  refine aq_then ?_
  refine ac_region ?_
  refine al_q (q_move rfl) rfl rfl rfl ?_
  refine al_q (q_move rfl) rfl rfl rfl ?_
  refine al_q (q_nilCheckP rfl) rfl rfl rfl ?_
  refine al_store1 (i := 1) rfl rfl rfl rfl Tryz.sizeOf3 .k6 .k1 rfl ?_
  refine al_end ?_
  refine aq_inN ?_
  refine aq_then ?_
  refine ac_region ?_
  refine al_q (q_same (v' := .int .i64 6) (q_add rfl rfl (by omega)) rfl) rfl rfl rfl ?_
  refine al_q (q_move rfl) rfl rfl rfl ?_
  refine al_end ?_
  refine aq_then (aq_again ?_)
  refine ac_seq ?_
  refine ac_region ?_
  refine al_q (q_same (v' := .bool true) (q_lss rfl rfl) rfl) rfl rfl rfl ?_
  refine al_end ?_
  refine aq_then ?_
  refine ac_seq ?_
  refine ac_condT rfl ?_
  refine ac_skip ?_
  refine aq_then ?_
  refine ac_seq ?_
  refine ac_block ?_
  refine ac_seq ?_
  refine ac_region ?_
  refine al_q (q_indexAddr (i := 6) 6 rfl rfl rfl (by decide) Tryz.runUnderlying180 Tryz.sizeOf137 rfl) rfl rfl rfl ?_
  refine al_q (q_load (i := 0) rfl rfl rfl Tryz.isAgg137) rfl rfl rfl ?_
  refine al_q (q_assign rfl) rfl rfl rfl ?_
  refine al_end ?_
  refine aq_then ?_
  refine ac_seq ?_
  refine ac_region ?_
  refine al_q (q_move rfl) rfl rfl rfl ?_
  refine al_inl Tryz.call128 (.cons rfl .nil) rfl rfl Tryz.func128 rfl rfl ?_
  refine ac_seq ?_
  refine ac_region ?_
  refine al_q (q_assign rfl) rfl rfl rfl ?_
  refine al_end ?_
  refine aq_then ?_
  refine ac_seq ?_
  refine ac_region ?_
  refine al_q (q_move rfl) rfl rfl rfl ?_
  refine al_q (q_move rfl) rfl rfl rfl ?_
  refine al_q (q_nilCheckP rfl) rfl rfl rfl ?_
  refine al_q (q_fieldAddr 12 rfl Tryz.runUnderlying152 rfl Tryz.sizeOf150 (by decide) rfl) rfl rfl rfl ?_
  refine al_q (q_load (i := 7) rfl rfl rfl Tryz.isAgg150) rfl rfl rfl ?_
  refine al_q (q_same (v' := .int .i64 1) (q_lenS rfl Tryz.runUnderlying150) rfl) rfl rfl rfl ?_
  refine al_q (q_same (v' := .bool true) (q_gtr rfl rfl) rfl) rfl rfl rfl ?_
  refine al_q (q_move rfl) rfl rfl rfl ?_
  refine al_q (q_move rfl) rfl rfl rfl ?_
  refine al_q (q_nilCheckP rfl) rfl rfl rfl ?_
  refine al_q (q_fieldAddr 12 rfl Tryz.runUnderlying152 rfl Tryz.sizeOf150 (by decide) rfl) rfl rfl rfl ?_
  refine al_q (q_load (i := 7) rfl rfl rfl Tryz.isAgg150) rfl rfl rfl ?_
  refine al_q (q_indexAddr (i := 0) 8 rfl rfl rfl (by decide) Tryz.runUnderlying150 Tryz.sizeOf9 rfl) rfl rfl rfl ?_
  refine al_q (q_load (i := 3) rfl rfl rfl Tryz.isAgg9) rfl rfl rfl ?_
  refine al_q (q_same (v' := .bool true) (q_neqT rfl rfl) (by kernel_rfl)) rfl rfl rfl ?_
  refine al_q (q_pickT rfl rfl) rfl rfl rfl ?_
  refine al_inl Tryz.call126 (.cons rfl (.cons rfl .nil)) rfl rfl Tryz.func126 rfl rfl ?_
  refine ac_seq ?_
  refine ac_region ?_
  refine al_q (q_move rfl) rfl rfl rfl ?_
  refine al_q (q_not rfl) rfl rfl rfl ?_
  refine al_end ?_
  refine aq_then ?_
  refine aq_keepL [0, 5] (.cons rfl (.cons rfl .nil)) ?_
  refine aq_keepU ?_
  refine ac_condF rfl ?_
  refine ac_skip ?_
  refine retIN Tryz.results126 .nil .zero ?_
  refine al_end ?_
  refine aq_then ?_
  refine ac_seq ?_
  refine ac_region ?_
  refine al_q (q_move rfl) rfl rfl rfl ?_
  refine al_q (q_nilCheckP rfl) rfl rfl rfl ?_
  refine al_q (q_fieldAddr 12 rfl Tryz.runUnderlying152 rfl Tryz.sizeOf150 (by decide) rfl) rfl rfl rfl ?_
  refine al_q (q_load (i := 7) rfl rfl rfl Tryz.isAgg150) rfl rfl rfl ?_
  refine al_q (q_indexAddr (i := 0) 8 rfl rfl rfl (by decide) Tryz.runUnderlying150 Tryz.sizeOf9 rfl) rfl rfl rfl ?_
  refine al_q (q_load (i := 3) rfl rfl rfl Tryz.isAgg9) rfl rfl rfl ?_
  refine al_q (q_assign rfl) rfl rfl rfl ?_
  refine al_end ?_
  refine aq_then ?_
  refine ac_seq ?_
  refine ac_region ?_
  refine al_q (q_move rfl) rfl rfl rfl ?_
  refine al_q (q_move rfl) rfl rfl rfl ?_
  refine al_q (q_nilCheckP rfl) rfl rfl rfl ?_
  refine al_q (q_fieldAddr 12 rfl Tryz.runUnderlying152 rfl Tryz.sizeOf150 (by decide) rfl) rfl rfl rfl ?_
  refine al_q (q_load (i := 7) rfl rfl rfl Tryz.isAgg150) rfl rfl rfl ?_
  refine al_q (q_same (v' := .slice (some ⟨b6, 8, none⟩) 0 0) (q_fromS (lo := 1) rfl rfl rfl (by decide) (by decide) Tryz.underlying150 Tryz.sizeOf9 rfl) rfl) rfl rfl rfl ?_
  refine al_q (q_nilCheckP rfl) rfl rfl rfl ?_
  refine al_q (q_fieldAddr 12 rfl Tryz.runUnderlying152 rfl Tryz.sizeOf150 (by decide) rfl) rfl rfl rfl ?_
  refine al_store1 (i := 7) rfl rfl rfl rfl Tryz.sizeOf150 .k12 .k7 rfl ?_
  refine al_end ?_
  refine aq_then ?_
  refine ac_seq ?_
  refine ac_region ?_
  refine al_q (q_move rfl) rfl rfl rfl ?_
  refine al_q (q_assign rfl) rfl rfl rfl ?_
  refine al_end ?_
  refine aq_then ?_
  refine ac_ret ?_
  refine retI Tryz.results128 (.tmp rfl .nil) .one ?_
  refine al_q (q_assign rfl) rfl rfl rfl ?_
  refine al_end ?_
  refine aq_then ?_
  refine ac_seq ?_
  refine ac_region ?_
  refine al_q (q_move rfl) rfl rfl rfl ?_
  refine al_call Tryz.call154 (.cons rfl .nil) rfl rfl (fun w17 hs17 => ?_)
  refine (atoi_at _ 1 _ (by decide) (by kernel_rfl)).mono ?_
  rintro e u17 ⟨rfl, hb_17⟩
  refine ⟨_, rfl, hb_17, ?_⟩
  clear hs17
  refine al_q (q_move rfl) rfl rfl rfl ?_
  refine al_q (q_extract rfl rfl) rfl rfl rfl ?_
  refine al_q (q_extract rfl rfl) rfl rfl rfl ?_
  refine al_q (q_assign rfl) rfl rfl rfl ?_
  refine al_q (q_assign rfl) rfl rfl rfl ?_
  refine al_end ?_
  refine aq_then ?_
  refine ac_seq ?_
  refine ac_region ?_
  refine al_q (q_move rfl) rfl rfl rfl ?_
  refine al_q (q_move rfl) rfl rfl rfl ?_
  refine al_q (q_eqlNilI rfl Tryz.underlying182) rfl rfl rfl ?_
  refine al_q (q_move rfl) rfl rfl rfl ?_
  refine al_q (q_move rfl) rfl rfl rfl ?_
  refine al_call Tryz.call155 (.cons rfl .nil) rfl rfl (fun w18 hs18 => ?_)
  refine (itoa_at _ ⟨#[49]⟩ _ (hE.below hs18.below) (by decide) (by decide) (by kernel_rfl)).mono ?_
  rintro e u18 ⟨rfl, hb_18⟩
  refine ⟨_, rfl, hb_18, ?_⟩
  clear hs18
  refine al_q (q_move rfl) rfl rfl rfl ?_
  refine al_q (q_same (v' := .bool true) (q_eqlT rfl rfl) (by kernel_rfl)) rfl rfl rfl ?_
  refine al_q (q_pickT rfl rfl) rfl rfl rfl ?_
  refine al_q (q_move rfl) rfl rfl rfl ?_
  refine al_q (q_move rfl) rfl rfl rfl ?_
  refine al_inl Tryz.call74 (.cons rfl (.cons rfl (.cons rfl .nil))) rfl rfl Tryz.func74 rfl rfl ?_
  refine ac_seq ?_
  refine ac_region ?_
  refine al_q (q_assign rfl) rfl rfl rfl ?_
  refine al_end ?_
  refine aq_then ?_
  refine ac_seq ?_
  refine ac_region ?_
  refine al_q (q_move rfl) rfl rfl rfl ?_
  refine al_q (q_move rfl) rfl rfl rfl ?_
  refine al_q (q_same (v' := .bool true) (q_leq rfl rfl) rfl) rfl rfl rfl ?_
  refine al_q (q_move rfl) rfl rfl rfl ?_
  refine al_q (q_move rfl) rfl rfl rfl ?_
  refine al_q (q_move rfl) rfl rfl rfl ?_
  refine al_q (q_same (v' := .bool true) (q_leq rfl rfl) rfl) rfl rfl rfl ?_
  refine al_q (q_pickT rfl rfl) rfl rfl rfl ?_
  refine al_q (q_assign rfl) rfl rfl rfl ?_
  refine al_end ?_
  refine aq_then ?_
  refine ac_ret ?_
  refine retI Tryz.results74 (.tmp rfl .nil) .one ?_
  refine al_q (q_pickT rfl rfl) rfl rfl rfl ?_
  refine al_inl Tryz.call126 (.cons rfl (.cons rfl .nil)) rfl rfl Tryz.func126 rfl rfl ?_
  refine ac_seq ?_
  refine ac_region ?_
  refine al_q (q_move rfl) rfl rfl rfl ?_
  refine al_q (q_not rfl) rfl rfl rfl ?_
  refine al_end ?_
  refine aq_then ?_
  refine ac_condF rfl ?_
  refine ac_skip ?_
  refine retIN Tryz.results126 .nil .zero ?_
  refine al_end ?_
  refine aq_then ?_
  refine ac_region ?_
  refine al_q (q_move rfl) rfl rfl rfl ?_
  refine al_q (q_move rfl) rfl rfl rfl ?_
  refine al_q (q_nilCheckP rfl) rfl rfl rfl ?_
  refine al_store1 (i := 1) rfl rfl rfl rfl Tryz.sizeOf3 .k7 .k1 rfl ?_
  refine al_end ?_
  refine aq_inN ?_
  refine aq_then ?_
  refine ac_region ?_
  refine al_q (q_same (v' := .int .i64 7) (q_add rfl rfl (by omega)) rfl) rfl rfl rfl ?_
  refine al_q (q_move rfl) rfl rfl rfl ?_
  refine al_end ?_
  refine aq_then (aq_again ?_)
  refine ac_seq ?_
  refine ac_region ?_
  refine al_q (q_same (v' := .bool false) (q_lss rfl rfl) rfl) rfl rfl rfl ?_
  refine al_end ?_
  refine aq_then ?_
  refine ac_seq ?_
  refine ac_condF rfl ?_
  refine ac_exit ?_
  refine aq_thenE ?_
  refine aq_thenE ?_
  refine aq_hit ?_
  refine retIN Tryz.results148 .nil .zero ?_
  refine al_end ?_
  refine aq_then ?_
  refine ac_draw 12 (by kernel_rfl) (by kernel_rfl) ?_
  refine ah_take 0 (fun w9 hs => hs) rfl rfl rfl (by kernel_rfl) (by kernel_rfl) (by kernel_rfl) (fun _ _ _ h => h) rfl (q_move rfl) ?_
  refine ah_take 1 (fun w9 hs => hs) rfl rfl rfl (by kernel_rfl) (by kernel_rfl) (by kernel_rfl) (fun _ _ _ h => h) rfl (q_move rfl) ?_
  refine ah_take 2 (fun w9 hs => hs) rfl rfl rfl (by kernel_rfl) (by kernel_rfl) (by kernel_rfl) (fun _ _ _ h => h) rfl (q_nilCheckP rfl) ?_
  refine ah_take 3 (fun w9 hs => hs) rfl rfl rfl (by kernel_rfl) (by kernel_rfl) (by kernel_rfl) (fun _ _ _ h => h) rfl (q_fieldAddr 0 rfl Tryz.runUnderlying152 rfl Tryz.sizeOf29 (by decide) rfl) ?_
  refine ah_take 4 (fun w9 hs => hs) rfl rfl rfl (by kernel_rfl) (by kernel_rfl) (by kernel_rfl) (fun _ _ _ h => h) rfl (q_fieldAddr 1 rfl Tryz.runUnderlying29 rfl Tryz.sizeOf22 (by decide) rfl) ?_
  refine ah_take 5 (fun w9 hs => hs) rfl rfl rfl (by kernel_rfl) (by kernel_rfl) (by kernel_rfl) (fun _ _ _ h => h) rfl (q_load (i := 7) rfl rfl rfl Tryz.isAgg22) ?_
  refine ah_take 6 (fun w9 hs => hs) rfl rfl rfl (by kernel_rfl) (by kernel_rfl) (by kernel_rfl) (fun _ _ _ h => h) rfl (q_loadAll (i := 1) rfl rfl Tryz.isAgg75 Tryz.sizeOf75 rfl) ?_
  refine ah_one 7 rfl (by kernel_rfl) (fun hok1 hcl1 => ?_)
  refine al_new (fun b => .slice (some ⟨b, 0, none⟩) 1 1) (r_buildSlice (.cons rfl .nil) (par2_bs_apiCoil_1_0_ _ _ _ _ _ _ _ _)) rfl rfl rfl ?_
  intro b10
  refine al_end (ah_back hok1 hcl1 (fun w9 hs => (hs.tail 1 rfl)) ?_)
  refine ah_one 8 rfl (by kernel_rfl) (fun hok2 hcl2 => ?_)
  refine al_appendNil (j := 0) rfl rfl rfl Tryz.underlying22 (z := 8) (bytes := 72) (zv := (.agg #[.string { data := #[] }, .int .i64 0, .int .i64 0, .int .i64 0, .int .i64 0, .int .i64 0, .int .i64 0, .int .i64 0])) (by kernel_rfl) rfl rfl (by decide) (by decide) (by decide) rfl rfl ?_
  intro b11 c_b11 sp_b11 hc_b11 hk_b11 hl_b11
  refine al_end (ah_back hok2 hcl2 (fun w9 hs => (hs.tail 2 rfl)) ?_)
  refine ah_take 9 (fun w9 hs => (hs.tail 2 rfl)) rfl rfl rfl (by kernel_rfl) (by kernel_rfl) (by kernel_rfl) (fun _ _ _ h => h) rfl (q_nilCheckP rfl) ?_
  refine ah_take 10 (fun w9 hs => (hs.tail 2 rfl)) rfl rfl rfl (by kernel_rfl) (by kernel_rfl) (by kernel_rfl) (fun _ _ _ h => h) rfl (q_fieldAddr 0 rfl Tryz.runUnderlying152 rfl Tryz.sizeOf29 (by decide) rfl) ?_
  refine ah_take 11 (fun w9 hs => (hs.tail 2 rfl)) rfl rfl rfl (by kernel_rfl) (by kernel_rfl) (by kernel_rfl) (fun _ _ _ h => h) rfl (q_fieldAddr 1 rfl Tryz.runUnderlying29 rfl Tryz.sizeOf22 (by decide) rfl) ?_
  refine ah_one 12 rfl (by kernel_rfl) (fun hok3 hcl3 => ?_)
  refine al_store1 (i := 9) rfl rfl rfl rfl Tryz.sizeOf22 .k1 .k9 rfl ?_
  refine al_end (ah_last (by kernel_rfl) ?_)
  refine retIN Tryz.results141 .nil .zero ?_
  refine al_end ?_
  refine aq_then ?_
  refine aq_keepL [0, 2, 3, 4, 5, 6, 7, 8, 9, 11, 12, 13, 14, 15, 16, 17, 18, 19, 21, 22, 23, 24, 25, 26, 27, 28, 29, 30, 31, 32, 33, 34, 35, 36, 37, 38, 39, 41, 42, 44, 45, 46, 47, 49, 50, 51, 52, 53, 54, 55, 56] (.cons rfl (.cons rfl (.cons rfl (.cons rfl (.cons rfl (.cons rfl (.cons rfl (.cons rfl (.cons rfl (.cons rfl (.cons rfl (.cons rfl (.cons rfl (.cons rfl (.cons rfl (.cons rfl (.cons rfl (.cons rfl (.cons rfl (.cons rfl (.cons rfl (.cons rfl (.cons rfl (.cons rfl (.cons rfl (.cons rfl (.cons rfl (.cons rfl (.cons rfl (.cons rfl (.cons rfl (.cons rfl (.cons rfl (.cons rfl (.cons rfl (.cons rfl (.cons rfl (.cons rfl (.cons rfl (.cons rfl (.cons rfl (.cons rfl (.cons rfl (.cons rfl (.cons rfl (.cons rfl (.cons rfl (.cons rfl (.cons rfl (.cons rfl (.cons rfl .nil))))))))))))))))))))))))))))))))))))))))))))))))))) ?_
  refine aq_keepU ?_
  refine aq_keepB (.keep (.drop (.drop (.drop (.keep (.keep (.keep (.keep (.keep (.keep (.keep .nil))))))))))) ?_
  refine ac_seq ?_
  refine ac_region ?_
  refine al_q (q_fieldAddr 12 rfl Tryz.runUnderlying152 rfl Tryz.sizeOf150 (by decide) rfl) rfl rfl rfl ?_
  refine al_q (q_load (i := 6) rfl rfl rfl Tryz.isAgg150) rfl rfl rfl ?_
  refine al_q (q_same (v' := .int .i64 0) (q_lenS rfl Tryz.runUnderlying150) rfl) rfl rfl rfl ?_
  refine al_q (q_same (v' := .bool true) (q_eql rfl rfl) rfl) rfl rfl rfl ?_
  refine al_inl Tryz.call126 (.cons rfl (.cons rfl .nil)) rfl rfl Tryz.func126 rfl rfl ?_
  refine ac_seq ?_
  refine ac_region ?_
  refine al_q (q_move rfl) rfl rfl rfl ?_
  refine al_q (q_not rfl) rfl rfl rfl ?_
  refine al_end ?_
  refine aq_then ?_
  refine ac_condF rfl ?_
  refine ac_skip ?_
  refine retIN Tryz.results126 .nil .zero ?_
  refine al_end ?_
  refine aq_then ?_
  refine ac_seq ?_
  refine ac_region ?_
  refine al_q (q_fieldAddr 0 rfl Tryz.runUnderlying161 rfl Tryz.sizeOf3 (by decide) rfl) rfl rfl rfl ?_
  refine al_q (q_load (i := 1) rfl rfl rfl Tryz.isAgg3) rfl rfl rfl ?_
  refine al_q (q_fieldAddr 11 rfl Tryz.runUnderlying152 rfl Tryz.sizeOf3 (by decide) rfl) rfl rfl rfl ?_
  refine al_store1 (i := 6) rfl rfl rfl rfl Tryz.sizeOf3 .k11 .k6 rfl ?_
  refine al_end ?_
  refine aq_then ?_
  refine ac_seq ?_
  refine ac_region ?_
  refine al_q (q_fieldAddr 10 rfl Tryz.runUnderlying152 rfl Tryz.sizeOf3 (by decide) rfl) rfl rfl rfl ?_
  refine al_q (q_load (i := 6) rfl rfl rfl Tryz.isAgg3) rfl rfl rfl ?_
  refine al_q (q_same (v' := .int .i64 2) (q_add rfl rfl (by omega)) rfl) rfl rfl rfl ?_
  refine al_q (q_fieldAddr 10 rfl Tryz.runUnderlying152 rfl Tryz.sizeOf3 (by decide) rfl) rfl rfl rfl ?_
  refine al_store1 (i := 6) rfl rfl rfl rfl Tryz.sizeOf3 .k10 .k6 rfl ?_
  refine al_end ?_
  refine aq_then ?_
  refine ac_region ?_
  refine al_q (q_move rfl) rfl rfl rfl ?_
  refine al_q (q_assign rfl) rfl rfl rfl ?_
  refine al_end ?_
  refine aq_inN ?_
  refine aq_then (aq_again ?_)
  refine ac_seq ?_
  refine ac_seq ?_
  refine ac_region ?_
  refine al_q (q_move rfl) rfl rfl rfl ?_
  refine al_q (q_same (v' := .bool true) (q_neqT rfl rfl) (by kernel_rfl)) rfl rfl rfl ?_
  refine al_end ?_
  refine aq_then ?_
  refine ac_condT rfl ?_
  refine ac_skip ?_
  refine aq_then ?_
  refine ac_block ?_
  refine ac_seq ?_
  refine ac_region ?_
  refine al_q (q_move rfl) rfl rfl rfl ?_
  refine al_call Tryz.call125 (.cons rfl (.cons rfl .nil)) rfl rfl (fun w19 hs19 => ?_)
  refine (cut_at _ _ ⟨#[108, 105, 109, 105, 116, 32, 57, 32, 57]⟩ ⟨#[103, 114, 105, 100, 32, 51, 32, 52, 32, 49, 32, 49, 32, 49, 10]⟩ true _ (hE.below hs19.below) (by decide) (by kernel_rfl)).mono ?_
  rintro e u19 ⟨rfl, hb_19⟩
  refine ⟨_, rfl, hb_19, ?_⟩
  clear hs19
  refine al_q (q_move rfl) rfl rfl rfl ?_
  refine al_q (q_extract rfl rfl) rfl rfl rfl ?_
  refine al_q (q_extract rfl rfl) rfl rfl rfl ?_
  refine al_q (q_extract rfl rfl) rfl rfl rfl ?_
  refine al_q (q_assign rfl) rfl rfl rfl ?_
  refine al_q (q_assign rfl) rfl rfl rfl ?_
  refine al_q (q_assign rfl) rfl rfl rfl ?_
  refine al_end ?_
  refine aq_then ?_
  refine ac_seq ?_
  refine ac_region ?_
  refine al_q (q_move rfl) rfl rfl rfl ?_
  refine al_inl Tryz.call126 (.cons rfl (.cons rfl .nil)) rfl rfl Tryz.func126 rfl rfl ?_
  refine ac_seq ?_
  refine ac_region ?_
  refine al_q (q_move rfl) rfl rfl rfl ?_
  refine al_q (q_not rfl) rfl rfl rfl ?_
  refine al_end ?_
  refine aq_then ?_
  refine ac_condF rfl ?_
  refine ac_skip ?_
  refine retIN Tryz.results126 .nil .zero ?_
  refine al_end ?_
  refine aq_then ?_
  refine ac_seq ?_
  refine ac_region ?_
  refine al_q (q_move rfl) rfl rfl rfl ?_
  refine al_callS Tryz.call127 (.cons rfl (.cons rfl .nil)) rfl rfl (fun w20 hs20 => ?_)
  refine (split_at _ _ [⟨#[108, 105, 109, 105, 116]⟩, ⟨#[57]⟩, ⟨#[57]⟩] 3 _ (hE.below hs20.below) (by decide) (by decide) (by kernel_rfl) (by kernel_rfl)).mono ?_
  rintro e u20 ⟨rfl, hb_20, hx_20⟩
  refine ⟨_, _, _, rfl, hs20.adopt hb_20 (Nat.le_refl _) hx_20, ?_⟩
  generalize (World.heap w20).size = b12
  refine al_q (q_fieldAddr 12 rfl Tryz.runUnderlying152 rfl Tryz.sizeOf150 (by decide) rfl) rfl rfl rfl ?_
  refine al_store1 (i := 7) rfl rfl rfl rfl Tryz.sizeOf150 .k12 .k7 rfl ?_
  refine al_end ?_
  refine aq_then ?_
  refine ac_seq ?_
  refine ac_region ?_
  refine al_q (q_move rfl) rfl rfl rfl ?_
  refine al_inl Tryz.call128 (.cons rfl .nil) rfl rfl Tryz.func128 rfl rfl ?_
  refine ac_seq ?_
  refine ac_region ?_
  refine al_q (q_assign rfl) rfl rfl rfl ?_
  refine al_end ?_
  refine aq_then ?_
  refine ac_seq ?_
  refine ac_region ?_
  refine al_q (q_move rfl) rfl rfl rfl ?_
  refine al_q (q_move rfl) rfl rfl rfl ?_
  refine al_q (q_nilCheckP rfl) rfl rfl rfl ?_
  refine al_q (q_fieldAddr 12 rfl Tryz.runUnderlying152 rfl Tryz.sizeOf150 (by decide) rfl) rfl rfl rfl ?_
  refine al_q (q_load (i := 7) rfl rfl rfl Tryz.isAgg150) rfl rfl rfl ?_
  refine al_q (q_same (v' := .int .i64 3) (q_lenS rfl Tryz.runUnderlying150) rfl) rfl rfl rfl ?_
  refine al_q (q_same (v' := .bool true) (q_gtr rfl rfl) rfl) rfl rfl rfl ?_
  refine al_q (q_move rfl) rfl rfl rfl ?_
  refine al_q (q_move rfl) rfl rfl rfl ?_
  refine al_q (q_nilCheckP rfl) rfl rfl rfl ?_
  refine al_q (q_fieldAddr 12 rfl Tryz.runUnderlying152 rfl Tryz.sizeOf150 (by decide) rfl) rfl rfl rfl ?_
  refine al_q (q_load (i := 7) rfl rfl rfl Tryz.isAgg150) rfl rfl rfl ?_
  refine al_q (q_indexAddr (i := 0) 0 rfl rfl rfl (by decide) Tryz.runUnderlying150 Tryz.sizeOf9 rfl) rfl rfl rfl ?_
  refine al_q (q_load (i := 0) rfl rfl rfl Tryz.isAgg9) rfl rfl rfl ?_
  refine al_q (q_same (v' := .bool true) (q_neqT rfl rfl) (by kernel_rfl)) rfl rfl rfl ?_
  refine al_q (q_pickT rfl rfl) rfl rfl rfl ?_
  refine al_inl Tryz.call126 (.cons rfl (.cons rfl .nil)) rfl rfl Tryz.func126 rfl rfl ?_
  refine ac_seq ?_
  refine ac_region ?_
  refine al_q (q_move rfl) rfl rfl rfl ?_
  refine al_q (q_not rfl) rfl rfl rfl ?_
  refine al_end ?_
  refine aq_then ?_
  refine ac_condF rfl ?_
  refine ac_skip ?_
  refine retIN Tryz.results126 .nil .zero ?_
  refine al_end ?_
  refine aq_then ?_
  refine ac_seq ?_
  refine ac_region ?_
  refine al_q (q_move rfl) rfl rfl rfl ?_
  refine al_q (q_nilCheckP rfl) rfl rfl rfl ?_
  refine al_q (q_fieldAddr 12 rfl Tryz.runUnderlying152 rfl Tryz.sizeOf150 (by decide) rfl) rfl rfl rfl ?_
  refine al_q (q_load (i := 7) rfl rfl rfl Tryz.isAgg150) rfl rfl rfl ?_
  refine al_q (q_indexAddr (i := 0) 0 rfl rfl rfl (by decide) Tryz.runUnderlying150 Tryz.sizeOf9 rfl) rfl rfl rfl ?_
  refine al_q (q_load (i := 0) rfl rfl rfl Tryz.isAgg9) rfl rfl rfl ?_
  refine al_q (q_assign rfl) rfl rfl rfl ?_
  refine al_end ?_
  refine aq_then ?_
  refine ac_seq ?_
  refine ac_region ?_
  refine al_q (q_move rfl) rfl rfl rfl ?_
  refine al_q (q_move rfl) rfl rfl rfl ?_
  refine al_q (q_nilCheckP rfl) rfl rfl rfl ?_
  refine al_q (q_fieldAddr 12 rfl Tryz.runUnderlying152 rfl Tryz.sizeOf150 (by decide) rfl) rfl rfl rfl ?_
  refine al_q (q_load (i := 7) rfl rfl rfl Tryz.isAgg150) rfl rfl rfl ?_
  refine al_q (q_same (v' := .slice (some ⟨b12, 1, none⟩) 2 2) (q_fromS (lo := 1) rfl rfl rfl (by decide) (by decide) Tryz.underlying150 Tryz.sizeOf9 rfl) rfl) rfl rfl rfl ?_
  refine al_q (q_nilCheckP rfl) rfl rfl rfl ?_
  refine al_q (q_fieldAddr 12 rfl Tryz.runUnderlying152 rfl Tryz.sizeOf150 (by decide) rfl) rfl rfl rfl ?_
  refine al_store1 (i := 7) rfl rfl rfl rfl Tryz.sizeOf150 .k12 .k7 rfl ?_
  refine al_end ?_
  refine aq_then ?_
  refine aq_keepL [2, 3] (.cons rfl (.cons rfl .nil)) ?_
  refine aq_keepU ?_
  refine aq_keepB (.keep (.keep (.keep (.keep (.drop (.keep (.keep (.keep (.keep .nil))))))))) ?_
  refine ac_seq ?_
  refine ac_region ?_
  refine al_q (q_move rfl) rfl rfl rfl ?_
  refine al_q (q_assign rfl) rfl rfl rfl ?_
  refine al_end ?_
  refine aq_then ?_
  refine ac_ret ?_
  refine retI Tryz.results128 (.tmp rfl .nil) .one ?_
  refine al_q (q_lookup2 (i := 5) (j := 3) (v := (.agg #[(.int .i64 4), (.int .i64 1), (.int .i64 4), (.func (.func 143) #[] #[])])) rfl rfl rfl Tryz.underlying153 Tryz.underlying9 rfl rfl (by kernel_rfl)) rfl rfl rfl ?_
  refine al_q (q_move rfl) rfl rfl rfl ?_
  refine al_q (q_extract rfl rfl) rfl rfl rfl ?_
  refine al_q (q_extract rfl rfl) rfl rfl rfl ?_
  refine al_new (fun b => .pointer (some ⟨b, 0, none⟩)) (r_alloc Tryz.zeroValue161 rfl) rfl rfl rfl ?_
  intro b13
  refine al_storeAll (i := 0) rfl rfl rfl rfl Tryz.sizeOf161 rfl rfl .k0 rfl ?_
  refine al_q (q_assign rfl) rfl rfl rfl ?_
  refine al_end ?_
  refine aq_then ?_
  refine ac_seq ?_
  refine ac_region ?_
  refine al_q (q_move rfl) rfl rfl rfl ?_
  refine al_q (q_move rfl) rfl rfl rfl ?_
  refine al_q (q_fieldAddr 11 rfl Tryz.runUnderlying152 rfl Tryz.sizeOf3 (by decide) rfl) rfl rfl rfl ?_
  refine al_q (q_load (i := 7) rfl rfl rfl Tryz.isAgg3) rfl rfl rfl ?_
  refine al_q (q_fieldAddr 1 rfl Tryz.runUnderlying161 rfl Tryz.sizeOf3 (by decide) rfl) rfl rfl rfl ?_
  refine al_q (q_load (i := 0) rfl rfl rfl Tryz.isAgg3) rfl rfl rfl ?_
  refine al_q (q_fieldAddr 2 rfl Tryz.runUnderlying161 rfl Tryz.sizeOf3 (by decide) rfl) rfl rfl rfl ?_
  refine al_q (q_load (i := 0) rfl rfl rfl Tryz.isAgg3) rfl rfl rfl ?_
  refine al_inl Tryz.call74 (.cons rfl (.cons rfl (.cons rfl .nil))) rfl rfl Tryz.func74 rfl rfl ?_
  refine ac_seq ?_
  refine ac_region ?_
  refine al_q (q_assign rfl) rfl rfl rfl ?_
  refine al_end ?_
  refine aq_then ?_
  refine ac_seq ?_
  refine ac_region ?_
  refine al_q (q_move rfl) rfl rfl rfl ?_
  refine al_q (q_move rfl) rfl rfl rfl ?_
  refine al_q (q_same (v' := .bool true) (q_leq rfl rfl) rfl) rfl rfl rfl ?_
  refine al_q (q_move rfl) rfl rfl rfl ?_
  refine al_q (q_move rfl) rfl rfl rfl ?_
  refine al_q (q_move rfl) rfl rfl rfl ?_
  refine al_q (q_same (v' := .bool true) (q_leq rfl rfl) rfl) rfl rfl rfl ?_
  refine al_q (q_pickT rfl rfl) rfl rfl rfl ?_
  refine al_q (q_assign rfl) rfl rfl rfl ?_
  refine al_end ?_
  refine aq_then ?_
  refine ac_ret ?_
  refine retI Tryz.results74 (.tmp rfl .nil) .one ?_
  refine al_q (q_pickT rfl rfl) rfl rfl rfl ?_
  refine al_inl Tryz.call126 (.cons rfl (.cons rfl .nil)) rfl rfl Tryz.func126 rfl rfl ?_
  refine ac_seq ?_
  refine ac_region ?_
  refine al_q (q_move rfl) rfl rfl rfl ?_
  refine al_q (q_not rfl) rfl rfl rfl ?_
  refine al_end ?_
  refine aq_then ?_
  refine ac_condF rfl ?_
  refine ac_skip ?_
  refine retIN Tryz.results126 .nil .zero ?_
  refine al_end ?_
  refine aq_then ?_
  refine ac_seq ?_
  refine ac_region ?_
  refine al_q (q_fieldAddr 3 rfl Tryz.runUnderlying161 rfl Tryz.sizeOf159 (by decide) rfl) rfl rfl rfl ?_
  refine al_q (q_load (i := 0) rfl rfl rfl Tryz.isAgg159) rfl rfl rfl ?_
  refine al_inlV (fi := []) (ca := []) rfl Tryz.call143 (.cons rfl .nil) rfl rfl Tryz.func143 rfl rfl ?_
  refine ac_seq ?_
  refine ac_region ?_
  refine al_new (fun b => .pointer (some ⟨b, 0, none⟩)) (r_alloc Tryz.zeroValue40 rfl) rfl rfl rfl ?_
  intro b14
  refine al_end ?_
  refine aq_then ?_
  refine ac_seq ?_
  refine ac_region ?_
  refine al_q (q_move rfl) rfl rfl rfl ?_
  refine al_q (q_fieldAddr 0 rfl Tryz.runUnderlying40 rfl Tryz.sizeOf3 (by decide) rfl) rfl rfl rfl ?_
  refine al_q (q_fieldAddr 1 rfl Tryz.runUnderlying40 rfl Tryz.sizeOf3 (by decide) rfl) rfl rfl rfl ?_
  refine al_new (fun b => .slice (some ⟨b, 0, none⟩) 2 2) (r_buildSlice (.cons rfl (.cons rfl .nil)) (par2_bs_int_2_0_1 _ _ rfl rfl)) rfl rfl rfl ?_
  intro b15
  refine al_inl Tryz.call148 (.cons rfl (.cons rfl .nil)) rfl rfl Tryz.func148 rfl rfl ?_
  refine ac_seq ?_
  refine ac_region ?_
  refine al_q (q_move rfl) rfl rfl rfl ?_
  refine al_q (q_same (v' := .int .i64 2) (q_lenS rfl Tryz.runUnderlying180) rfl) rfl rfl rfl ?_
  refine al_q (q_move rfl) rfl rfl rfl ?_
  refine al_end ?_
  refine aq_then ?_
  refine ac_block ?_
  refine ac_loop1 ?_
  refine ac_seq ?_
  refine ac_region ?_
  refine al_q (q_same (v' := .bool true) (q_lss rfl rfl) rfl) rfl rfl rfl ?_
  refine al_end ?_
  refine aq_then ?_
  refine ac_seq ?_
  refine ac_condT rfl ?_
  refine ac_skip ?_
  refine aq_then ?_
  refine ac_seq ?_
  refine ac_block ?_
  refine ac_seq ?_
  refine ac_region ?_
  refine al_q (q_indexAddr (i := 0) 0 rfl rfl rfl (by decide) Tryz.runUnderlying180 Tryz.sizeOf137 rfl) rfl rfl rfl ?_
  refine al_q (q_load (i := 0) rfl rfl rfl Tryz.isAgg137) rfl rfl rfl ?_
  refine al_q (q_assign rfl) rfl rfl rfl ?_
  refine al_end ?_
  refine aq_then ?_
  refine ac_seq ?_
  refine ac_region ?_
  refine al_q (q_move rfl) rfl rfl rfl ?_
  refine al_inl Tryz.call128 (.cons rfl .nil) rfl rfl Tryz.func128 rfl rfl ?_
  refine ac_seq ?_
  refine ac_region ?_
  refine al_q (q_assign rfl) rfl rfl rfl ?_
  refine al_end ?_
  refine aq_then ?_
  refine ac_seq ?_
  refine ac_region ?_
  refine al_q (q_move rfl) rfl rfl rfl ?_
  refine al_q (q_move rfl) rfl rfl rfl ?_
  refine al_q (q_nilCheckP rfl) rfl rfl rfl ?_
  refine al_q (q_fieldAddr 12 rfl Tryz.runUnderlying152 rfl Tryz.sizeOf150 (by decide) rfl) rfl rfl rfl ?_
  refine al_q (q_load (i := 9) rfl rfl rfl Tryz.isAgg150) rfl rfl rfl ?_
  refine al_q (q_same (v' := .int .i64 2) (q_lenS rfl Tryz.runUnderlying150) rfl) rfl rfl rfl ?_
  refine al_q (q_same (v' := .bool true) (q_gtr rfl rfl) rfl) rfl rfl rfl ?_
  refine al_q (q_move rfl) rfl rfl rfl ?_
  refine al_q (q_move rfl) rfl rfl rfl ?_
  refine al_q (q_nilCheckP rfl) rfl rfl rfl ?_
  refine al_q (q_fieldAddr 12 rfl Tryz.runUnderlying152 rfl Tryz.sizeOf150 (by decide) rfl) rfl rfl rfl ?_
  refine al_q (q_load (i := 9) rfl rfl rfl Tryz.isAgg150) rfl rfl rfl ?_
  refine al_q (q_indexAddr (i := 0) 1 rfl rfl rfl (by decide) Tryz.runUnderlying150 Tryz.sizeOf9 rfl) rfl rfl rfl ?_
  refine al_q (q_load (i := 3) rfl rfl rfl Tryz.isAgg9) rfl rfl rfl ?_
  refine al_q (q_same (v' := .bool true) (q_neqT rfl rfl) (by kernel_rfl)) rfl rfl rfl ?_
  refine al_q (q_pickT rfl rfl) rfl rfl rfl ?_
  refine al_inl Tryz.call126 (.cons rfl (.cons rfl .nil)) rfl rfl Tryz.func126 rfl rfl ?_
  refine ac_seq ?_
  refine ac_region ?_
  refine al_q (q_move rfl) rfl rfl rfl ?_
  refine al_q (q_not rfl) rfl rfl rfl ?_
  refine al_end ?_
  refine aq_then ?_
  refine aq_keepL [0, 5] (.cons rfl (.cons rfl .nil)) ?_
  refine ac_condF rfl ?_
  refine ac_skip ?_
  refine retIN Tryz.results126 .nil .zero ?_
  refine al_end ?_
  refine aq_then ?_
  refine ac_seq ?_
  refine ac_region ?_
  refine al_q (q_move rfl) rfl rfl rfl ?_
  refine al_q (q_nilCheckP rfl) rfl rfl rfl ?_
  refine al_q (q_fieldAddr 12 rfl Tryz.runUnderlying152 rfl Tryz.sizeOf150 (by decide) rfl) rfl rfl rfl ?_
  refine al_q (q_load (i := 9) rfl rfl rfl Tryz.isAgg150) rfl rfl rfl ?_
  refine al_q (q_indexAddr (i := 0) 1 rfl rfl rfl (by decide) Tryz.runUnderlying150 Tryz.sizeOf9 rfl) rfl rfl rfl ?_
  refine al_q (q_load (i := 3) rfl rfl rfl Tryz.isAgg9) rfl rfl rfl ?_
  refine al_q (q_assign rfl) rfl rfl rfl ?_
  refine al_end ?_
  refine aq_then ?_
  refine ac_seq ?_
  refine ac_region ?_
  refine al_q (q_move rfl) rfl rfl rfl ?_
  refine al_q (q_move rfl) rfl rfl rfl ?_
  refine al_q (q_nilCheckP rfl) rfl rfl rfl ?_
  refine al_q (q_fieldAddr 12 rfl Tryz.runUnderlying152 rfl Tryz.sizeOf150 (by decide) rfl) rfl rfl rfl ?_
  refine al_q (q_load (i := 9) rfl rfl rfl Tryz.isAgg150) rfl rfl rfl ?_
  refine al_q (q_same (v' := .slice (some ⟨b12, 2, none⟩) 1 1) (q_fromS (lo := 1) rfl rfl rfl (by decide) (by decide) Tryz.underlying150 Tryz.sizeOf9 rfl) rfl) rfl rfl rfl ?_
  refine al_q (q_nilCheckP rfl) rfl rfl rfl ?_
  refine al_q (q_fieldAddr 12 rfl Tryz.runUnderlying152 rfl Tryz.sizeOf150 (by decide) rfl) rfl rfl rfl ?_
  refine al_store1 (i := 9) rfl rfl rfl rfl Tryz.sizeOf150 .k12 .k9 rfl ?_
  refine al_end ?_
  refine aq_then ?_
  refine ac_seq ?_
  refine ac_region ?_
  refine al_q (q_move rfl) rfl rfl rfl ?_
  refine al_q (q_assign rfl) rfl rfl rfl ?_
  refine al_end ?_
  refine aq_then ?_
  refine ac_ret ?_
  refine retI Tryz.results128 (.tmp rfl .nil) .one ?_
  refine al_q (q_assign rfl) rfl rfl rfl ?_
  refine al_end ?_
  refine aq_then ?_
  refine ac_seq ?_
  refine ac_region ?_
  refine al_q (q_move rfl) rfl rfl rfl ?_
  refine al_call Tryz.call154 (.cons rfl .nil) rfl rfl (fun w21 hs21 => ?_)
  refine (atoi_at _ 9 _ (by decide) (by kernel_rfl)).mono ?_
  rintro e u21 ⟨rfl, hb_21⟩
  refine ⟨_, rfl, hb_21, ?_⟩
  clear hs21
  refine al_q (q_move rfl) rfl rfl rfl ?_
  refine al_q (q_extract rfl rfl) rfl rfl rfl ?_
  refine al_q (q_extract rfl rfl) rfl rfl rfl ?_
  refine al_q (q_assign rfl) rfl rfl rfl ?_
  refine al_q (q_assign rfl) rfl rfl rfl ?_
  refine al_end ?_
  refine aq_then ?_
  refine ac_seq ?_
  refine ac_region ?_
  refine al_q (q_move rfl) rfl rfl rfl ?_
  refine al_q (q_move rfl) rfl rfl rfl ?_
  refine al_q (q_eqlNilI rfl Tryz.underlying182) rfl rfl rfl ?_
  refine al_q (q_move rfl) rfl rfl rfl ?_
  refine al_q (q_move rfl) rfl rfl rfl ?_
  refine al_call Tryz.call155 (.cons rfl .nil) rfl rfl (fun w22 hs22 => ?_)
  refine (itoa_at _ ⟨#[57]⟩ _ (hE.below hs22.below) (by decide) (by decide) (by kernel_rfl)).mono ?_
  rintro e u22 ⟨rfl, hb_22⟩
  refine ⟨_, rfl, hb_22, ?_⟩
  clear hs22
  refine al_q (q_move rfl) rfl rfl rfl ?_
  refine al_q (q_same (v' := .bool true) (q_eqlT rfl rfl) (by kernel_rfl)) rfl rfl rfl ?_
  refine al_q (q_pickT rfl rfl) rfl rfl rfl ?_
  refine al_q (q_move rfl) rfl rfl rfl ?_
  refine al_q (q_move rfl) rfl rfl rfl ?_
  refine al_inl Tryz.call74 (.cons rfl (.cons rfl (.cons rfl .nil))) rfl rfl Tryz.func74 rfl rfl ?_
  refine ac_seq ?_
  refine ac_region ?_
  refine al_q (q_assign rfl) rfl rfl rfl ?_
  refine al_end ?_
  refine aq_then ?_
  refine ac_seq ?_
  refine ac_region ?_
  refine al_q (q_move rfl) rfl rfl rfl ?_
  refine al_q (q_move rfl) rfl rfl rfl ?_
  refine al_q (q_same (v' := .bool true) (q_leq rfl rfl) rfl) rfl rfl rfl ?_
  refine al_q (q_move rfl) rfl rfl rfl ?_
  refine al_q (q_move rfl) rfl rfl rfl ?_
  refine al_q (q_move rfl) rfl rfl rfl ?_
  refine al_q (q_same (v' := .bool true) (q_leq rfl rfl) rfl) rfl rfl rfl ?_
  refine al_q (q_pickT rfl rfl) rfl rfl rfl ?_
  refine al_q (q_assign rfl) rfl rfl rfl ?_
  refine al_end ?_
  refine aq_then ?_
  refine ac_ret ?_
  refine retI Tryz.results74 (.tmp rfl .nil) .one ?_
  refine al_q (q_pickT rfl rfl) rfl rfl rfl ?_
  refine al_inl Tryz.call126 (.cons rfl (.cons rfl .nil)) rfl rfl Tryz.func126 rfl rfl ?_
  refine ac_seq ?_
  refine ac_region ?_
  refine al_q (q_move rfl) rfl rfl rfl ?_
  refine al_q (q_not rfl) rfl rfl rfl ?_
  refine al_end ?_
  refine aq_then ?_
  refine ac_condF rfl ?_
  refine ac_skip ?_
  refine retIN Tryz.results126 .nil .zero ?_
  refine al_end ?_
  refine aq_then ?_
  refine ac_region ?_
  refine al_q (q_move rfl) rfl rfl rfl ?_
  refine al_q (q_move rfl) rfl rfl rfl ?_
  refine al_q (q_nilCheckP rfl) rfl rfl rfl ?_
  refine al_store1 (i := 1) rfl rfl rfl rfl Tryz.sizeOf3 .k0 .k1 rfl ?_
  refine al_end ?_
  refine aq_inN ?_
  refine aq_then ?_
  refine ac_region ?_
  refine al_q (q_same (v' := .int .i64 1) (q_add rfl rfl (by omega)) rfl) rfl rfl rfl ?_
  refine al_q (q_move rfl) rfl rfl rfl ?_
  refine al_end ?_
  refine aq_then (aq_again ?_)
  refine ac_seq ?_
  refine ac_region ?_
  refine al_q (q_same (v' := .bool true) (q_lss rfl rfl) rfl) rfl rfl rfl ?_
  refine al_end ?_
  refine aq_then ?_
  refine ac_seq ?_
  refine ac_condT rfl ?_
  refine ac_skip ?_
  refine aq_then ?_
  refine ac_seq ?_
  refine ac_block ?_
  refine ac_seq ?_
  refine ac_region ?_
  refine al_q (q_indexAddr (i := 1) 1 rfl rfl rfl (by decide) Tryz.runUnderlying180 Tryz.sizeOf137 rfl) rfl rfl rfl ?_
  refine al_q (q_load (i := 0) rfl rfl rfl Tryz.isAgg137) rfl rfl rfl ?_
  refine al_q (q_assign rfl) rfl rfl rfl ?_
  refine al_end ?_
  refine aq_then ?_
  refine ac_seq ?_
  refine ac_region ?_
  refine al_q (q_move rfl) rfl rfl rfl ?_
  refine al_inl Tryz.call128 (.cons rfl .nil) rfl rfl Tryz.func128 rfl rfl ?_
  refine ac_seq ?_
  refine ac_region ?_
  refine al_q (q_assign rfl) rfl rfl rfl ?_
  refine al_end ?_
  refine aq_then ?_
  refine ac_seq ?_
  refine ac_region ?_
  refine al_q (q_move rfl) rfl rfl rfl ?_
  refine al_q (q_move rfl) rfl rfl rfl ?_
  refine al_q (q_nilCheckP rfl) rfl rfl rfl ?_
  refine al_q (q_fieldAddr 12 rfl Tryz.runUnderlying152 rfl Tryz.sizeOf150 (by decide) rfl) rfl rfl rfl ?_
  refine al_q (q_load (i := 9) rfl rfl rfl Tryz.isAgg150) rfl rfl rfl ?_
  refine al_q (q_same (v' := .int .i64 1) (q_lenS rfl Tryz.runUnderlying150) rfl) rfl rfl rfl ?_
  refine al_q (q_same (v' := .bool true) (q_gtr rfl rfl) rfl) rfl rfl rfl ?_
  refine al_q (q_move rfl) rfl rfl rfl ?_
  refine al_q (q_move rfl) rfl rfl rfl ?_
  refine al_q (q_nilCheckP rfl) rfl rfl rfl ?_
  refine al_q (q_fieldAddr 12 rfl Tryz.runUnderlying152 rfl Tryz.sizeOf150 (by decide) rfl) rfl rfl rfl ?_
  refine al_q (q_load (i := 9) rfl rfl rfl Tryz.isAgg150) rfl rfl rfl ?_
  refine al_q (q_indexAddr (i := 0) 2 rfl rfl rfl (by decide) Tryz.runUnderlying150 Tryz.sizeOf9 rfl) rfl rfl rfl ?_
  refine al_q (q_load (i := 3) rfl rfl rfl Tryz.isAgg9) rfl rfl rfl ?_
  refine al_q (q_same (v' := .bool true) (q_neqT rfl rfl) (by kernel_rfl)) rfl rfl rfl ?_
  refine al_q (q_pickT rfl rfl) rfl rfl rfl ?_
  refine al_inl Tryz.call126 (.cons rfl (.cons rfl .nil)) rfl rfl Tryz.func126 rfl rfl ?_
  refine ac_seq ?_
  refine ac_region ?_
  refine al_q (q_move rfl) rfl rfl rfl ?_
  refine al_q (q_not rfl) rfl rfl rfl ?_
  refine al_end ?_
  refine aq_then ?_
  refine aq_keepL [0, 5] (.cons rfl (.cons rfl .nil)) ?_
  refine aq_keepU ?_
  refine ac_condF rfl ?_
  refine ac_skip ?_
  refine retIN Tryz.results126 .nil .zero ?_
  refine al_end ?_
  refine aq_then ?_
  refine ac_seq ?_
  refine ac_region ?_
  refine al_q (q_move rfl) rfl rfl rfl ?_
  refine al_q (q_nilCheckP rfl) rfl rfl rfl ?_
  refine al_q (q_fieldAddr 12 rfl Tryz.runUnderlying152 rfl Tryz.sizeOf150 (by decide) rfl) rfl rfl rfl ?_
  refine al_q (q_load (i := 9) rfl rfl rfl Tryz.isAgg150) rfl rfl rfl ?_
  refine al_q (q_indexAddr (i := 0) 2 rfl rfl rfl (by decide) Tryz.runUnderlying150 Tryz.sizeOf9 rfl) rfl rfl rfl ?_
  refine al_q (q_load (i := 3) rfl rfl rfl Tryz.isAgg9) rfl rfl rfl ?_
  refine al_q (q_assign rfl) rfl rfl rfl ?_
  refine al_end ?_
  refine aq_then ?_
  refine ac_seq ?_
  refine ac_region ?_
  refine al_q (q_move rfl) rfl rfl rfl ?_
  refine al_q (q_move rfl) rfl rfl rfl ?_
  refine al_q (q_nilCheckP rfl) rfl rfl rfl ?_
  refine al_q (q_fieldAddr 12 rfl Tryz.runUnderlying152 rfl Tryz.sizeOf150 (by decide) rfl) rfl rfl rfl ?_
  refine al_q (q_load (i := 9) rfl rfl rfl Tryz.isAgg150) rfl rfl rfl ?_
  refine al_q (q_same (v' := .slice (some ⟨b12, 2, none⟩) 0 0) (q_fromS (lo := 1) rfl rfl rfl (by decide) (by decide) Tryz.underlying150 Tryz.sizeOf9 rfl) rfl) rfl rfl rfl ?_
  refine al_q (q_nilCheckP rfl) rfl rfl rfl ?_
  refine al_q (q_fieldAddr 12 rfl Tryz.runUnderlying152 rfl Tryz.sizeOf150 (by decide) rfl) rfl rfl rfl ?_
  refine al_store1 (i := 9) rfl rfl rfl rfl Tryz.sizeOf150 .k12 .k9 rfl ?_
  refine al_end ?_
  refine aq_then ?_
  refine ac_seq ?_
  refine ac_region ?_
  refine al_q (q_move rfl) rfl rfl rfl ?_
  refine al_q (q_assign rfl) rfl rfl rfl ?_
  refine al_end ?_
  refine aq_then ?_
  refine ac_ret ?_
  refine retI Tryz.results128 (.tmp rfl .nil) .one ?_
  refine al_q (q_assign rfl) rfl rfl rfl ?_
  refine al_end ?_
  refine aq_then ?_
  refine ac_seq ?_
  refine ac_region ?_
  refine al_q (q_move rfl) rfl rfl rfl ?_
  refine al_call Tryz.call154 (.cons rfl .nil) rfl rfl (fun w23 hs23 => ?_)
  refine (atoi_at _ 9 _ (by decide) (by kernel_rfl)).mono ?_
  rintro e u23 ⟨rfl, hb_23⟩
  refine ⟨_, rfl, hb_23, ?_⟩
  clear hs23
  refine al_q (q_move rfl) rfl rfl rfl ?_
  refine al_q (q_extract rfl rfl) rfl rfl rfl ?_
  refine al_q (q_extract rfl rfl) rfl rfl rfl ?_
  refine al_q (q_assign rfl) rfl rfl rfl ?_
  refine al_q (q_assign rfl) rfl rfl rfl ?_
  refine al_end ?_
  refine aq_then ?_
  refine ac_seq ?_
  refine ac_region ?_
  refine al_q (q_move rfl) rfl rfl rfl ?_
  refine al_q (q_move rfl) rfl rfl rfl ?_
  refine al_q (q_eqlNilI rfl Tryz.underlying182) rfl rfl rfl ?_
  refine al_q (q_move rfl) rfl rfl rfl ?_
  refine al_q (q_move rfl) rfl rfl rfl ?_
  refine al_call Tryz.call155 (.cons rfl .nil) rfl rfl (fun w24 hs24 => ?_)
  refine (itoa_at _ ⟨#[57]⟩ _ (hE.below hs24.below) (by decide) (by decide) (by kernel_rfl)).mono ?_
  rintro e u24 ⟨rfl, hb_24⟩
  refine ⟨_, rfl, hb_24, ?_⟩
  clear hs24
  refine al_q (q_move rfl) rfl rfl rfl ?_
  refine al_q (q_same (v' := .bool true) (q_eqlT rfl rfl) (by kernel_rfl)) rfl rfl rfl ?_
  refine al_q (q_pickT rfl rfl) rfl rfl rfl ?_
  refine al_q (q_move rfl) rfl rfl rfl ?_
  refine al_q (q_move rfl) rfl rfl rfl ?_
  refine al_inl Tryz.call74 (.cons rfl (.cons rfl (.cons rfl .nil))) rfl rfl Tryz.func74 rfl rfl ?_
  refine ac_seq ?_
  refine ac_region ?_
  refine al_q (q_assign rfl) rfl rfl rfl ?_
  refine al_end ?_
  refine aq_then ?_
  refine ac_seq ?_
  refine ac_region ?_
  refine al_q (q_move rfl) rfl rfl rfl ?_
  refine al_q (q_move rfl) rfl rfl rfl ?_
  refine al_q (q_same (v' := .bool true) (q_leq rfl rfl) rfl) rfl rfl rfl ?_
  refine al_q (q_move rfl) rfl rfl rfl ?_
  refine al_q (q_move rfl) rfl rfl rfl ?_
  refine al_q (q_move rfl) rfl rfl rfl ?_
  refine al_q (q_same (v' := .bool true) (q_leq rfl rfl) rfl) rfl rfl rfl ?_
  refine al_q (q_pickT rfl rfl) rfl rfl rfl ?_
  refine al_q (q_assign rfl) rfl rfl rfl ?_
  refine al_end ?_
  refine aq_then ?_
  refine ac_ret ?_
  refine retI Tryz.results74 (.tmp rfl .nil) .one ?_
  refine al_q (q_pickT rfl rfl) rfl rfl rfl ?_
  refine al_inl Tryz.call126 (.cons rfl (.cons rfl .nil)) rfl rfl Tryz.func126 rfl rfl ?_
  refine ac_seq ?_
  refine ac_region ?_
  refine al_q (q_move rfl) rfl rfl rfl ?_
  refine al_q (q_not rfl) rfl rfl rfl ?_
  refine al_end ?_
  refine aq_then ?_
  refine ac_condF rfl ?_
  refine ac_skip ?_
  refine retIN Tryz.results126 .nil .zero ?_
  refine al_end ?_
  refine aq_then ?_
  refine ac_region ?_
  refine al_q (q_move rfl) rfl rfl rfl ?_
  refine al_q (q_move rfl) rfl rfl rfl ?_
  refine al_q (q_nilCheckP rfl) rfl rfl rfl ?_
  refine al_store1 (i := 1) rfl rfl rfl rfl Tryz.sizeOf3 .k1 .k1 rfl ?_
  refine al_end ?_
  refine aq_inN ?_
  refine aq_then ?_
  refine ac_region ?_
  refine al_q (q_same (v' := .int .i64 2) (q_add rfl rfl (by omega)) rfl) rfl rfl rfl ?_
  refine al_q (q_move rfl) rfl rfl rfl ?_
  refine al_end ?_
  refine aq_then (aq_again ?_)
  refine ac_seq ?_
  refine ac_region ?_
  refine al_q (q_same (v' := .bool false) (q_lss rfl rfl) rfl) rfl rfl rfl ?_
  refine al_end ?_
  refine aq_then ?_
  refine ac_seq ?_
  refine ac_condF rfl ?_
  refine ac_exit ?_
  refine aq_thenE ?_
  refine aq_thenE ?_
  refine aq_hit ?_
  refine retIN Tryz.results148 .nil .zero ?_
  refine al_end ?_
  refine aq_then ?_
  refine ac_draw 12 (by kernel_rfl) (by kernel_rfl) ?_
  refine ah_take 0 (fun w9 hs => hs) rfl rfl rfl (by kernel_rfl) (by kernel_rfl) (by kernel_rfl) (fun _ _ _ h => h) rfl (q_move rfl) ?_
  refine ah_take 1 (fun w9 hs => hs) rfl rfl rfl (by kernel_rfl) (by kernel_rfl) (by kernel_rfl) (fun _ _ _ h => h) rfl (q_move rfl) ?_
  refine ah_take 2 (fun w9 hs => hs) rfl rfl rfl (by kernel_rfl) (by kernel_rfl) (by kernel_rfl) (fun _ _ _ h => h) rfl (q_nilCheckP rfl) ?_
  refine ah_take 3 (fun w9 hs => hs) rfl rfl rfl (by kernel_rfl) (by kernel_rfl) (by kernel_rfl) (fun _ _ _ h => h) rfl (q_fieldAddr 0 rfl Tryz.runUnderlying152 rfl Tryz.sizeOf29 (by decide) rfl) ?_
  refine ah_take 4 (fun w9 hs => hs) rfl rfl rfl (by kernel_rfl) (by kernel_rfl) (by kernel_rfl) (fun _ _ _ h => h) rfl (q_fieldAddr 3 rfl Tryz.runUnderlying29 rfl Tryz.sizeOf24 (by decide) rfl) ?_
  refine ah_take 5 (fun w9 hs => hs) rfl rfl rfl (by kernel_rfl) (by kernel_rfl) (by kernel_rfl) (fun _ _ _ h => h) rfl (q_load (i := 9) rfl rfl rfl Tryz.isAgg24) ?_
  refine ah_take 6 (fun w9 hs => hs) rfl rfl rfl (by kernel_rfl) (by kernel_rfl) (by kernel_rfl) (fun _ _ _ h => h) rfl (q_loadAll (i := 1) rfl rfl Tryz.isAgg40 Tryz.sizeOf40 rfl) ?_
  refine ah_one 7 rfl (by kernel_rfl) (fun hok4 hcl4 => ?_)
  refine al_new (fun b => .slice (some ⟨b, 0, none⟩) 1 1) (r_buildSlice (.cons rfl .nil) (par2_bs_apiPoint_1_0_ _ _)) rfl rfl rfl ?_
  intro b16
  refine al_end (ah_back hok4 hcl4 (fun w9 hs => (hs.tail 1 rfl)) ?_)
  refine ah_one 8 rfl (by kernel_rfl) (fun hok5 hcl5 => ?_)
  refine al_appendNil (j := 0) rfl rfl rfl Tryz.underlying24 (z := 2) (bytes := 16) (zv := (.agg #[.int .i64 0, .int .i64 0])) (by kernel_rfl) rfl rfl (by decide) (by decide) (by decide) rfl rfl ?_
  intro b17 c_b17 sp_b17 hc_b17 hk_b17 hl_b17
  refine al_end (ah_back hok5 hcl5 (fun w9 hs => (hs.tail 2 rfl)) ?_)
  refine ah_take 9 (fun w9 hs => (hs.tail 2 rfl)) rfl rfl rfl (by kernel_rfl) (by kernel_rfl) (by kernel_rfl) (fun _ _ _ h => h) rfl (q_nilCheckP rfl) ?_
  refine ah_take 10 (fun w9 hs => (hs.tail 2 rfl)) rfl rfl rfl (by kernel_rfl) (by kernel_rfl) (by kernel_rfl) (fun _ _ _ h => h) rfl (q_fieldAddr 0 rfl Tryz.runUnderlying152 rfl Tryz.sizeOf29 (by decide) rfl) ?_
  refine ah_take 11 (fun w9 hs => (hs.tail 2 rfl)) rfl rfl rfl (by kernel_rfl) (by kernel_rfl) (by kernel_rfl) (fun _ _ _ h => h) rfl (q_fieldAddr 3 rfl Tryz.runUnderlying29 rfl Tryz.sizeOf24 (by decide) rfl) ?_
  refine ah_one 12 rfl (by kernel_rfl) (fun hok6 hcl6 => ?_)
  refine al_store1 (i := 11) rfl rfl rfl rfl Tryz.sizeOf24 .k3 .k11 rfl ?_
  refine al_end (ah_last (by kernel_rfl) ?_)
  refine retIN Tryz.results143 .nil .zero ?_
  refine al_end ?_
  refine aq_then ?_
  refine aq_keepL [0, 2, 3, 4, 5, 6, 7, 8, 9, 11, 12, 13, 14, 15, 16, 17, 18, 19, 21, 22, 23, 24, 25, 26, 27, 28, 29, 30, 31, 32, 33, 34, 35, 36, 37, 38, 39, 41, 42, 44, 45, 46, 47, 49, 50, 51, 52, 53, 54, 55, 56] (.cons rfl (.cons rfl (.cons rfl (.cons rfl (.cons rfl (.cons rfl (.cons rfl (.cons rfl (.cons rfl (.cons rfl (.cons rfl (.cons rfl (.cons rfl (.cons rfl (.cons rfl (.cons rfl (.cons rfl (.cons rfl (.cons rfl (.cons rfl (.cons rfl (.cons rfl (.cons rfl (.cons rfl (.cons rfl (.cons rfl (.cons rfl (.cons rfl (.cons rfl (.cons rfl (.cons rfl (.cons rfl (.cons rfl (.cons rfl (.cons rfl (.cons rfl (.cons rfl (.cons rfl (.cons rfl (.cons rfl (.cons rfl (.cons rfl (.cons rfl (.cons rfl (.cons rfl (.cons rfl (.cons rfl (.cons rfl (.cons rfl (.cons rfl (.cons rfl .nil))))))))))))))))))))))))))))))))))))))))))))))))))) ?_
  refine aq_keepU ?_
  refine aq_keepB (.keep (.drop (.drop (.drop (.keep (.keep (.keep (.keep (.keep (.keep (.keep (.keep (.keep .nil))))))))))))) ?_
  refine ac_seq ?_
  refine ac_region ?_
  refine al_q (q_fieldAddr 12 rfl Tryz.runUnderlying152 rfl Tryz.sizeOf150 (by decide) rfl) rfl rfl rfl ?_
  refine al_q (q_load (i := 8) rfl rfl rfl Tryz.isAgg150) rfl rfl rfl ?_
  refine al_q (q_same (v' := .int .i64 0) (q_lenS rfl Tryz.runUnderlying150) rfl) rfl rfl rfl ?_
  refine al_q (q_same (v' := .bool true) (q_eql rfl rfl) rfl) rfl rfl rfl ?_
  refine al_inl Tryz.call126 (.cons rfl (.cons rfl .nil)) rfl rfl Tryz.func126 rfl rfl ?_
  refine ac_seq ?_
  refine ac_region ?_
  refine al_q (q_move rfl) rfl rfl rfl ?_
  refine al_q (q_not rfl) rfl rfl rfl ?_
  refine al_end ?_
  refine aq_then ?_
  refine ac_condF rfl ?_
  refine ac_skip ?_
  refine retIN Tryz.results126 .nil .zero ?_
  refine al_end ?_
  refine aq_then ?_
  refine ac_seq ?_
  refine ac_region ?_
  refine al_q (q_fieldAddr 0 rfl Tryz.runUnderlying161 rfl Tryz.sizeOf3 (by decide) rfl) rfl rfl rfl ?_
  refine al_q (q_load (i := 1) rfl rfl rfl Tryz.isAgg3) rfl rfl rfl ?_
  refine al_q (q_fieldAddr 11 rfl Tryz.runUnderlying152 rfl Tryz.sizeOf3 (by decide) rfl) rfl rfl rfl ?_
  refine al_store1 (i := 8) rfl rfl rfl rfl Tryz.sizeOf3 .k11 .k8 rfl ?_
  refine al_end ?_
  refine aq_then ?_
  refine ac_seq ?_
  refine ac_region ?_
  refine al_q (q_fieldAddr 10 rfl Tryz.runUnderlying152 rfl Tryz.sizeOf3 (by decide) rfl) rfl rfl rfl ?_
  refine al_q (q_load (i := 8) rfl rfl rfl Tryz.isAgg3) rfl rfl rfl ?_
  refine al_q (q_same (v' := .int .i64 3) (q_add rfl rfl (by omega)) rfl) rfl rfl rfl ?_
  refine al_q (q_fieldAddr 10 rfl Tryz.runUnderlying152 rfl Tryz.sizeOf3 (by decide) rfl) rfl rfl rfl ?_
  refine al_store1 (i := 8) rfl rfl rfl rfl Tryz.sizeOf3 .k10 .k8 rfl ?_
  refine al_end ?_
  refine aq_then ?_
  refine ac_region ?_
  refine al_q (q_move rfl) rfl rfl rfl ?_
  refine al_q (q_assign rfl) rfl rfl rfl ?_
  refine al_end ?_
  refine aq_inN ?_
  refine aq_then (aq_again ?_)
  refine ac_seq ?_
  refine ac_seq ?_
  refine ac_region ?_
  refine al_q (q_move rfl) rfl rfl rfl ?_
  refine al_q (q_same (v' := .bool true) (q_neqT rfl rfl) (by kernel_rfl)) rfl rfl rfl ?_
  refine al_end ?_
  refine aq_then ?_
  refine ac_condT rfl ?_
  refine ac_skip ?_
  refine aq_then ?_
  refine ac_block ?_
  refine ac_seq ?_
  refine ac_region ?_
  refine al_q (q_move rfl) rfl rfl rfl ?_
  refine al_call Tryz.call125 (.cons rfl (.cons rfl .nil)) rfl rfl (fun w25 hs25 => ?_)
  refine (cut_at _ _ ⟨#[103, 114, 105, 100, 32, 51, 32, 52, 32, 49, 32, 49, 32, 49]⟩ ⟨#[]⟩ true _ (hE.below hs25.below) (by decide) (by kernel_rfl)).mono ?_
  rintro e u25 ⟨rfl, hb_25⟩
  refine ⟨_, rfl, hb_25, ?_⟩
  clear hs25
  refine al_q (q_move rfl) rfl rfl rfl ?_
  refine al_q (q_extract rfl rfl) rfl rfl rfl ?_
  refine al_q (q_extract rfl rfl) rfl rfl rfl ?_
  refine al_q (q_extract rfl rfl) rfl rfl rfl ?_
  refine al_q (q_assign rfl) rfl rfl rfl ?_
  refine al_q (q_assign rfl) rfl rfl rfl ?_
  refine al_q (q_assign rfl) rfl rfl rfl ?_
  refine al_end ?_
  refine aq_then ?_
  refine ac_seq ?_
  refine ac_region ?_
  refine al_q (q_move rfl) rfl rfl rfl ?_
  refine al_inl Tryz.call126 (.cons rfl (.cons rfl .nil)) rfl rfl Tryz.func126 rfl rfl ?_
  refine ac_seq ?_
  refine ac_region ?_
  refine al_q (q_move rfl) rfl rfl rfl ?_
  refine al_q (q_not rfl) rfl rfl rfl ?_
  refine al_end ?_
  refine aq_then ?_
  refine ac_condF rfl ?_
  refine ac_skip ?_
  refine retIN Tryz.results126 .nil .zero ?_
  refine al_end ?_
  refine aq_then ?_
  refine ac_seq ?_
  refine ac_region ?_
  refine al_q (q_move rfl) rfl rfl rfl ?_
  refine al_callS Tryz.call127 (.cons rfl (.cons rfl .nil)) rfl rfl (fun w26 hs26 => ?_)
  refine (split_at _ _ [⟨#[103, 114, 105, 100]⟩, ⟨#[51]⟩, ⟨#[52]⟩, ⟨#[49]⟩, ⟨#[49]⟩, ⟨#[49]⟩] 6 _ (hE.below hs26.below) (by decide) (by decide) (by kernel_rfl) (by kernel_rfl)).mono ?_
  rintro e u26 ⟨rfl, hb_26, hx_26⟩
  refine ⟨_, _, _, rfl, hs26.adopt hb_26 (Nat.le_refl _) hx_26, ?_⟩
  generalize (World.heap w26).size = b18
  refine al_q (q_fieldAddr 12 rfl Tryz.runUnderlying152 rfl Tryz.sizeOf150 (by decide) rfl) rfl rfl rfl ?_
  refine al_store1 (i := 9) rfl rfl rfl rfl Tryz.sizeOf150 .k12 .k9 rfl ?_
  refine al_end ?_
  refine aq_then ?_
  refine ac_seq ?_
  refine ac_region ?_
  refine al_q (q_move rfl) rfl rfl rfl ?_
  refine al_inl Tryz.call128 (.cons rfl .nil) rfl rfl Tryz.func128 rfl rfl ?_
  refine ac_seq ?_
  refine ac_region ?_
  refine al_q (q_assign rfl) rfl rfl rfl ?_
  refine al_end ?_
  refine aq_then ?_
  refine ac_seq ?_
  refine ac_region ?_
  refine al_q (q_move rfl) rfl rfl rfl ?_
  refine al_q (q_move rfl) rfl rfl rfl ?_
  refine al_q (q_nilCheckP rfl) rfl rfl rfl ?_
  refine al_q (q_fieldAddr 12 rfl Tryz.runUnderlying152 rfl Tryz.sizeOf150 (by decide) rfl) rfl rfl rfl ?_
  refine al_q (q_load (i := 9) rfl rfl rfl Tryz.isAgg150) rfl rfl rfl ?_
  refine al_q (q_same (v' := .int .i64 6) (q_lenS rfl Tryz.runUnderlying150) rfl) rfl rfl rfl ?_
  refine al_q (q_same (v' := .bool true) (q_gtr rfl rfl) rfl) rfl rfl rfl ?_
  refine al_q (q_move rfl) rfl rfl rfl ?_
  refine al_q (q_move rfl) rfl rfl rfl ?_
  refine al_q (q_nilCheckP rfl) rfl rfl rfl ?_
  refine al_q (q_fieldAddr 12 rfl Tryz.runUnderlying152 rfl Tryz.sizeOf150 (by decide) rfl) rfl rfl rfl ?_
  refine al_q (q_load (i := 9) rfl rfl rfl Tryz.isAgg150) rfl rfl rfl ?_
  refine al_q (q_indexAddr (i := 0) 0 rfl rfl rfl (by decide) Tryz.runUnderlying150 Tryz.sizeOf9 rfl) rfl rfl rfl ?_
  refine al_q (q_load (i := 0) rfl rfl rfl Tryz.isAgg9) rfl rfl rfl ?_
  refine al_q (q_same (v' := .bool true) (q_neqT rfl rfl) (by kernel_rfl)) rfl rfl rfl ?_
  refine al_q (q_pickT rfl rfl) rfl rfl rfl ?_
  refine al_inl Tryz.call126 (.cons rfl (.cons rfl .nil)) rfl rfl Tryz.func126 rfl rfl ?_
  refine ac_seq ?_
  refine ac_region ?_
  refine al_q (q_move rfl) rfl rfl rfl ?_
  refine al_q (q_not rfl) rfl rfl rfl ?_
  refine al_end ?_
  refine aq_then ?_
  refine ac_condF rfl ?_
  refine ac_skip ?_
  refine retIN Tryz.results126 .nil .zero ?_
  refine al_end ?_
  refine aq_then ?_
  refine ac_seq ?_
  refine ac_region ?_
  refine al_q (q_move rfl) rfl rfl rfl ?_
  refine al_q (q_nilCheckP rfl) rfl rfl rfl ?_
  refine al_q (q_fieldAddr 12 rfl Tryz.runUnderlying152 rfl Tryz.sizeOf150 (by decide) rfl) rfl rfl rfl ?_
  refine al_q (q_load (i := 9) rfl rfl rfl Tryz.isAgg150) rfl rfl rfl ?_
  refine al_q (q_indexAddr (i := 0) 0 rfl rfl rfl (by decide) Tryz.runUnderlying150 Tryz.sizeOf9 rfl) rfl rfl rfl ?_
  refine al_q (q_load (i := 0) rfl rfl rfl Tryz.isAgg9) rfl rfl rfl ?_
  refine al_q (q_assign rfl) rfl rfl rfl ?_
  refine al_end ?_
  refine aq_then ?_
  refine ac_seq ?_
  refine ac_region ?_
  refine al_q (q_move rfl) rfl rfl rfl ?_
  refine al_q (q_move rfl) rfl rfl rfl ?_
  refine al_q (q_nilCheckP rfl) rfl rfl rfl ?_
  refine al_q (q_fieldAddr 12 rfl Tryz.runUnderlying152 rfl Tryz.sizeOf150 (by decide) rfl) rfl rfl rfl ?_
  refine al_q (q_load (i := 9) rfl rfl rfl Tryz.isAgg150) rfl rfl rfl ?_
  refine al_q (q_same (v' := .slice (some ⟨b18, 1, none⟩) 5 5) (q_fromS (lo := 1) rfl rfl rfl (by decide) (by decide) Tryz.underlying150 Tryz.sizeOf9 rfl) rfl) rfl rfl rfl ?_
  refine al_q (q_nilCheckP rfl) rfl rfl rfl ?_
  refine al_q (q_fieldAddr 12 rfl Tryz.runUnderlying152 rfl Tryz.sizeOf150 (by decide) rfl) rfl rfl rfl ?_
  refine al_store1 (i := 9) rfl rfl rfl rfl Tryz.sizeOf150 .k12 .k9 rfl ?_
  refine al_end ?_
  refine aq_then ?_
  refine aq_keepL [2, 3] (.cons rfl (.cons rfl .nil)) ?_
  refine aq_keepU ?_
  refine aq_keepB (.keep (.keep (.keep (.keep (.keep (.drop (.keep (.keep (.keep (.keep (.keep .nil))))))))))) ?_
  refine ac_seq ?_
  refine ac_region ?_
  refine al_q (q_move rfl) rfl rfl rfl ?_
  refine al_q (q_assign rfl) rfl rfl rfl ?_
  refine al_end ?_
  refine aq_then ?_
  refine ac_ret ?_
  refine retI Tryz.results128 (.tmp rfl .nil) .one ?_
  refine al_q (q_lookup2 (i := 7) (j := 4) (v := (.agg #[(.int .i64 5), (.int .i64 1), (.int .i64 4), (.func (.func 144) #[] #[])])) rfl rfl rfl Tryz.underlying153 Tryz.underlying9 rfl rfl (by kernel_rfl)) rfl rfl rfl ?_
  refine al_q (q_move rfl) rfl rfl rfl ?_
  refine al_q (q_extract rfl rfl) rfl rfl rfl ?_
  refine al_q (q_extract rfl rfl) rfl rfl rfl ?_
  refine al_new (fun b => .pointer (some ⟨b, 0, none⟩)) (r_alloc Tryz.zeroValue161 rfl) rfl rfl rfl ?_
  intro b19
  refine al_storeAll (i := 0) rfl rfl rfl rfl Tryz.sizeOf161 rfl rfl .k0 rfl ?_
  refine al_q (q_assign rfl) rfl rfl rfl ?_
  refine al_end ?_
  refine aq_then ?_
  refine ac_seq ?_
  refine ac_region ?_
  refine al_q (q_move rfl) rfl rfl rfl ?_
  refine al_q (q_move rfl) rfl rfl rfl ?_
  refine al_q (q_fieldAddr 11 rfl Tryz.runUnderlying152 rfl Tryz.sizeOf3 (by decide) rfl) rfl rfl rfl ?_
  refine al_q (q_load (i := 9) rfl rfl rfl Tryz.isAgg3) rfl rfl rfl ?_
  refine al_q (q_fieldAddr 1 rfl Tryz.runUnderlying161 rfl Tryz.sizeOf3 (by decide) rfl) rfl rfl rfl ?_
  refine al_q (q_load (i := 0) rfl rfl rfl Tryz.isAgg3) rfl rfl rfl ?_
  refine al_q (q_fieldAddr 2 rfl Tryz.runUnderlying161 rfl Tryz.sizeOf3 (by decide) rfl) rfl rfl rfl ?_
  refine al_q (q_load (i := 0) rfl rfl rfl Tryz.isAgg3) rfl rfl rfl ?_
  refine al_inl Tryz.call74 (.cons rfl (.cons rfl (.cons rfl .nil))) rfl rfl Tryz.func74 rfl rfl ?_
  refine ac_seq ?_
  refine ac_region ?_
  refine al_q (q_assign rfl) rfl rfl rfl ?_
  refine al_end ?_
  refine aq_then ?_
  refine ac_seq ?_
  refine ac_region ?_
  refine al_q (q_move rfl) rfl rfl rfl ?_
  refine al_q (q_move rfl) rfl rfl rfl ?_
  refine al_q (q_same (v' := .bool true) (q_leq rfl rfl) rfl) rfl rfl rfl ?_
  refine al_q (q_move rfl) rfl rfl rfl ?_
  refine al_q (q_move rfl) rfl rfl rfl ?_
  refine al_q (q_move rfl) rfl rfl rfl ?_
  refine al_q (q_same (v' := .bool true) (q_leq rfl rfl) rfl) rfl rfl rfl ?_
  refine al_q (q_pickT rfl rfl) rfl rfl rfl ?_
  refine al_q (q_assign rfl) rfl rfl rfl ?_
  refine al_end ?_
  refine aq_then ?_
  refine ac_ret ?_
  refine retI Tryz.results74 (.tmp rfl .nil) .one ?_
  refine al_q (q_pickT rfl rfl) rfl rfl rfl ?_
  refine al_inl Tryz.call126 (.cons rfl (.cons rfl .nil)) rfl rfl Tryz.func126 rfl rfl ?_
  refine ac_seq ?_
  refine ac_region ?_
  refine al_q (q_move rfl) rfl rfl rfl ?_
  refine al_q (q_not rfl) rfl rfl rfl ?_
  refine al_end ?_
  refine aq_then ?_
  refine ac_condF rfl ?_
  refine ac_skip ?_
  refine retIN Tryz.results126 .nil .zero ?_
  refine al_end ?_
  refine aq_then ?_
  refine ac_seq ?_
  refine ac_region ?_
  refine al_q (q_fieldAddr 3 rfl Tryz.runUnderlying161 rfl Tryz.sizeOf159 (by decide) rfl) rfl rfl rfl ?_
  refine al_q (q_load (i := 0) rfl rfl rfl Tryz.isAgg159) rfl rfl rfl ?_
  refine al_inlV (fi := []) (ca := []) rfl Tryz.call144 (.cons rfl .nil) rfl rfl Tryz.func144 rfl rfl ?_
  refine ac_seq ?_
  refine ac_region ?_
  refine al_q (q_move rfl) rfl rfl rfl ?_
  refine al_q (q_nilCheckP rfl) rfl rfl rfl ?_
  refine al_q (q_fieldAddr 0 rfl Tryz.runUnderlying152 rfl Tryz.sizeOf29 (by decide) rfl) rfl rfl rfl ?_
  refine al_q (q_fieldAddr 4 rfl Tryz.runUnderlying29 rfl Tryz.sizeOf26 (by decide) rfl) rfl rfl rfl ?_
  refine al_q (q_assign rfl) rfl rfl rfl ?_
  refine al_end ?_
  refine aq_then ?_
  refine ac_draw 17 (by kernel_rfl) (by kernel_rfl) ?_
  refine ah_take 0 (fun w9 hs => hs) rfl rfl rfl (by kernel_rfl) (by kernel_rfl) (by kernel_rfl) (fun _ _ _ h => h) rfl (q_move rfl) ?_
  refine ah_take 1 (fun w9 hs => hs) rfl rfl rfl (by kernel_rfl) (by kernel_rfl) (by kernel_rfl) (fun _ _ _ h => h) rfl (q_move rfl) ?_
  refine ah_take 2 (fun w9 hs => hs) rfl rfl rfl (by kernel_rfl) (by kernel_rfl) (by kernel_rfl) (fun _ _ _ h => h) rfl (q_nilCheckP rfl) ?_
  refine ah_take 3 (fun w9 hs => hs) rfl rfl rfl (by kernel_rfl) (by kernel_rfl) (by kernel_rfl) (fun _ _ _ h => h) rfl (q_fieldAddr 4 rfl Tryz.runUnderlying26 rfl Tryz.sizeOf3 (by decide) rfl) ?_
  refine ah_take 4 (fun w9 hs => hs) rfl rfl rfl (by kernel_rfl) (by kernel_rfl) (by kernel_rfl) (fun _ _ _ h => h) rfl (q_move rfl) ?_
  refine ah_take 5 (fun w9 hs => hs) rfl rfl rfl (by kernel_rfl) (by kernel_rfl) (by kernel_rfl) (fun _ _ _ h => h) rfl (q_nilCheckP rfl) ?_
  refine ah_take 6 (fun w9 hs => hs) rfl rfl rfl (by kernel_rfl) (by kernel_rfl) (by kernel_rfl) (fun _ _ _ h => h) rfl (q_fieldAddr 5 rfl Tryz.runUnderlying26 rfl Tryz.sizeOf3 (by decide) rfl) ?_
  refine ah_take 7 (fun w9 hs => hs) rfl rfl rfl (by kernel_rfl) (by kernel_rfl) (by kernel_rfl) (fun _ _ _ h => h) rfl (q_move rfl) ?_
  refine ah_take 8 (fun w9 hs => hs) rfl rfl rfl (by kernel_rfl) (by kernel_rfl) (by kernel_rfl) (fun _ _ _ h => h) rfl (q_nilCheckP rfl) ?_
  refine ah_take 9 (fun w9 hs => hs) rfl rfl rfl (by kernel_rfl) (by kernel_rfl) (by kernel_rfl) (fun _ _ _ h => h) rfl (q_fieldAddr 6 rfl Tryz.runUnderlying26 rfl Tryz.sizeOf3 (by decide) rfl) ?_
  refine ah_take 10 (fun w9 hs => hs) rfl rfl rfl (by kernel_rfl) (by kernel_rfl) (by kernel_rfl) (fun _ _ _ h => h) rfl (q_move rfl) ?_
  refine ah_take 11 (fun w9 hs => hs) rfl rfl rfl (by kernel_rfl) (by kernel_rfl) (by kernel_rfl) (fun _ _ _ h => h) rfl (q_nilCheckP rfl) ?_
  refine ah_take 12 (fun w9 hs => hs) rfl rfl rfl (by kernel_rfl) (by kernel_rfl) (by kernel_rfl) (fun _ _ _ h => h) rfl (q_fieldAddr 7 rfl Tryz.runUnderlying26 rfl Tryz.sizeOf3 (by decide) rfl) ?_
  refine ah_take 13 (fun w9 hs => hs) rfl rfl rfl (by kernel_rfl) (by kernel_rfl) (by kernel_rfl) (fun _ _ _ h => h) rfl (q_move rfl) ?_
  refine ah_take 14 (fun w9 hs => hs) rfl rfl rfl (by kernel_rfl) (by kernel_rfl) (by kernel_rfl) (fun _ _ _ h => h) rfl (q_nilCheckP rfl) ?_
  refine ah_take 15 (fun w9 hs => hs) rfl rfl rfl (by kernel_rfl) (by kernel_rfl) (by kernel_rfl) (fun _ _ _ h => h) rfl (q_fieldAddr 8 rfl Tryz.runUnderlying26 rfl Tryz.sizeOf3 (by decide) rfl) ?_
  refine ah_one 16 rfl (by kernel_rfl) (fun hok7 hcl7 => ?_)
  refine al_new (fun b => .slice (some ⟨b, 0, none⟩) 5 5) (r_buildSlice (.cons rfl (.cons rfl (.cons rfl (.cons rfl (.cons rfl .nil))))) (par2_bs_int_5_0_1_2_3_4 _ _ _ _ _ rfl rfl rfl rfl rfl)) rfl rfl rfl ?_
  intro b20
  refine al_end (ah_back hok7 hcl7 (fun w9 hs => (hs.tail 1 rfl)) ?_)
  refine ah_one 17 rfl (by kernel_rfl) (fun hok8 hcl8 => ?_)
  refine al_inl Tryz.call148 (.cons rfl (.cons rfl .nil)) rfl rfl Tryz.func148 rfl rfl ?_
  refine ac_seq ?_
  refine ac_region ?_
  refine al_q (q_move rfl) rfl rfl rfl ?_
  refine al_q (q_same (v' := .int .i64 5) (q_lenS rfl Tryz.runUnderlying180) rfl) rfl rfl rfl ?_
  refine al_q (q_move rfl) rfl rfl rfl ?_
  refine al_end ?_
  refine aq_then ?_
  refine ac_block ?_
  refine ac_loop1 ?_
  refine ac_seq ?_
  refine ac_region ?_
  refine al_q (q_same (v' := .bool true) (q_lss rfl rfl) rfl) rfl rfl rfl ?_
  refine al_end ?_
  refine aq_then ?_
  refine ac_seq ?_
  refine ac_condT rfl ?_
  refine ac_skip ?_
  refine aq_then ?_
  refine ac_seq ?_
  refine ac_block ?_
  refine ac_seq ?_
  refine ac_region ?_
  refine al_q (q_indexAddr (i := 0) 0 rfl rfl rfl (by decide) Tryz.runUnderlying180 Tryz.sizeOf137 rfl) rfl rfl rfl ?_
  refine al_q (q_load (i := 0) rfl rfl rfl Tryz.isAgg137) rfl rfl rfl ?_
  refine al_q (q_assign rfl) rfl rfl rfl ?_
  refine al_end ?_
  refine aq_then ?_
  refine ac_seq ?_
  refine ac_region ?_
  refine al_q (q_move rfl) rfl rfl rfl ?_
  refine al_inl Tryz.call128 (.cons rfl .nil) rfl rfl Tryz.func128 rfl rfl ?_
  refine ac_seq ?_
  refine ac_region ?_
  refine al_q (q_assign rfl) rfl rfl rfl ?_
  refine al_end ?_
  refine aq_then ?_
  refine aq_keepL [0, 2] (.cons rfl (.cons rfl .nil)) ?_
  refine ac_seq ?_
  refine ac_region ?_
  refine al_q (q_move rfl) rfl rfl rfl ?_
  refine al_q (q_move rfl) rfl rfl rfl ?_
  refine al_q (q_nilCheckP rfl) rfl rfl rfl ?_
  refine al_q (q_fieldAddr 12 rfl Tryz.runUnderlying152 rfl Tryz.sizeOf150 (by decide) rfl) rfl rfl rfl ?_
  refine al_q (q_load (i := 10) rfl rfl rfl Tryz.isAgg150) rfl rfl rfl ?_
  refine al_q (q_same (v' := .int .i64 5) (q_lenS rfl Tryz.runUnderlying150) rfl) rfl rfl rfl ?_
  refine al_q (q_same (v' := .bool true) (q_gtr rfl rfl) rfl) rfl rfl rfl ?_
  refine al_q (q_move rfl) rfl rfl rfl ?_
  refine al_q (q_move rfl) rfl rfl rfl ?_
  refine al_q (q_nilCheckP rfl) rfl rfl rfl ?_
  refine al_q (q_fieldAddr 12 rfl Tryz.runUnderlying152 rfl Tryz.sizeOf150 (by decide) rfl) rfl rfl rfl ?_
  refine al_q (q_load (i := 10) rfl rfl rfl Tryz.isAgg150) rfl rfl rfl ?_
  refine al_q (q_indexAddr (i := 0) 1 rfl rfl rfl (by decide) Tryz.runUnderlying150 Tryz.sizeOf9 rfl) rfl rfl rfl ?_
  refine al_q (q_load (i := 2) rfl rfl rfl Tryz.isAgg9) rfl rfl rfl ?_
  refine al_q (q_same (v' := .bool true) (q_neqT rfl rfl) (by kernel_rfl)) rfl rfl rfl ?_
  refine al_q (q_pickT rfl rfl) rfl rfl rfl ?_
  refine al_inl Tryz.call126 (.cons rfl (.cons rfl .nil)) rfl rfl Tryz.func126 rfl rfl ?_
  refine ac_seq ?_
  refine ac_region ?_
  refine al_q (q_move rfl) rfl rfl rfl ?_
  refine al_q (q_not rfl) rfl rfl rfl ?_
  refine al_end ?_
  refine aq_then ?_
  refine ac_condF rfl ?_
  refine ac_skip ?_
  refine retIN Tryz.results126 .nil .zero ?_
  refine al_end ?_
  refine aq_then ?_
  refine ac_seq ?_
  refine ac_region ?_
  refine al_q (q_move rfl) rfl rfl rfl ?_
  refine al_q (q_nilCheckP rfl) rfl rfl rfl ?_
  refine al_q (q_fieldAddr 12 rfl Tryz.runUnderlying152 rfl Tryz.sizeOf150 (by decide) rfl) rfl rfl rfl ?_
  refine al_q (q_load (i := 10) rfl rfl rfl Tryz.isAgg150) rfl rfl rfl ?_
  refine al_q (q_indexAddr (i := 0) 1 rfl rfl rfl (by decide) Tryz.runUnderlying150 Tryz.sizeOf9 rfl) rfl rfl rfl ?_
  refine al_q (q_load (i := 2) rfl rfl rfl Tryz.isAgg9) rfl rfl rfl ?_
  refine al_q (q_assign rfl) rfl rfl rfl ?_
  refine al_end ?_
  refine aq_then ?_
  refine ac_seq ?_
  refine ac_region ?_
  refine al_q (q_move rfl) rfl rfl rfl ?_
  refine al_q (q_move rfl) rfl rfl rfl ?_
  refine al_q (q_nilCheckP rfl) rfl rfl rfl ?_
  refine al_q (q_fieldAddr 12 rfl Tryz.runUnderlying152 rfl Tryz.sizeOf150 (by decide) rfl) rfl rfl rfl ?_
  refine al_q (q_load (i := 10) rfl rfl rfl Tryz.isAgg150) rfl rfl rfl ?_
  refine al_q (q_same (v' := .slice (some ⟨b18, 2, none⟩) 4 4) (q_fromS (lo := 1) rfl rfl rfl (by decide) (by decide) Tryz.underlying150 Tryz.sizeOf9 rfl) rfl) rfl rfl rfl ?_
  refine al_q (q_nilCheckP rfl) rfl rfl rfl ?_
  refine al_q (q_fieldAddr 12 rfl Tryz.runUnderlying152 rfl Tryz.sizeOf150 (by decide) rfl) rfl rfl rfl ?_
  refine al_store1 (i := 10) rfl rfl rfl rfl Tryz.sizeOf150 .k12 .k10 rfl ?_
  refine al_end ?_
  refine aq_then ?_
  refine ac_seq ?_
  refine ac_region ?_
  refine al_q (q_move rfl) rfl rfl rfl ?_
  refine al_q (q_assign rfl) rfl rfl rfl ?_
  refine al_end ?_
  refine aq_then ?_
  refine ac_ret ?_
  refine retI Tryz.results128 (.tmp rfl .nil) .one ?_
  refine al_q (q_assign rfl) rfl rfl rfl ?_
  refine al_end ?_
  refine aq_then ?_
  refine ac_seq ?_
  refine ac_region ?_
  refine al_q (q_move rfl) rfl rfl rfl ?_
  refine al_call Tryz.call154 (.cons rfl .nil) rfl rfl (fun w27 hs27 => ?_)
  refine (atoi_at _ 3 _ (by decide) (by kernel_rfl)).mono ?_
  rintro e u27 ⟨rfl, hb_27⟩
  refine ⟨_, rfl, hb_27, ?_⟩
  clear hs27
  refine al_q (q_move rfl) rfl rfl rfl ?_
  refine al_q (q_extract rfl rfl) rfl rfl rfl ?_
  refine al_q (q_extract rfl rfl) rfl rfl rfl ?_
  refine al_q (q_assign rfl) rfl rfl rfl ?_
  refine al_q (q_assign rfl) rfl rfl rfl ?_
  refine al_end ?_
  refine aq_then ?_
  refine ac_seq ?_
  refine ac_region ?_
  refine al_q (q_move rfl) rfl rfl rfl ?_
  refine al_q (q_move rfl) rfl rfl rfl ?_
  refine al_q (q_eqlNilI rfl Tryz.underlying182) rfl rfl rfl ?_
  refine al_q (q_move rfl) rfl rfl rfl ?_
  refine al_q (q_move rfl) rfl rfl rfl ?_
  refine al_call Tryz.call155 (.cons rfl .nil) rfl rfl (fun w28 hs28 => ?_)
  refine (itoa_at _ ⟨#[51]⟩ _ (hE.below hs28.below) (by decide) (by decide) (by kernel_rfl)).mono ?_
  rintro e u28 ⟨rfl, hb_28⟩
  refine ⟨_, rfl, hb_28, ?_⟩
  clear hs28
  refine al_q (q_move rfl) rfl rfl rfl ?_
  refine al_q (q_same (v' := .bool true) (q_eqlT rfl rfl) (by kernel_rfl)) rfl rfl rfl ?_
  refine al_q (q_pickT rfl rfl) rfl rfl rfl ?_
  refine al_q (q_move rfl) rfl rfl rfl ?_
  refine al_q (q_move rfl) rfl rfl rfl ?_
  refine al_inl Tryz.call74 (.cons rfl (.cons rfl (.cons rfl .nil))) rfl rfl Tryz.func74 rfl rfl ?_
  refine ac_seq ?_
  refine ac_region ?_
  refine al_q (q_assign rfl) rfl rfl rfl ?_
  refine al_end ?_
  refine aq_then ?_
  refine ac_seq ?_
  refine ac_region ?_
  refine al_q (q_move rfl) rfl rfl rfl ?_
  refine al_q (q_move rfl) rfl rfl rfl ?_
  refine al_q (q_same (v' := .bool true) (q_leq rfl rfl) rfl) rfl rfl rfl ?_
  refine al_q (q_move rfl) rfl rfl rfl ?_
  refine al_q (q_move rfl) rfl rfl rfl ?_
  refine al_q (q_move rfl) rfl rfl rfl ?_
  refine al_q (q_same (v' := .bool true) (q_leq rfl rfl) rfl) rfl rfl rfl ?_
  refine al_q (q_pickT rfl rfl) rfl rfl rfl ?_
  refine al_q (q_assign rfl) rfl rfl rfl ?_
  refine al_end ?_
  refine aq_then ?_
  refine aq_keepL [6] (.cons rfl .nil) ?_
  refine aq_keepU ?_
  refine ac_ret ?_
  refine retI Tryz.results74 (.tmp rfl .nil) .one ?_
  refine al_q (q_pickT rfl rfl) rfl rfl rfl ?_
  refine al_inl Tryz.call126 (.cons rfl (.cons rfl .nil)) rfl rfl Tryz.func126 rfl rfl ?_
  refine ac_seq ?_
  refine ac_region ?_
  refine al_q (q_move rfl) rfl rfl rfl ?_
  refine al_q (q_not rfl) rfl rfl rfl ?_
  refine al_end ?_
  refine aq_then ?_
  refine ac_condF rfl ?_
  refine ac_skip ?_
  refine retIN Tryz.results126 .nil .zero ?_
  refine al_end ?_
  refine aq_then ?_
  refine ac_region ?_
  refine al_q (q_move rfl) rfl rfl rfl ?_
  refine al_q (q_move rfl) rfl rfl rfl ?_
  refine al_q (q_nilCheckP rfl) rfl rfl rfl ?_
  refine al_store1 (i := 10) rfl rfl rfl rfl Tryz.sizeOf3 .k4 .k10 rfl ?_
  refine al_end ?_
  refine aq_inN ?_
  refine aq_then ?_
  refine ac_region ?_
  refine al_q (q_same (v' := .int .i64 1) (q_add rfl rfl (by omega)) rfl) rfl rfl rfl ?_
  refine al_q (q_move rfl) rfl rfl rfl ?_
  refine al_end ?_
  refine aq_then (aq_again ?_)
  refine ac_seq ?_
  refine ac_region ?_
  refine al_q (q_same (v' := .bool true) (q_lss rfl rfl) rfl) rfl rfl rfl ?_
  refine al_end ?_
  refine aq_then ?_
  refine ac_seq ?_
  refine ac_condT rfl ?_
  refine ac_skip ?_
  refine aq_then ?_
  refine ac_seq ?_
  refine ac_block ?_
  refine ac_seq ?_
  refine ac_region ?_
  refine al_q (q_indexAddr (i := 1) 1 rfl rfl rfl (by decide) Tryz.runUnderlying180 Tryz.sizeOf137 rfl) rfl rfl rfl ?_
  refine al_q (q_load (i := 0) rfl rfl rfl Tryz.isAgg137) rfl rfl rfl ?_
  refine al_q (q_assign rfl) rfl rfl rfl ?_
  refine al_end ?_
  refine aq_then ?_
  refine ac_seq ?_
  refine ac_region ?_
  refine al_q (q_move rfl) rfl rfl rfl ?_
  refine al_inl Tryz.call128 (.cons rfl .nil) rfl rfl Tryz.func128 rfl rfl ?_
  refine ac_seq ?_
  refine ac_region ?_
  refine al_q (q_assign rfl) rfl rfl rfl ?_
  refine al_end ?_
  refine aq_then ?_
  refine ac_seq ?_
  refine ac_region ?_
  refine al_q (q_move rfl) rfl rfl rfl ?_
  refine al_q (q_move rfl) rfl rfl rfl ?_
  refine al_q (q_nilCheckP rfl) rfl rfl rfl ?_
  refine al_q (q_fieldAddr 12 rfl Tryz.runUnderlying152 rfl Tryz.sizeOf150 (by decide) rfl) rfl rfl rfl ?_
  refine al_q (q_load (i := 10) rfl rfl rfl Tryz.isAgg150) rfl rfl rfl ?_
  refine al_q (q_same (v' := .int .i64 4) (q_lenS rfl Tryz.runUnderlying150) rfl) rfl rfl rfl ?_
  refine al_q (q_same (v' := .bool true) (q_gtr rfl rfl) rfl) rfl rfl rfl ?_
  refine al_q (q_move rfl) rfl rfl rfl ?_
  refine al_q (q_move rfl) rfl rfl rfl ?_
  refine al_q (q_nilCheckP rfl) rfl rfl rfl ?_
  refine al_q (q_fieldAddr 12 rfl Tryz.runUnderlying152 rfl Tryz.sizeOf150 (by decide) rfl) rfl rfl rfl ?_
  refine al_q (q_load (i := 10) rfl rfl rfl Tryz.isAgg150) rfl rfl rfl ?_
  refine al_q (q_indexAddr (i := 0) 2 rfl rfl rfl (by decide) Tryz.runUnderlying150 Tryz.sizeOf9 rfl) rfl rfl rfl ?_
  refine al_q (q_load (i := 2) rfl rfl rfl Tryz.isAgg9) rfl rfl rfl ?_
  refine al_q (q_same (v' := .bool true) (q_neqT rfl rfl) (by kernel_rfl)) rfl rfl rfl ?_
  refine al_q (q_pickT rfl rfl) rfl rfl rfl ?_
  refine al_inl Tryz.call126 (.cons rfl (.cons rfl .nil)) rfl rfl Tryz.func126 rfl rfl ?_
  refine ac_seq ?_
  refine ac_region ?_
  refine al_q (q_move rfl) rfl rfl rfl ?_
  refine al_q (q_not rfl) rfl rfl rfl ?_
  refine al_end ?_
  refine aq_then ?_
  refine ac_condF rfl ?_
  refine ac_skip ?_
  refine retIN Tryz.results126 .nil .zero ?_
  refine al_end ?_
  refine aq_then ?_
  refine ac_seq ?_
  refine ac_region ?_
  refine al_q (q_move rfl) rfl rfl rfl ?_
  refine al_q (q_nilCheckP rfl) rfl rfl rfl ?_
  refine al_q (q_fieldAddr 12 rfl Tryz.runUnderlying152 rfl Tryz.sizeOf150 (by decide) rfl) rfl rfl rfl ?_
  refine al_q (q_load (i := 10) rfl rfl rfl Tryz.isAgg150) rfl rfl rfl ?_
  refine al_q (q_indexAddr (i := 0) 2 rfl rfl rfl (by decide) Tryz.runUnderlying150 Tryz.sizeOf9 rfl) rfl rfl rfl ?_
  refine al_q (q_load (i := 2) rfl rfl rfl Tryz.isAgg9) rfl rfl rfl ?_
  refine al_q (q_assign rfl) rfl rfl rfl ?_
  refine al_end ?_
  refine aq_then ?_
  refine ac_seq ?_
  refine ac_region ?_
  refine al_q (q_move rfl) rfl rfl rfl ?_
  refine al_q (q_move rfl) rfl rfl rfl ?_
  refine al_q (q_nilCheckP rfl) rfl rfl rfl ?_
  refine al_q (q_fieldAddr 12 rfl Tryz.runUnderlying152 rfl Tryz.sizeOf150 (by decide) rfl) rfl rfl rfl ?_
  refine al_q (q_load (i := 10) rfl rfl rfl Tryz.isAgg150) rfl rfl rfl ?_
  refine al_q (q_same (v' := .slice (some ⟨b18, 3, none⟩) 3 3) (q_fromS (lo := 1) rfl rfl rfl (by decide) (by decide) Tryz.underlying150 Tryz.sizeOf9 rfl) rfl) rfl rfl rfl ?_
  refine al_q (q_nilCheckP rfl) rfl rfl rfl ?_
  refine al_q (q_fieldAddr 12 rfl Tryz.runUnderlying152 rfl Tryz.sizeOf150 (by decide) rfl) rfl rfl rfl ?_
  refine al_store1 (i := 10) rfl rfl rfl rfl Tryz.sizeOf150 .k12 .k10 rfl ?_
  refine al_end ?_
  refine aq_then ?_
  refine ac_seq ?_
  refine ac_region ?_
  refine al_q (q_move rfl) rfl rfl rfl ?_
  refine al_q (q_assign rfl) rfl rfl rfl ?_
  refine al_end ?_
  refine aq_then ?_
  refine ac_ret ?_
  refine retI Tryz.results128 (.tmp rfl .nil) .one ?_
  refine al_q (q_assign rfl) rfl rfl rfl ?_
  refine al_end ?_
  refine aq_then ?_
  refine ac_seq ?_
  refine ac_region ?_
  refine al_q (q_move rfl) rfl rfl rfl ?_
  refine al_call Tryz.call154 (.cons rfl .nil) rfl rfl (fun w29 hs29 => ?_)
  refine (atoi_at _ 4 _ (by decide) (by kernel_rfl)).mono ?_
  rintro e u29 ⟨rfl, hb_29⟩
  refine ⟨_, rfl, hb_29, ?_⟩
  clear hs29
  refine al_q (q_move rfl) rfl rfl rfl ?_
  refine al_q (q_extract rfl rfl) rfl rfl rfl ?_
  refine al_q (q_extract rfl rfl) rfl rfl rfl ?_
  refine al_q (q_assign rfl) rfl rfl rfl ?_
  refine al_q (q_assign rfl) rfl rfl rfl ?_
  refine al_end ?_
  refine aq_then ?_
  refine ac_seq ?_
  refine ac_region ?_
  refine al_q (q_move rfl) rfl rfl rfl ?_
  refine al_q (q_move rfl) rfl rfl rfl ?_
  refine al_q (q_eqlNilI rfl Tryz.underlying182) rfl rfl rfl ?_
  refine al_q (q_move rfl) rfl rfl rfl ?_
  refine al_q (q_move rfl) rfl rfl rfl ?_
  refine al_call Tryz.call155 (.cons rfl .nil) rfl rfl (fun w30 hs30 => ?_)
  refine (itoa_at _ ⟨#[52]⟩ _ (hE.below hs30.below) (by decide) (by decide) (by kernel_rfl)).mono ?_
  rintro e u30 ⟨rfl, hb_30⟩
  refine ⟨_, rfl, hb_30, ?_⟩
  clear hs30
  refine al_q (q_move rfl) rfl rfl rfl ?_
  refine al_q (q_same (v' := .bool true) (q_eqlT rfl rfl) (by kernel_rfl)) rfl rfl rfl ?_
  refine al_q (q_pickT rfl rfl) rfl rfl rfl ?_
  refine al_q (q_move rfl) rfl rfl rfl ?_
  refine al_q (q_move rfl) rfl rfl rfl ?_
  refine al_inl Tryz.call74 (.cons rfl (.cons rfl (.cons rfl .nil))) rfl rfl Tryz.func74 rfl rfl ?_
  refine ac_seq ?_
  refine ac_region ?_
  refine al_q (q_assign rfl) rfl rfl rfl ?_
  refine al_end ?_
  refine aq_then ?_
  refine aq_keepL [0, 1, 2, 6] (.cons rfl (.cons rfl (.cons rfl (.cons rfl .nil)))) ?_
  refine aq_keepU ?_
  refine ac_seq ?_
  refine ac_region ?_
  refine al_q (q_move rfl) rfl rfl rfl ?_
  refine al_q (q_move rfl) rfl rfl rfl ?_
  refine al_q (q_same (v' := .bool true) (q_leq rfl rfl) rfl) rfl rfl rfl ?_
  refine al_q (q_move rfl) rfl rfl rfl ?_
  refine al_q (q_move rfl) rfl rfl rfl ?_
  refine al_q (q_move rfl) rfl rfl rfl ?_
  refine al_q (q_same (v' := .bool true) (q_leq rfl rfl) rfl) rfl rfl rfl ?_
  refine al_q (q_pickT rfl rfl) rfl rfl rfl ?_
  refine al_q (q_assign rfl) rfl rfl rfl ?_
  refine al_end ?_
  refine aq_then ?_
  refine ac_ret ?_
  refine retI Tryz.results74 (.tmp rfl .nil) .one ?_
  refine al_q (q_pickT rfl rfl) rfl rfl rfl ?_
  refine al_inl Tryz.call126 (.cons rfl (.cons rfl .nil)) rfl rfl Tryz.func126 rfl rfl ?_
  refine ac_seq ?_
  refine ac_region ?_
  refine al_q (q_move rfl) rfl rfl rfl ?_
  refine al_q (q_not rfl) rfl rfl rfl ?_
  refine al_end ?_
  refine aq_then ?_
  refine ac_condF rfl ?_
  refine ac_skip ?_
  refine retIN Tryz.results126 .nil .zero ?_
  refine al_end ?_
  refine aq_then ?_
  refine ac_region ?_
  refine al_q (q_move rfl) rfl rfl rfl ?_
  refine al_q (q_move rfl) rfl rfl rfl ?_
  refine al_q (q_nilCheckP rfl) rfl rfl rfl ?_
  refine al_store1 (i := 10) rfl rfl rfl rfl Tryz.sizeOf3 .k5 .k10 rfl ?_
  refine al_end ?_
  refine aq_inN ?_
  refine aq_then ?_
  refine ac_region ?_
  refine al_q (q_same (v' := .int .i64 2) (q_add rfl rfl (by omega)) rfl) rfl rfl rfl ?_
  refine al_q (q_move rfl) rfl rfl rfl ?_
  refine al_end ?_
  refine aq_then (aq_again ?_)
  refine ac_seq ?_
  refine ac_region ?_
  refine al_q (q_same (v' := .bool true) (q_lss rfl rfl) rfl) rfl rfl rfl ?_
  refine al_end ?_
  refine aq_then ?_
  refine ac_seq ?_
  refine ac_condT rfl ?_
  refine ac_skip ?_
  refine aq_then ?_
  refine ac_seq ?_
  refine ac_block ?_
  refine ac_seq ?_
  refine ac_region ?_
  refine al_q (q_indexAddr (i := 2) 2 rfl rfl rfl (by decide) Tryz.runUnderlying180 Tryz.sizeOf137 rfl) rfl rfl rfl ?_
  refine al_q (q_load (i := 0) rfl rfl rfl Tryz.isAgg137) rfl rfl rfl ?_
  refine al_q (q_assign rfl) rfl rfl rfl ?_
  refine al_end ?_
  refine aq_then ?_
  refine ac_seq ?_
  refine ac_region ?_
  refine al_q (q_move rfl) rfl rfl rfl ?_
  refine al_inl Tryz.call128 (.cons rfl .nil) rfl rfl Tryz.func128 rfl rfl ?_
  refine ac_seq ?_
  refine ac_region ?_
  refine al_q (q_assign rfl) rfl rfl rfl ?_
  refine al_end ?_
  refine aq_then ?_
  refine ac_seq ?_
  refine ac_region ?_
  refine al_q (q_move rfl) rfl rfl rfl ?_
  refine al_q (q_move rfl) rfl rfl rfl ?_
  refine al_q (q_nilCheckP rfl) rfl rfl rfl ?_
  refine al_q (q_fieldAddr 12 rfl Tryz.runUnderlying152 rfl Tryz.sizeOf150 (by decide) rfl) rfl rfl rfl ?_
  refine al_q (q_load (i := 10) rfl rfl rfl Tryz.isAgg150) rfl rfl rfl ?_
  refine al_q (q_same (v' := .int .i64 3) (q_lenS rfl Tryz.runUnderlying150) rfl) rfl rfl rfl ?_
  refine al_q (q_same (v' := .bool true) (q_gtr rfl rfl) rfl) rfl rfl rfl ?_
  refine al_q (q_move rfl) rfl rfl rfl ?_
  refine al_q (q_move rfl) rfl rfl rfl ?_
  refine al_q (q_nilCheckP rfl) rfl rfl rfl ?_
  refine al_q (q_fieldAddr 12 rfl Tryz.runUnderlying152 rfl Tryz.sizeOf150 (by decide) rfl) rfl rfl rfl ?_
  refine al_q (q_load (i := 10) rfl rfl rfl Tryz.isAgg150) rfl rfl rfl ?_
  refine al_q (q_indexAddr (i := 0) 3 rfl rfl rfl (by decide) Tryz.runUnderlying150 Tryz.sizeOf9 rfl) rfl rfl rfl ?_
  refine al_q (q_load (i := 2) rfl rfl rfl Tryz.isAgg9) rfl rfl rfl ?_
  refine al_q (q_same (v' := .bool true) (q_neqT rfl rfl) (by kernel_rfl)) rfl rfl rfl ?_
  refine al_q (q_pickT rfl rfl) rfl rfl rfl ?_
  refine al_inl Tryz.call126 (.cons rfl (.cons rfl .nil)) rfl rfl Tryz.func126 rfl rfl ?_
  refine ac_seq ?_
  refine ac_region ?_
  refine al_q (q_move rfl) rfl rfl rfl ?_
  refine al_q (q_not rfl) rfl rfl rfl ?_
  refine al_end ?_
  refine aq_then ?_
  refine ac_condF rfl ?_
  refine ac_skip ?_
  refine retIN Tryz.results126 .nil .zero ?_
  refine al_end ?_
  refine aq_then ?_
  refine ac_seq ?_
  refine ac_region ?_
  refine al_q (q_move rfl) rfl rfl rfl ?_
  refine al_q (q_nilCheckP rfl) rfl rfl rfl ?_
  refine al_q (q_fieldAddr 12 rfl Tryz.runUnderlying152 rfl Tryz.sizeOf150 (by decide) rfl) rfl rfl rfl ?_
  refine al_q (q_load (i := 10) rfl rfl rfl Tryz.isAgg150) rfl rfl rfl ?_
  refine al_q (q_indexAddr (i := 0) 3 rfl rfl rfl (by decide) Tryz.runUnderlying150 Tryz.sizeOf9 rfl) rfl rfl rfl ?_
  refine al_q (q_load (i := 2) rfl rfl rfl Tryz.isAgg9) rfl rfl rfl ?_
  refine al_q (q_assign rfl) rfl rfl rfl ?_
  refine al_end ?_
  refine aq_then ?_
  refine ac_seq ?_
  refine ac_region ?_
  refine al_q (q_move rfl) rfl rfl rfl ?_
  refine al_q (q_move rfl) rfl rfl rfl ?_
  refine al_q (q_nilCheckP rfl) rfl rfl rfl ?_
  refine al_q (q_fieldAddr 12 rfl Tryz.runUnderlying152 rfl Tryz.sizeOf150 (by decide) rfl) rfl rfl rfl ?_
  refine al_q (q_load (i := 10) rfl rfl rfl Tryz.isAgg150) rfl rfl rfl ?_
  refine al_q (q_same (v' := .slice (some ⟨b18, 4, none⟩) 2 2) (q_fromS (lo := 1) rfl rfl rfl (by decide) (by decide) Tryz.underlying150 Tryz.sizeOf9 rfl) rfl) rfl rfl rfl ?_
  refine al_q (q_nilCheckP rfl) rfl rfl rfl ?_
  refine al_q (q_fieldAddr 12 rfl Tryz.runUnderlying152 rfl Tryz.sizeOf150 (by decide) rfl) rfl rfl rfl ?_
  refine al_store1 (i := 10) rfl rfl rfl rfl Tryz.sizeOf150 .k12 .k10 rfl ?_
  refine al_end ?_
  refine aq_then ?_
  refine ac_seq ?_
  refine ac_region ?_
  refine al_q (q_move rfl) rfl rfl rfl ?_
  refine al_q (q_assign rfl) rfl rfl rfl ?_
  refine al_end ?_
  refine aq_then ?_
  refine ac_ret ?_
  refine retI Tryz.results128 (.tmp rfl .nil) .one ?_
  refine al_q (q_assign rfl) rfl rfl rfl ?_
  refine al_end ?_
  refine aq_then ?_
  refine ac_seq ?_
  refine ac_region ?_
  refine al_q (q_move rfl) rfl rfl rfl ?_
  refine al_call Tryz.call154 (.cons rfl .nil) rfl rfl (fun w31 hs31 => ?_)
  refine (atoi_at _ 1 _ (by decide) (by kernel_rfl)).mono ?_
  rintro e u31 ⟨rfl, hb_31⟩
  refine ⟨_, rfl, hb_31, ?_⟩
  clear hs31
  refine al_q (q_move rfl) rfl rfl rfl ?_
  refine al_q (q_extract rfl rfl) rfl rfl rfl ?_
  refine al_q (q_extract rfl rfl) rfl rfl rfl ?_
  refine al_q (q_assign rfl) rfl rfl rfl ?_
  refine al_q (q_assign rfl) rfl rfl rfl ?_
  refine al_end ?_
  refine aq_then ?_
  refine aq_keepL [0, 5, 6, 7, 8, 9, 10, 11, 12, 13, 14, 15, 16, 17, 18, 19, 20, 21, 22, 23, 24, 25, 26, 27, 28, 29, 30, 31, 32, 33, 34, 36, 37, 38, 39] (.cons rfl (.cons rfl (.cons rfl (.cons rfl (.cons rfl (.cons rfl (.cons rfl (.cons rfl (.cons rfl (.cons rfl (.cons rfl (.cons rfl (.cons rfl (.cons rfl (.cons rfl (.cons rfl (.cons rfl (.cons rfl (.cons rfl (.cons rfl (.cons rfl (.cons rfl (.cons rfl (.cons rfl (.cons rfl (.cons rfl (.cons rfl (.cons rfl (.cons rfl (.cons rfl (.cons rfl (.cons rfl (.cons rfl (.cons rfl (.cons rfl .nil))))))))))))))))))))))))))))))))))) ?_
  refine aq_keepU ?_
  refine ac_seq ?_
  refine ac_region ?_
  refine al_q (q_move rfl) rfl rfl rfl ?_
  refine al_q (q_move rfl) rfl rfl rfl ?_
  refine al_q (q_eqlNilI rfl Tryz.underlying182) rfl rfl rfl ?_
  refine al_q (q_move rfl) rfl rfl rfl ?_
  refine al_q (q_move rfl) rfl rfl rfl ?_
  refine al_call Tryz.call155 (.cons rfl .nil) rfl rfl (fun w32 hs32 => ?_)
  refine (itoa_at _ ⟨#[49]⟩ _ (hE.below hs32.below) (by decide) (by decide) (by kernel_rfl)).mono ?_
  rintro e u32 ⟨rfl, hb_32⟩
  refine ⟨_, rfl, hb_32, ?_⟩
  clear hs32
  refine al_q (q_move rfl) rfl rfl rfl ?_
  refine al_q (q_same (v' := .bool true) (q_eqlT rfl rfl) (by kernel_rfl)) rfl rfl rfl ?_
  refine al_q (q_pickT rfl rfl) rfl rfl rfl ?_
  refine al_q (q_move rfl) rfl rfl rfl ?_
  refine al_q (q_move rfl) rfl rfl rfl ?_
  refine al_inl Tryz.call74 (.cons rfl (.cons rfl (.cons rfl .nil))) rfl rfl Tryz.func74 rfl rfl ?_
  refine ac_seq ?_
  refine ac_region ?_
  refine al_q (q_assign rfl) rfl rfl rfl ?_
  refine al_end ?_
  refine aq_then ?_
  refine ac_seq ?_
  refine ac_region ?_
  refine al_q (q_move rfl) rfl rfl rfl ?_
  refine al_q (q_move rfl) rfl rfl rfl ?_
  refine al_q (q_same (v' := .bool true) (q_leq rfl rfl) rfl) rfl rfl rfl ?_
  refine al_q (q_move rfl) rfl rfl rfl ?_
  refine al_q (q_move rfl) rfl rfl rfl ?_
  refine al_q (q_move rfl) rfl rfl rfl ?_
  refine al_q (q_same (v' := .bool true) (q_leq rfl rfl) rfl) rfl rfl rfl ?_
  refine al_q (q_pickT rfl rfl) rfl rfl rfl ?_
  refine al_q (q_assign rfl) rfl rfl rfl ?_
  refine al_end ?_
  refine aq_then ?_
  refine ac_ret ?_
  refine retI Tryz.results74 (.tmp rfl .nil) .one ?_
  refine al_q (q_pickT rfl rfl) rfl rfl rfl ?_
  refine al_inl Tryz.call126 (.cons rfl (.cons rfl .nil)) rfl rfl Tryz.func126 rfl rfl ?_
  refine ac_seq ?_
  refine ac_region ?_
  refine al_q (q_move rfl) rfl rfl rfl ?_
  refine al_q (q_not rfl) rfl rfl rfl ?_
  refine al_end ?_
  refine aq_then ?_
  refine ac_condF rfl ?_
  refine ac_skip ?_
  refine retIN Tryz.results126 .nil .zero ?_
  refine al_end ?_
  refine aq_then ?_
  refine ac_region ?_
  refine al_q (q_move rfl) rfl rfl rfl ?_
  refine al_q (q_move rfl) rfl rfl rfl ?_
  refine al_q (q_nilCheckP rfl) rfl rfl rfl ?_
  refine al_store1 (i := 10) rfl rfl rfl rfl Tryz.sizeOf3 .k6 .k10 rfl ?_
  refine al_end ?_
  refine aq_inN ?_
  refine aq_then ?_
  refine ac_region ?_
  refine al_q (q_same (v' := .int .i64 3) (q_add rfl rfl (by omega)) rfl) rfl rfl rfl ?_
  refine al_q (q_move rfl) rfl rfl rfl ?_
  refine al_end ?_
  refine aq_then (aq_again ?_)
  refine ac_seq ?_
  refine ac_region ?_
  refine al_q (q_same (v' := .bool true) (q_lss rfl rfl) rfl) rfl rfl rfl ?_
  refine al_end ?_
  refine aq_then ?_
  refine ac_seq ?_
  refine ac_condT rfl ?_
  refine ac_skip ?_
  refine aq_then ?_
  refine ac_seq ?_
  refine ac_block ?_
  refine ac_seq ?_
  refine ac_region ?_
  refine al_q (q_indexAddr (i := 3) 3 rfl rfl rfl (by decide) Tryz.runUnderlying180 Tryz.sizeOf137 rfl) rfl rfl rfl ?_
  refine al_q (q_load (i := 0) rfl rfl rfl Tryz.isAgg137) rfl rfl rfl ?_
  refine al_q (q_assign rfl) rfl rfl rfl ?_
  refine al_end ?_
  refine aq_then ?_
  refine ac_seq ?_
  refine ac_region ?_
  refine al_q (q_move rfl) rfl rfl rfl ?_
  refine al_inl Tryz.call128 (.cons rfl .nil) rfl rfl Tryz.func128 rfl rfl ?_
  refine ac_seq ?_
  refine ac_region ?_
  refine al_q (q_assign rfl) rfl rfl rfl ?_
  refine al_end ?_
  refine aq_then ?_
  refine ac_seq ?_
  refine ac_region ?_
  refine al_q (q_move rfl) rfl rfl rfl ?_
  refine al_q (q_move rfl) rfl rfl rfl ?_
  refine al_q (q_nilCheckP rfl) rfl rfl rfl ?_
  refine al_q (q_fieldAddr 12 rfl Tryz.runUnderlying152 rfl Tryz.sizeOf150 (by decide) rfl) rfl rfl rfl ?_
  refine al_q (q_load (i := 10) rfl rfl rfl Tryz.isAgg150) rfl rfl rfl ?_
  refine al_q (q_same (v' := .int .i64 2) (q_lenS rfl Tryz.runUnderlying150) rfl) rfl rfl rfl ?_
  refine al_q (q_same (v' := .bool true) (q_gtr rfl rfl) rfl) rfl rfl rfl ?_
  refine al_q (q_move rfl) rfl rfl rfl ?_
  refine al_q (q_move rfl) rfl rfl rfl ?_
  refine al_q (q_nilCheckP rfl) rfl rfl rfl ?_
  refine al_q (q_fieldAddr 12 rfl Tryz.runUnderlying152 rfl Tryz.sizeOf150 (by decide) rfl) rfl rfl rfl ?_
  refine al_q (q_load (i := 10) rfl rfl rfl Tryz.isAgg150) rfl rfl rfl ?_
  refine al_q (q_indexAddr (i := 0) 4 rfl rfl rfl (by decide) Tryz.runUnderlying150 Tryz.sizeOf9 rfl) rfl rfl rfl ?_
  refine al_q (q_load (i := 2) rfl rfl rfl Tryz.isAgg9) rfl rfl rfl ?_
  refine al_q (q_same (v' := .bool true) (q_neqT rfl rfl) (by kernel_rfl)) rfl rfl rfl ?_
  refine al_q (q_pickT rfl rfl) rfl rfl rfl ?_
  refine al_inl Tryz.call126 (.cons rfl (.cons rfl .nil)) rfl rfl Tryz.func126 rfl rfl ?_
  refine ac_seq ?_
  refine ac_region ?_
  refine al_q (q_move rfl) rfl rfl rfl ?_
  refine al_q (q_not rfl) rfl rfl rfl ?_
  refine al_end ?_
  refine aq_then ?_
  refine ac_condF rfl ?_
  refine ac_skip ?_
  refine retIN Tryz.results126 .nil .zero ?_
  refine al_end ?_
  refine aq_then ?_
  refine ac_seq ?_
  refine ac_region ?_
  refine al_q (q_move rfl) rfl rfl rfl ?_
  refine al_q (q_nilCheckP rfl) rfl rfl rfl ?_
  refine al_q (q_fieldAddr 12 rfl Tryz.runUnderlying152 rfl Tryz.sizeOf150 (by decide) rfl) rfl rfl rfl ?_
  refine al_q (q_load (i := 10) rfl rfl rfl Tryz.isAgg150) rfl rfl rfl ?_
  refine al_q (q_indexAddr (i := 0) 4 rfl rfl rfl (by decide) Tryz.runUnderlying150 Tryz.sizeOf9 rfl) rfl rfl rfl ?_
  refine al_q (q_load (i := 2) rfl rfl rfl Tryz.isAgg9) rfl rfl rfl ?_
  refine al_q (q_assign rfl) rfl rfl rfl ?_
  refine al_end ?_
  refine aq_then ?_
  refine ac_seq ?_
  refine ac_region ?_
  refine al_q (q_move rfl) rfl rfl rfl ?_
  refine al_q (q_move rfl) rfl rfl rfl ?_
  refine al_q (q_nilCheckP rfl) rfl rfl rfl ?_
  refine al_q (q_fieldAddr 12 rfl Tryz.runUnderlying152 rfl Tryz.sizeOf150 (by decide) rfl) rfl rfl rfl ?_
  refine al_q (q_load (i := 10) rfl rfl rfl Tryz.isAgg150) rfl rfl rfl ?_
  refine al_q (q_same (v' := .slice (some ⟨b18, 5, none⟩) 1 1) (q_fromS (lo := 1) rfl rfl rfl (by decide) (by decide) Tryz.underlying150 Tryz.sizeOf9 rfl) rfl) rfl rfl rfl ?_
  refine al_q (q_nilCheckP rfl) rfl rfl rfl ?_
  refine al_q (q_fieldAddr 12 rfl Tryz.runUnderlying152 rfl Tryz.sizeOf150 (by decide) rfl) rfl rfl rfl ?_
  refine al_store1 (i := 10) rfl rfl rfl rfl Tryz.sizeOf150 .k12 .k10 rfl ?_
  refine al_end ?_
  refine aq_then ?_
  refine aq_keepL [2, 3] (.cons rfl (.cons rfl .nil)) ?_
  refine aq_keepU ?_
  refine ac_seq ?_
  refine ac_region ?_
  refine al_q (q_move rfl) rfl rfl rfl ?_
  refine al_q (q_assign rfl) rfl rfl rfl ?_
  refine al_end ?_
  refine aq_then ?_
  refine ac_ret ?_
  refine retI Tryz.results128 (.tmp rfl .nil) .one ?_
  refine al_q (q_assign rfl) rfl rfl rfl ?_
  refine al_end ?_
  refine aq_then ?_
  refine ac_seq ?_
  refine ac_region ?_
  refine al_q (q_move rfl) rfl rfl rfl ?_
  refine al_call Tryz.call154 (.cons rfl .nil) rfl rfl (fun w33 hs33 => ?_)
  refine (atoi_at _ 1 _ (by decide) (by kernel_rfl)).mono ?_
  rintro e u33 ⟨rfl, hb_33⟩
  refine ⟨_, rfl, hb_33, ?_⟩
  clear hs33
  refine al_q (q_move rfl) rfl rfl rfl ?_
  refine al_q (q_extract rfl rfl) rfl rfl rfl ?_
  refine al_q (q_extract rfl rfl) rfl rfl rfl ?_
  refine al_q (q_assign rfl) rfl rfl rfl ?_
  refine al_q (q_assign rfl) rfl rfl rfl ?_
  refine al_end ?_
  refine aq_then ?_
  refine ac_seq ?_
  refine ac_region ?_
  refine al_q (q_move rfl) rfl rfl rfl ?_
  refine al_q (q_move rfl) rfl rfl rfl ?_
  refine al_q (q_eqlNilI rfl Tryz.underlying182) rfl rfl rfl ?_
  refine al_q (q_move rfl) rfl rfl rfl ?_
  refine al_q (q_move rfl) rfl rfl rfl ?_
  refine al_call Tryz.call155 (.cons rfl .nil) rfl rfl (fun w34 hs34 => ?_)
  refine (itoa_at _ ⟨#[49]⟩ _ (hE.below hs34.below) (by decide) (by decide) (by kernel_rfl)).mono ?_
  rintro e u34 ⟨rfl, hb_34⟩
  refine ⟨_, rfl, hb_34, ?_⟩
  clear hs34
  refine al_q (q_move rfl) rfl rfl rfl ?_
  refine al_q (q_same (v' := .bool true) (q_eqlT rfl rfl) (by kernel_rfl)) rfl rfl rfl ?_
  refine al_q (q_pickT rfl rfl) rfl rfl rfl ?_
  refine al_q (q_move rfl) rfl rfl rfl ?_
  refine al_q (q_move rfl) rfl rfl rfl ?_
  refine al_inl Tryz.call74 (.cons rfl (.cons rfl (.cons rfl .nil))) rfl rfl Tryz.func74 rfl rfl ?_
  refine ac_seq ?_
  refine ac_region ?_
  refine al_q (q_assign rfl) rfl rfl rfl ?_
  refine al_end ?_
  refine aq_then ?_
  refine ac_seq ?_
  refine ac_region ?_
  refine al_q (q_move rfl) rfl rfl rfl ?_
  refine al_q (q_move rfl) rfl rfl rfl ?_
  refine al_q (q_same (v' := .bool true) (q_leq rfl rfl) rfl) rfl rfl rfl ?_
  refine al_q (q_move rfl) rfl rfl rfl ?_
  refine al_q (q_move rfl) rfl rfl rfl ?_
  refine al_q (q_move rfl) rfl rfl rfl ?_
  refine al_q (q_same (v' := .bool true) (q_leq rfl rfl) rfl) rfl rfl rfl ?_
  refine al_q (q_pickT rfl rfl) rfl rfl rfl ?_
  refine al_q (q_assign rfl) rfl rfl rfl ?_
  refine al_end ?_
  refine aq_then ?_
  refine ac_ret ?_
  refine retI Tryz.results74 (.tmp rfl .nil) .one ?_
  refine al_q (q_pickT rfl rfl) rfl rfl rfl ?_
  refine al_inl Tryz.call126 (.cons rfl (.cons rfl .nil)) rfl rfl Tryz.func126 rfl rfl ?_
  refine ac_seq ?_
  refine ac_region ?_
  refine al_q (q_move rfl) rfl rfl rfl ?_
  refine al_q (q_not rfl) rfl rfl rfl ?_
  refine al_end ?_
  refine aq_then ?_
  refine ac_condF rfl ?_
  refine ac_skip ?_
  refine retIN Tryz.results126 .nil .zero ?_
  refine al_end ?_
  refine aq_then ?_
  refine ac_region ?_
  refine al_q (q_move rfl) rfl rfl rfl ?_
  refine al_q (q_move rfl) rfl rfl rfl ?_
  refine al_q (q_nilCheckP rfl) rfl rfl rfl ?_
  refine al_store1 (i := 10) rfl rfl rfl rfl Tryz.sizeOf3 .k7 .k10 rfl ?_
  refine al_end ?_
  refine aq_inN ?_
  refine aq_then ?_
  refine ac_region ?_
  refine al_q (q_same (v' := .int .i64 4) (q_add rfl rfl (by omega)) rfl) rfl rfl rfl ?_
  refine al_q (q_move rfl) rfl rfl rfl ?_
  refine al_end ?_
  refine aq_then (aq_again ?_)
  refine ac_seq ?_
  refine ac_region ?_
  refine al_q (q_same (v' := .bool true) (q_lss rfl rfl) rfl) rfl rfl rfl ?_
  refine al_end ?_
  refine aq_then ?_
  refine ac_seq ?_
  refine ac_condT rfl ?_
  refine ac_skip ?_
  refine aq_then ?_
  refine ac_seq ?_
  refine ac_block ?_
  refine ac_seq ?_
  refine ac_region ?_
  refine al_q (q_indexAddr (i := 4) 4 rfl rfl rfl (by decide) Tryz.runUnderlying180 Tryz.sizeOf137 rfl) rfl rfl rfl ?_
  refine al_q (q_load (i := 0) rfl rfl rfl Tryz.isAgg137) rfl rfl rfl ?_
  refine al_q (q_assign rfl) rfl rfl rfl ?_
  refine al_end ?_
  refine aq_then ?_
  refine ac_seq ?_
  refine ac_region ?_
  refine al_q (q_move rfl) rfl rfl rfl ?_
  refine al_inl Tryz.call128 (.cons rfl .nil) rfl rfl Tryz.func128 rfl rfl ?_
  refine ac_seq ?_
  refine ac_region ?_
  refine al_q (q_assign rfl) rfl rfl rfl ?_
  refine al_end ?_
  refine aq_then ?_
  refine ac_seq ?_
  refine ac_region ?_
  refine al_q (q_move rfl) rfl rfl rfl ?_
  refine al_q (q_move rfl) rfl rfl rfl ?_
  refine al_q (q_nilCheckP rfl) rfl rfl rfl ?_
  refine al_q (q_fieldAddr 12 rfl Tryz.runUnderlying152 rfl Tryz.sizeOf150 (by decide) rfl) rfl rfl rfl ?_
  refine al_q (q_load (i := 10) rfl rfl rfl Tryz.isAgg150) rfl rfl rfl ?_
  refine al_q (q_same (v' := .int .i64 1) (q_lenS rfl Tryz.runUnderlying150) rfl) rfl rfl rfl ?_
  refine al_q (q_same (v' := .bool true) (q_gtr rfl rfl) rfl) rfl rfl rfl ?_
  refine al_q (q_move rfl) rfl rfl rfl ?_
  refine al_q (q_move rfl) rfl rfl rfl ?_
  refine al_q (q_nilCheckP rfl) rfl rfl rfl ?_
  refine al_q (q_fieldAddr 12 rfl Tryz.runUnderlying152 rfl Tryz.sizeOf150 (by decide) rfl) rfl rfl rfl ?_
  refine al_q (q_load (i := 10) rfl rfl rfl Tryz.isAgg150) rfl rfl rfl ?_
  refine al_q (q_indexAddr (i := 0) 5 rfl rfl rfl (by decide) Tryz.runUnderlying150 Tryz.sizeOf9 rfl) rfl rfl rfl ?_
  refine al_q (q_load (i := 2) rfl rfl rfl Tryz.isAgg9) rfl rfl rfl ?_
  refine al_q (q_same (v' := .bool true) (q_neqT rfl rfl) (by kernel_rfl)) rfl rfl rfl ?_
  refine al_q (q_pickT rfl rfl) rfl rfl rfl ?_
  refine al_inl Tryz.call126 (.cons rfl (.cons rfl .nil)) rfl rfl Tryz.func126 rfl rfl ?_
  refine ac_seq ?_
  refine ac_region ?_
  refine al_q (q_move rfl) rfl rfl rfl ?_
  refine al_q (q_not rfl) rfl rfl rfl ?_
  refine al_end ?_
  refine aq_then ?_
  refine aq_keepL [0, 5] (.cons rfl (.cons rfl .nil)) ?_
  refine aq_keepU ?_
  refine ac_condF rfl ?_
  refine ac_skip ?_
  refine retIN Tryz.results126 .nil .zero ?_
  refine al_end ?_
  refine aq_then ?_
  refine ac_seq ?_
  refine ac_region ?_
  refine al_q (q_move rfl) rfl rfl rfl ?_
  refine al_q (q_nilCheckP rfl) rfl rfl rfl ?_
  refine al_q (q_fieldAddr 12 rfl Tryz.runUnderlying152 rfl Tryz.sizeOf150 (by decide) rfl) rfl rfl rfl ?_
  refine al_q (q_load (i := 10) rfl rfl rfl Tryz.isAgg150) rfl rfl rfl ?_
  refine al_q (q_indexAddr (i := 0) 5 rfl rfl rfl (by decide) Tryz.runUnderlying150 Tryz.sizeOf9 rfl) rfl rfl rfl ?_
  refine al_q (q_load (i := 2) rfl rfl rfl Tryz.isAgg9) rfl rfl rfl ?_
  refine al_q (q_assign rfl) rfl rfl rfl ?_
  refine al_end ?_
  refine aq_then ?_
  refine ac_seq ?_
  refine ac_region ?_
  refine al_q (q_move rfl) rfl rfl rfl ?_
  refine al_q (q_move rfl) rfl rfl rfl ?_
  refine al_q (q_nilCheckP rfl) rfl rfl rfl ?_
  refine al_q (q_fieldAddr 12 rfl Tryz.runUnderlying152 rfl Tryz.sizeOf150 (by decide) rfl) rfl rfl rfl ?_
  refine al_q (q_load (i := 10) rfl rfl rfl Tryz.isAgg150) rfl rfl rfl ?_
  refine al_q (q_same (v' := .slice (some ⟨b18, 5, none⟩) 0 0) (q_fromS (lo := 1) rfl rfl rfl (by decide) (by decide) Tryz.underlying150 Tryz.sizeOf9 rfl) rfl) rfl rfl rfl ?_
  refine al_q (q_nilCheckP rfl) rfl rfl rfl ?_
  refine al_q (q_fieldAddr 12 rfl Tryz.runUnderlying152 rfl Tryz.sizeOf150 (by decide) rfl) rfl rfl rfl ?_
  refine al_store1 (i := 10) rfl rfl rfl rfl Tryz.sizeOf150 .k12 .k10 rfl ?_
  refine al_end ?_
  refine aq_then ?_
  refine ac_seq ?_
  refine ac_region ?_
  refine al_q (q_move rfl) rfl rfl rfl ?_
  refine al_q (q_assign rfl) rfl rfl rfl ?_
  refine al_end ?_
  refine aq_then ?_
  refine ac_ret ?_
  refine retI Tryz.results128 (.tmp rfl .nil) .one ?_
  refine al_q (q_assign rfl) rfl rfl rfl ?_
  refine al_end ?_
  refine aq_then ?_
  refine ac_seq ?_
  refine ac_region ?_
  refine al_q (q_move rfl) rfl rfl rfl ?_
  refine al_call Tryz.call154 (.cons rfl .nil) rfl rfl (fun w35 hs35 => ?_)
  refine (atoi_at _ 1 _ (by decide) (by kernel_rfl)).mono ?_
  rintro e u35 ⟨rfl, hb_35⟩
  refine ⟨_, rfl, hb_35, ?_⟩
  clear hs35
  refine al_q (q_move rfl) rfl rfl rfl ?_
  refine al_q (q_extract rfl rfl) rfl rfl rfl ?_
  refine al_q (q_extract rfl rfl) rfl rfl rfl ?_
  refine al_q (q_assign rfl) rfl rfl rfl ?_
  refine al_q (q_assign rfl) rfl rfl rfl ?_
  refine al_end ?_
  refine aq_then ?_
  refine ac_seq ?_
  refine ac_region ?_
  refine al_q (q_move rfl) rfl rfl rfl ?_
  refine al_q (q_move rfl) rfl rfl rfl ?_
  refine al_q (q_eqlNilI rfl Tryz.underlying182) rfl rfl rfl ?_
  refine al_q (q_move rfl) rfl rfl rfl ?_
  refine al_q (q_move rfl) rfl rfl rfl ?_
  refine al_call Tryz.call155 (.cons rfl .nil) rfl rfl (fun w36 hs36 => ?_)
  refine (itoa_at _ ⟨#[49]⟩ _ (hE.below hs36.below) (by decide) (by decide) (by kernel_rfl)).mono ?_
  rintro e u36 ⟨rfl, hb_36⟩
  refine ⟨_, rfl, hb_36, ?_⟩
  clear hs36
  refine al_q (q_move rfl) rfl rfl rfl ?_
  refine al_q (q_same (v' := .bool true) (q_eqlT rfl rfl) (by kernel_rfl)) rfl rfl rfl ?_
  refine al_q (q_pickT rfl rfl) rfl rfl rfl ?_
  refine al_q (q_move rfl) rfl rfl rfl ?_
  refine al_q (q_move rfl) rfl rfl rfl ?_
  refine al_inl Tryz.call74 (.cons rfl (.cons rfl (.cons rfl .nil))) rfl rfl Tryz.func74 rfl rfl ?_
  refine ac_seq ?_
  refine ac_region ?_
  refine al_q (q_assign rfl) rfl rfl rfl ?_
  refine al_end ?_
  refine aq_then ?_
  refine ac_seq ?_
  refine ac_region ?_
  refine al_q (q_move rfl) rfl rfl rfl ?_
  refine al_q (q_move rfl) rfl rfl rfl ?_
  refine al_q (q_same (v' := .bool true) (q_leq rfl rfl) rfl) rfl rfl rfl ?_
  refine al_q (q_move rfl) rfl rfl rfl ?_
  refine al_q (q_move rfl) rfl rfl rfl ?_
  refine al_q (q_move rfl) rfl rfl rfl ?_
  refine al_q (q_same (v' := .bool true) (q_leq rfl rfl) rfl) rfl rfl rfl ?_
  refine al_q (q_pickT rfl rfl) rfl rfl rfl ?_
  refine al_q (q_assign rfl) rfl rfl rfl ?_
  refine al_end ?_
  refine aq_then ?_
  refine ac_ret ?_
  refine retI Tryz.results74 (.tmp rfl .nil) .one ?_
  refine al_q (q_pickT rfl rfl) rfl rfl rfl ?_
  refine al_inl Tryz.call126 (.cons rfl (.cons rfl .nil)) rfl rfl Tryz.func126 rfl rfl ?_
  refine ac_seq ?_
  refine ac_region ?_
  refine al_q (q_move rfl) rfl rfl rfl ?_
  refine al_q (q_not rfl) rfl rfl rfl ?_
  refine al_end ?_
  refine aq_then ?_
  refine ac_condF rfl ?_
  refine ac_skip ?_
  refine retIN Tryz.results126 .nil .zero ?_
  refine al_end ?_
  refine aq_then ?_
  refine ac_region ?_
  refine al_q (q_move rfl) rfl rfl rfl ?_
  refine al_q (q_move rfl) rfl rfl rfl ?_
  refine al_q (q_nilCheckP rfl) rfl rfl rfl ?_
  refine al_store1 (i := 10) rfl rfl rfl rfl Tryz.sizeOf3 .k8 .k10 rfl ?_
  refine al_end ?_
  refine aq_inN ?_
  refine aq_then ?_
  refine ac_region ?_
  refine al_q (q_same (v' := .int .i64 5) (q_add rfl rfl (by omega)) rfl) rfl rfl rfl ?_
  refine al_q (q_move rfl) rfl rfl rfl ?_
  refine al_end ?_
  refine aq_then (aq_again ?_)
  refine ac_seq ?_
  refine ac_region ?_
  refine al_q (q_same (v' := .bool false) (q_lss rfl rfl) rfl) rfl rfl rfl ?_
  refine al_end ?_
  refine aq_then ?_
  refine ac_seq ?_
  refine ac_condF rfl ?_
  refine ac_exit ?_
  refine aq_thenE ?_
  refine aq_thenE ?_
  refine aq_hit ?_
  refine retIN Tryz.results148 .nil .zero ?_
  refine al_end (ah_last (by kernel_rfl) ?_)
  refine retIN Tryz.results144 .nil .zero ?_
  refine al_end ?_
  refine aq_then ?_
  refine ac_seq ?_
  refine ac_region ?_
  refine al_q (q_fieldAddr 12 rfl Tryz.runUnderlying152 rfl Tryz.sizeOf150 (by decide) rfl) rfl rfl rfl ?_
  refine al_q (q_load (i := 10) rfl rfl rfl Tryz.isAgg150) rfl rfl rfl ?_
  refine al_q (q_same (v' := .int .i64 0) (q_lenS rfl Tryz.runUnderlying150) rfl) rfl rfl rfl ?_
  refine al_q (q_same (v' := .bool true) (q_eql rfl rfl) rfl) rfl rfl rfl ?_
  refine al_inl Tryz.call126 (.cons rfl (.cons rfl .nil)) rfl rfl Tryz.func126 rfl rfl ?_
  refine ac_seq ?_
  refine ac_region ?_
  refine al_q (q_move rfl) rfl rfl rfl ?_
  refine al_q (q_not rfl) rfl rfl rfl ?_
  refine al_end ?_
  refine aq_then ?_
  refine ac_condF rfl ?_
  refine ac_skip ?_
  refine retIN Tryz.results126 .nil .zero ?_
  refine al_end ?_
  refine aq_then ?_
  refine ac_seq ?_
  refine ac_region ?_
  refine al_q (q_fieldAddr 0 rfl Tryz.runUnderlying161 rfl Tryz.sizeOf3 (by decide) rfl) rfl rfl rfl ?_
  refine al_q (q_load (i := 1) rfl rfl rfl Tryz.isAgg3) rfl rfl rfl ?_
  refine al_q (q_fieldAddr 11 rfl Tryz.runUnderlying152 rfl Tryz.sizeOf3 (by decide) rfl) rfl rfl rfl ?_
  refine al_store1 (i := 10) rfl rfl rfl rfl Tryz.sizeOf3 .k11 .k10 rfl ?_
  refine al_end ?_
  refine aq_then ?_
  refine aq_keepL [0, 2, 3, 4, 5, 6, 7, 8, 9, 11, 12, 13, 14, 15, 16, 17, 18, 19, 21, 22, 23, 24, 25, 26, 27, 28, 29, 30, 31, 32, 33, 34, 35, 36, 37, 38, 39, 41, 42, 44, 45, 46, 47, 49, 50, 51, 52, 53, 54, 55, 56] (.cons rfl (.cons rfl (.cons rfl (.cons rfl (.cons rfl (.cons rfl (.cons rfl (.cons rfl (.cons rfl (.cons rfl (.cons rfl (.cons rfl (.cons rfl (.cons rfl (.cons rfl (.cons rfl (.cons rfl (.cons rfl (.cons rfl (.cons rfl (.cons rfl (.cons rfl (.cons rfl (.cons rfl (.cons rfl (.cons rfl (.cons rfl (.cons rfl (.cons rfl (.cons rfl (.cons rfl (.cons rfl (.cons rfl (.cons rfl (.cons rfl (.cons rfl (.cons rfl (.cons rfl (.cons rfl (.cons rfl (.cons rfl (.cons rfl (.cons rfl (.cons rfl (.cons rfl (.cons rfl (.cons rfl (.cons rfl (.cons rfl (.cons rfl (.cons rfl .nil))))))))))))))))))))))))))))))))))))))))))))))))))) ?_
  refine aq_keepU ?_
  refine aq_keepB (.drop (.keep (.keep (.keep (.drop (.keep (.keep (.keep (.keep (.keep (.keep (.keep .nil)))))))))))) ?_
  refine ac_seq ?_
  refine ac_region ?_
  refine al_q (q_fieldAddr 10 rfl Tryz.runUnderlying152 rfl Tryz.sizeOf3 (by decide) rfl) rfl rfl rfl ?_
  refine al_q (q_load (i := 8) rfl rfl rfl Tryz.isAgg3) rfl rfl rfl ?_
  refine al_q (q_same (v' := .int .i64 4) (q_add rfl rfl (by omega)) rfl) rfl rfl rfl ?_
  refine al_q (q_fieldAddr 10 rfl Tryz.runUnderlying152 rfl Tryz.sizeOf3 (by decide) rfl) rfl rfl rfl ?_
  refine al_store1 (i := 8) rfl rfl rfl rfl Tryz.sizeOf3 .k10 .k8 rfl ?_
  refine al_end ?_
  refine aq_then ?_
  refine ac_region ?_
  refine al_q (q_move rfl) rfl rfl rfl ?_
  refine al_q (q_assign rfl) rfl rfl rfl ?_
  refine al_end ?_
  refine aq_inN ?_
  refine aq_then (aq_again ?_)
  refine ac_seq ?_
  refine ac_seq ?_
  refine ac_region ?_
  refine al_q (q_move rfl) rfl rfl rfl ?_
  refine al_q (q_same (v' := .bool false) (q_neqT rfl rfl) (by kernel_rfl)) rfl rfl rfl ?_
  refine al_end ?_
  refine aq_then ?_
  refine ac_condF rfl ?_
  refine ac_exit ?_
  refine aq_thenE ?_
  refine aq_thenE ?_
  refine aq_hit ?_
  refine aq_then ?_
  refine ac_seq ?_
  refine ac_region ?_
  refine al_q (q_fieldAddr 11 rfl Tryz.runUnderlying152 rfl Tryz.sizeOf3 (by decide) rfl) rfl rfl rfl ?_
  refine al_q (q_load (i := 8) rfl rfl rfl Tryz.isAgg3) rfl rfl rfl ?_
  refine al_q (q_same (v' := .bool true) (q_geq rfl rfl) rfl) rfl rfl rfl ?_
  refine al_inl Tryz.call126 (.cons rfl (.cons rfl .nil)) rfl rfl Tryz.func126 rfl rfl ?_
  refine ac_seq ?_
  refine ac_region ?_
  refine al_q (q_move rfl) rfl rfl rfl ?_
  refine al_q (q_not rfl) rfl rfl rfl ?_
  refine al_end ?_
  refine aq_then ?_
  refine ac_condF rfl ?_
  refine ac_skip ?_
  refine retIN Tryz.results126 .nil .zero ?_
  refine al_end ?_
  refine aq_then ?_
  refine ac_seq ?_
  refine ac_region ?_
  refine al_q (q_fieldAddr 0 rfl Tryz.runUnderlying152 rfl Tryz.sizeOf29 (by decide) rfl) rfl rfl rfl ?_
  refine al_q (q_loadSub (i := 8) rfl rfl Tryz.isAgg29 Tryz.sizeOf29 .k0 .k10) rfl rfl rfl ?_
  refine al_storeAll (i := 9) rfl rfl rfl rfl Tryz.sizeOf29 rfl rfl .k9 rfl ?_
  refine al_end ?_
  refine aq_then ?_
  refine ac_ret ?_
  refine retR Tryz.results99 (.agg (i := 9) rfl rfl Tryz.isAgg29 Tryz.sizeOf29 rfl .nil) .one (fun w9 hs => ?_)
  exact ⟨⟨some ⟨b11, 0, none⟩, none, some ⟨b17, 0, none⟩, none, 1, c_b11, 0, 0, 1, c_b17, 0, 0⟩, rfl, ⟨isT_box (n := 8) (enc := CoilD.cells) (fun _ => rfl) (hs.at 4 rfl) rfl rfl, IsT.nil _ _ _ _, isT_box (n := 2) (enc := PointD.cells) (fun _ => rfl) (hs.at 2 rfl) rfl rfl, IsT.nil _ _ _ _, hc_b11, Nat.le_refl _, hc_b17, Nat.le_refl _, hk_b11, Nat.zero_le _, hk_b17, Nat.zero_le _, Nat.le_of_ble_eq_true rfl, Nat.le_of_ble_eq_true rfl, Nat.le_of_ble_eq_true rfl, Nat.le_of_ble_eq_true rfl⟩, ⟨hs.new 4 rfl, new_none _, hs.new 2 rfl, new_none _⟩, hs.below⟩

end Go.Proofs.YtjjajleiladbhaaGreatDoor
end
