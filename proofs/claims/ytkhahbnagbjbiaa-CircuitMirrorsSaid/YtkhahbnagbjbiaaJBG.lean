import Derived.Test.YtkhahbnagbjbiaaJAN
import Derived.Test.YtkhahbnagbjbiaaJBC
import Derived.Test.YtkhahbnagbjbiaaJBF
import Derived.Test.YtkhahbnagbjbiaaRows
import Derived.KernelRfl
import Derived.Laws.StructEq
section
/- The specification of layer 2: Mirror, over this seat's translation (written by ax_rmm.py). -/
namespace Go.Proofs.Ytkhahbnagbjbiaa
set_option linter.unusedVariables false
set_option linter.unusedSimpArgs false
open Go.RowKit

theorem take_map_flat {α : Type} (zs : List α) (m : α → α) (enc : α → List Value) (k : Nat) (p : α) (hp : zs[k]? = some p) : ((zs.take k).map m).flatMap enc ++ enc (m p) = ((zs.take (k + 1)).map m).flatMap enc := by
  obtain ⟨hk, rfl⟩ := List.getElem?_eq_some_iff.1 hp
  rw [List.take_succ_eq_append_getElem hk, List.map_append, List.flatMap_append]
  simp

theorem rcm_bl_apiMachine_ : ∀ w, (Instr.build 29 #[]).run Try.prog w = .ok (.agg #[(.string { data := #[] }), (.slice none 0 0), (.slice none 0 0), (.slice none 0 0), (.int .i64 0), (.int .i64 0), (.int .i64 0), (.int .i64 0), (.int .i64 0), (.slice none 0 0)]) w := by
  intro w; simp [Instr.build, Instr.fill, cells_agg, Try.runUnderlying29, Try.zeroValue29, Try.sizeOf9, Try.sizeOf22, Try.sizeOf23, Try.sizeOf24, Try.sizeOf26, Try.sizeOf27]

theorem rcm_bl_apiCurrents_ : ∀ w, (Instr.build 32 #[]).run Try.prog w = .ok (.agg #[(.slice none 0 0), (.slice none 0 0), (.slice none 0 0)]) w := by
  intro w; simp [Instr.build, Instr.fill, cells_agg, Try.runUnderlying32, Try.zeroValue32, Try.sizeOf30]

set_option maxRecDepth 100000 in
theorem rmirror_bad (R : MachR) (M : MachD) (Q : CurR) (C : CurD) (w : World) (hM : IsM w R M) (hC : IsC w Q C) (hv : validC M C = false) : Calls Try.prog 11 #[(.agg (machCells R M)), Q.v] w (Ret (.tuple #[.agg #[.string ⟨#[]⟩, .slice none 0 0, .slice none 0 0, .slice none 0 0, .int .i64 0, .int .i64 0, .int .i64 0, .int .i64 0, .int .i64 0, .slice none 0 0], .agg #[.slice none 0 0, .slice none 0 0, .slice none 0 0], .int .i64 1]) w) := by
  refine calls_ax (vs := [(.agg (machCells R M)), Q.v]) Try.func11 rfl rfl ?_
  refine ac_seq ?_
  refine ac_region ?_
  refine al_new (fun b => .pointer (some ⟨b, 0, none⟩)) (r_box rfl rfl) rfl rfl rfl ?_
  intro b1
  refine al_new (fun b => .pointer (some ⟨b, 0, none⟩)) (r_box rfl rfl) rfl rfl rfl ?_
  intro b2
  refine al_new (fun b => .pointer (some ⟨b, 0, none⟩)) (r_alloc Try.zeroValue29 rfl) rfl rfl rfl ?_
  intro b3
  refine al_new (fun b => .pointer (some ⟨b, 0, none⟩)) (r_alloc Try.zeroValue32 rfl) rfl rfl rfl ?_
  intro b4
  refine al_q (q_assign rfl) rfl rfl rfl ?_
  refine al_end ?_
  refine aq_then ?_
  refine ac_seq ?_
  refine ac_seq ?_
  refine ac_region ?_
  refine al_q (q_loadAll (i := 3) rfl rfl Try.isAgg29 Try.sizeOf29 rfl) rfl rfl rfl ?_
  refine al_q (q_loadAll (i := 2) rfl rfl Try.isAgg32 Try.sizeOf32 rfl) rfl rfl rfl ?_
  refine al_call Try.call24 (.cons rfl (.cons rfl .nil)) rfl rfl (fun w1 hs1 => ?_)
  refine (rvalid2_any R M Q C _ (hM.below hs1.below) (hC.below hs1.below)).mono ?_
  rintro e u1 ⟨rfl, hb_1⟩
  refine ⟨_, rfl, hb_1, ?_⟩
  clear hs1
  refine al_q (q_not rfl) rfl rfl rfl ?_
  refine al_end ?_
  refine aq_then ?_
  refine ac_cond rfl (fun h1 => ?_) (fun h1 => ?_)
  · refine ac_seq ?_
    refine ac_region ?_
    refine al_q (q_build .nil (rcm_bl_apiMachine_)) rfl rfl rfl ?_
    refine al_q (q_build .nil (rcm_bl_apiCurrents_)) rfl rfl rfl ?_
    refine al_storeAll (i := 1) rfl rfl rfl rfl Try.sizeOf29 rfl rfl .k1 rfl ?_
    refine al_storeAll (i := 0) rfl rfl rfl rfl Try.sizeOf32 rfl rfl .k0 rfl ?_
    refine al_q (q_assign rfl) rfl rfl rfl ?_
    refine al_end ?_
    refine aq_then ?_
    refine ac_ret ?_
    refine aq_thenR ?_
    refine retR Try.results11 (.agg (i := 1) rfl rfl Try.isAgg29 Try.sizeOf29 rfl (.agg (i := 0) rfl rfl Try.isAgg32 Try.sizeOf32 rfl (.tmp rfl .nil))) .two (fun w9 hs => ?_)
    exact ⟨rfl, hs.below⟩
  · simp [hv] at h1

theorem rcm_bl_apiMachine_0_4 (a0 c1_0 c1_1 c1_2 c1_3 c1_4 : Value) (ha0 : a0.oneCell' = true) : ∀ w, (Instr.build 29 #[(0, a0), (4, .agg #[c1_0, c1_1, c1_2, c1_3, c1_4])]).run Try.prog w = .ok (.agg #[a0, (.slice none 0 0), (.slice none 0 0), (.slice none 0 0), c1_0, c1_1, c1_2, c1_3, c1_4, (.slice none 0 0)]) w := by
  have ea0 : a0.cells = #[a0] := cells_one ha0
  intro w; simp [Instr.build, Instr.fill, cells_agg, Try.runUnderlying29, Try.zeroValue29, Try.sizeOf9, Try.sizeOf22, Try.sizeOf23, Try.sizeOf24, Try.sizeOf26, Try.sizeOf27, ea0]

theorem rcm_bs_apiCoil_1_0_ (c0_0 c0_1 c0_2 c0_3 c0_4 c0_5 c0_6 c0_7 : Value) : ∀ w, (Instr.buildSlice 22 1 #[(0, .agg #[c0_0, c0_1, c0_2, c0_3, c0_4, c0_5, c0_6, c0_7])]).run Try.prog w = .ok (.slice (some ⟨w.heap.size, 0, none⟩) 1 1) (w.alloc (.cells [c0_0, c0_1, c0_2, c0_3, c0_4, c0_5, c0_6, c0_7].toArray 47)) := by
  intro w; (simp [Instr.buildSlice, Instr.fill, cells_agg, newRow, Try.runUnderlying22, Try.zeroValue47, Try.sizeOf47] <;> (rw [(by kernel_rfl : Array.range 8 = #[0, 1, 2, 3, 4, 5, 6, 7])]; simp [Value.cells]))

theorem rcm_bs_apiShell_1_0_ (c0_0 c0_1 c0_2 c0_3 : Value) : ∀ w, (Instr.buildSlice 23 1 #[(0, .agg #[c0_0, c0_1, c0_2, c0_3])]).run Try.prog w = .ok (.slice (some ⟨w.heap.size, 0, none⟩) 1 1) (w.alloc (.cells [c0_0, c0_1, c0_2, c0_3].toArray 70)) := by
  intro w; (simp [Instr.buildSlice, Instr.fill, cells_agg, newRow, Try.runUnderlying23, Try.zeroValue70, Try.sizeOf70] <;> (rw [(by kernel_rfl : Array.range 4 = #[0, 1, 2, 3])]; simp [Value.cells]))

theorem rcm_bl_apiPoint_0_1 (a0 a1 : Value) (ha0 : a0.oneCell' = true) (ha1 : a1.oneCell' = true) : ∀ w, (Instr.build 72 #[(0, a0), (1, a1)]).run Try.prog w = .ok (.agg #[a0, a1]) w := by
  have ea0 : a0.cells = #[a0] := cells_one ha0
  have ea1 : a1.cells = #[a1] := cells_one ha1
  intro w; simp [Instr.build, Instr.fill, cells_agg, Try.runUnderlying72, Try.zeroValue72, Try.sizeOf3, ea0, ea1]

theorem rcm_bs_apiPoint_1_0_ (c0_0 c0_1 : Value) : ∀ w, (Instr.buildSlice 24 1 #[(0, .agg #[c0_0, c0_1])]).run Try.prog w = .ok (.slice (some ⟨w.heap.size, 0, none⟩) 1 1) (w.alloc (.cells [c0_0, c0_1].toArray 72)) := by
  intro w; (simp [Instr.buildSlice, Instr.fill, cells_agg, newRow, Try.runUnderlying24, Try.zeroValue72, Try.sizeOf72] <;> (rw [(by kernel_rfl : Array.range 2 = #[0, 1])]; simp [Value.cells]))

theorem rcm_bs_apiSensor_1_0_ (c0_0 c0_1 c0_2 c0_3 c0_4 : Value) : ∀ w, (Instr.buildSlice 27 1 #[(0, .agg #[c0_0, c0_1, c0_2, c0_3, c0_4])]).run Try.prog w = .ok (.slice (some ⟨w.heap.size, 0, none⟩) 1 1) (w.alloc (.cells [c0_0, c0_1, c0_2, c0_3, c0_4].toArray 74)) := by
  intro w; (simp [Instr.buildSlice, Instr.fill, cells_agg, newRow, Try.runUnderlying27, Try.zeroValue74, Try.sizeOf74] <;> (rw [(by kernel_rfl : Array.range 5 = #[0, 1, 2, 3, 4])]; simp [Value.cells]))

theorem rcm_bs_int_0_ : ∀ w, (Instr.buildSlice 30 0 #[]).run Try.prog w = .ok (.slice (some ⟨w.heap.size, 0, none⟩) 0 0) (w.alloc (.cells [].toArray 3)) := by
  intro w; (simp [Instr.buildSlice, Instr.fill, cells_agg, newRow, Try.runUnderlying30, Try.zeroValue3, Try.sizeOf3] <;> (rw [(by kernel_rfl : Array.range 0 = #[])]; simp [Value.cells]))

theorem rcm_bl_apiCurrents_0_1_2 (a0 a1 a2 : Value) (ha0 : a0.oneCell' = true) (ha1 : a1.oneCell' = true) (ha2 : a2.oneCell' = true) : ∀ w, (Instr.build 32 #[(0, a0), (1, a1), (2, a2)]).run Try.prog w = .ok (.agg #[a0, a1, a2]) w := by
  have ea0 : a0.cells = #[a0] := cells_one ha0
  have ea1 : a1.cells = #[a1] := cells_one ha1
  have ea2 : a2.cells = #[a2] := cells_one ha2
  intro w; simp [Instr.build, Instr.fill, cells_agg, Try.runUnderlying32, Try.zeroValue32, Try.sizeOf30, ea0, ea1, ea2]

set_option maxRecDepth 100000 in
theorem rmirror_ok (R : MachR) (M : MachD) (Q : CurR) (C : CurD) (w : World) (hM : IsM w R M) (hC : IsC w Q C) (hf : Fit2 M C) : Calls Try.prog 11 #[(.agg (machCells R M)), Q.v] w (fun e w' => ∃ (R' : MachR) (Q' : CurR), e = .returned (.tuple #[.agg (machCells R' (mirM M)), Q'.v, .int .i64 0]) ∧ NewMT w.heap.size w' R' (mirM M) ∧ NewCT w.heap.size w' Q' (mirC M.grid C) ∧ (R'.la = R.la ∧ R'.lb = R.lb ∧ R'.lc = R.lc ∧ R'.ld = R.ld) ∧ (Q'.la = Q.la ∧ Q'.lb = Q.lb ∧ Q'.lc = Q.lc) ∧ Below w.heap.size w w') := by
  have hs0 := sound_of hf.check
  have hcf := cells_fine hs0.grid
  have hlo := limits_ok hf.check
  have e1 := hM.coils.1
  have e2 := hM.shells.1
  have e3 := hM.limits.1
  have e4 := hM.sensors.1
  have f1 := hs0.coils.1
  have f2 := hs0.shells.1
  have f3 := hlo.1
  have f4 := hs0.sensors.1
  have c1 := hC.coils.1
  have c2 := hC.shells.1
  have c3 := hC.plasma.1
  have d1 := hf.coils.1
  have d2 := hf.shells.1
  have d3 := hf.plasma.1
  have hz1 : ∀ x ∈ M.coils, -60 ≤ x.z ∧ x.z ≤ 60 := fun x hx => (hs0.coils.2 x hx).2.2
  have hz2 : ∀ x ∈ M.shells, -60 ≤ x.z ∧ x.z ≤ 60 := fun x hx => (hs0.shells.2 x hx).2
  have hz3 : ∀ x ∈ M.limits, -60 ≤ x.z ∧ x.z ≤ 60 := fun x hx => (hlo.2 x hx).2
  have hz4 : ∀ x ∈ M.sensors, -60 ≤ x.z ∧ x.z ≤ 60 := fun x hx => (hs0.sensors.2 x hx).2.1.2
  have hgd := hs0.grid
  have gz0 := hgd.z0
  have gz1 := hgd.z1
  have gk0 := hgd.k0
  have gk1 := hgd.k1
  have gs0 := hgd.s0
  have gs1 := hgd.s1
  have hst0 : 0 ≤ (M.grid.nz - 1) * M.grid.step := Int.mul_nonneg (by omega) (by omega)
  have hst1 : (M.grid.nz - 1) * M.grid.step ≤ 7 * 10 := Int.mul_le_mul (by omega) gs1 (by omega) (by omega)
  refine calls_ax (vs := [(.agg (machCells R M)), Q.v]) Try.func11 rfl rfl ?_
  refine ac_seq ?_
  refine ac_region ?_
  refine al_new (fun b => .pointer (some ⟨b, 0, none⟩)) (r_box rfl rfl) rfl rfl rfl ?_
  intro b1
  refine al_new (fun b => .pointer (some ⟨b, 0, none⟩)) (r_box rfl rfl) rfl rfl rfl ?_
  intro b2
  refine al_new (fun b => .pointer (some ⟨b, 0, none⟩)) (r_alloc Try.zeroValue29 rfl) rfl rfl rfl ?_
  intro b3
  refine al_new (fun b => .pointer (some ⟨b, 0, none⟩)) (r_alloc Try.zeroValue32 rfl) rfl rfl rfl ?_
  intro b4
  refine al_q (q_assign rfl) rfl rfl rfl ?_
  refine al_end ?_
  refine aq_then ?_
  refine ac_seq ?_
  refine ac_seq ?_
  refine ac_region ?_
  refine al_q (q_loadAll (i := 3) rfl rfl Try.isAgg29 Try.sizeOf29 rfl) rfl rfl rfl ?_
  refine al_q (q_loadAll (i := 2) rfl rfl Try.isAgg32 Try.sizeOf32 rfl) rfl rfl rfl ?_
  refine al_call Try.call24 (.cons rfl (.cons rfl .nil)) rfl rfl (fun w1 hs1 => ?_)
  refine (rvalid2_any R M Q C _ (hM.below hs1.below) (hC.below hs1.below)).mono ?_
  rintro e u1 ⟨rfl, hb_1⟩
  refine ⟨_, rfl, hb_1, ?_⟩
  clear hs1
  refine al_q (q_not rfl) rfl rfl rfl ?_
  refine al_end ?_
  refine aq_then ?_
  refine ac_cond rfl (fun h1 => ?_) (fun h1 => ?_)
  · simp [fit2_iff.2 hf] at h1
  · refine ac_skip ?_
    refine aq_then ?_
    refine ac_seq ?_
    refine ac_region ?_
    refine al_q (q_fieldAddr 0 rfl Try.runUnderlying29 rfl Try.sizeOf9 (by decide) rfl) rfl rfl rfl ?_
    refine al_q (q_load (i := 3) rfl rfl rfl Try.isAgg9) rfl rfl rfl ?_
    refine al_q (q_fieldAddr 4 rfl Try.runUnderlying29 rfl Try.sizeOf26 (by decide) rfl) rfl rfl rfl ?_
    refine al_q (q_loadSub (i := 3) rfl rfl Try.isAgg26 Try.sizeOf26 .k4 .k5) rfl rfl rfl ?_
    refine al_q (q_build (.cons rfl (.cons rfl .nil)) (rcm_bl_apiMachine_0_4 _ _ _ _ _ _ rfl)) rfl rfl rfl ?_
    refine al_new (fun b => .pointer (some ⟨b, 0, none⟩)) (r_alloc Try.zeroValue29 rfl) rfl rfl rfl ?_
    intro b5
    refine al_storeAll (i := 0) rfl rfl rfl rfl Try.sizeOf29 rfl rfl .k0 rfl ?_
    refine al_end ?_
    refine aq_then ?_
    refine ac_seq ?_
    refine ac_region ?_
    refine al_q (q_fieldAddr 4 rfl Try.runUnderlying29 rfl Try.sizeOf26 (by decide) rfl) rfl rfl rfl ?_
    refine al_q (q_fieldAddr 5 rfl Try.runUnderlying26 rfl Try.sizeOf3 (by decide) rfl) rfl rfl rfl ?_
    refine al_q (q_load (i := 4) rfl rfl rfl Try.isAgg3) rfl rfl rfl ?_
    refine al_q (q_fieldAddr 4 rfl Try.runUnderlying29 rfl Try.sizeOf26 (by decide) rfl) rfl rfl rfl ?_
    refine al_q (q_fieldAddr 7 rfl Try.runUnderlying26 rfl Try.sizeOf3 (by decide) rfl) rfl rfl rfl ?_
    refine al_q (q_load (i := 4) rfl rfl rfl Try.isAgg3) rfl rfl rfl ?_
    refine al_q (q_sub rfl rfl (by omega)) rfl rfl rfl ?_
    refine al_q (q_fieldAddr 4 rfl Try.runUnderlying29 rfl Try.sizeOf26 (by decide) rfl) rfl rfl rfl ?_
    refine al_q (q_fieldAddr 8 rfl Try.runUnderlying26 rfl Try.sizeOf3 (by decide) rfl) rfl rfl rfl ?_
    refine al_q (q_load (i := 4) rfl rfl rfl Try.isAgg3) rfl rfl rfl ?_
    refine al_q (q_mul rfl rfl (by omega)) rfl rfl rfl ?_
    refine al_q (q_add rfl rfl (by omega)) rfl rfl rfl ?_
    refine al_q (q_neg rfl (by omega)) rfl rfl rfl ?_
    refine al_q (q_fieldAddr 4 rfl Try.runUnderlying29 rfl Try.sizeOf26 (by decide) rfl) rfl rfl rfl ?_
    refine al_q (q_fieldAddr 5 rfl Try.runUnderlying26 rfl Try.sizeOf3 (by decide) rfl) rfl rfl rfl ?_
    refine al_store1 (i := 0) rfl rfl rfl rfl Try.sizeOf3 .k5 .k0 rfl ?_
    refine al_end ?_
    refine aq_then ?_
    refine ac_seq ?_
    refine ac_seq ?_
    refine ac_region ?_
    refine al_q (q_assign rfl) rfl rfl rfl ?_
    refine al_end ?_
    refine aq_then ?_
    refine ac_block ?_
    refine ac_loop (β := Nat × Gr × List Value) (fun x1 => x1.1 ≤ R.la ∧ gok x1.2.1 x1.1 8 x1.2.2 ∧ x1.2.2 = ((M.coils.take x1.1).map mirCoil).flatMap CoilD.cells) (fun x1 => [(2, (.pointer (some ⟨b1, 0, none⟩))), (3, (.pointer (some ⟨b2, 0, none⟩))), (4, (.pointer (some ⟨b3, 0, none⟩))), (5, (.pointer (some ⟨b4, 0, none⟩))), (6, (.int .i64 0)), (7, (.pointer (some ⟨b5, 0, none⟩))), (8, (.int .i64 (x1.1 : Int)))]) (fun _ => _) (fun x1 => (b5, .cells [.string M.name, .slice (gA x1.2.1) x1.1 (gC x1.2.1), .slice none 0 0, .slice none 0 0, .int .i64 M.grid.r, .int .i64 (-(M.grid.z + (M.grid.nz - 1) * M.grid.step)), .int .i64 M.grid.nr, .int .i64 M.grid.nz, .int .i64 M.grid.step, .slice none 0 0]) :: (b4, _) :: (b3, _) :: (b2, _) :: (b1, _) :: (gt x1.2.1 x1.2.2 ++ ([]))) (fun x1 => R.la - x1.1) (0, none, []) ⟨by simp, gok.none 8, by simp⟩ ⟨rfl, rfl, rfl, rfl, rfl, rfl, rfl, trivial⟩ (fun w9 hs => hs) (fun x1 hF1 => ?_)
    obtain ⟨hla1, hg1, hcs1⟩ := hF1
    refine ac_seq ?_
    refine ac_seq ?_
    refine ac_region ?_
    refine al_q (q_move rfl) rfl rfl rfl ?_
    refine al_q (q_fieldAddr 1 rfl Try.runUnderlying29 rfl Try.sizeOf22 (by decide) rfl) rfl rfl rfl ?_
    refine al_q (q_load (i := 4) rfl rfl rfl Try.isAgg22) rfl rfl rfl ?_
    refine al_q (q_lenS rfl Try.runUnderlying22) rfl rfl rfl ?_
    refine al_q (q_lss rfl rfl) rfl rfl rfl ?_
    refine al_end ?_
    refine aq_then ?_
    refine ac_cond rfl (fun h2 => ?_) (fun h2 => ?_)
    · have hkl : x1.1 < R.la := by have := of_decide_eq_true h2; omega
      obtain ⟨bm0, om0, hAm0, hltm0, hgm0⟩ := hM.coils.2 (by omega)
      obtain ⟨p, hp⟩ : ∃ p, M.coils[x1.1]? = some p := ⟨_, List.getElem?_eq_getElem (by omega)⟩
      have hpz := hz1 p (List.mem_of_getElem? hp)
      refine ac_skip ?_
      refine aq_then ?_
      refine ac_seq ?_
      refine ac_block ?_
      refine ac_seq ?_
      refine ac_region ?_
      refine al_q (q_fieldAddr 1 rfl Try.runUnderlying29 rfl Try.sizeOf22 (by decide) rfl) rfl rfl rfl ?_
      refine al_q (q_load (i := 4) rfl rfl rfl Try.isAgg22) rfl rfl rfl ?_
      refine al_q (q_move rfl) rfl rfl rfl ?_
      refine al_q (q_indexAddrA (i := x1.1) (om0 + x1.1 * 8 + 0) hAm0 rfl rfl rfl (by omega) Try.runUnderlying22 Try.sizeOf47 rfl) rfl rfl rfl ?_
      refine al_q (q_loadXs (CoilD.cells p) rfl Try.isAgg47 Try.sizeOf47 (fun w9 hs j9 v9 h9 => by rw [addr_add]; exact (hs.below.cell (p := ⟨_, _, none⟩) hltm0).trans ((hgm0 x1.1 p hp) j9 v9 h9)) rfl) rfl rfl rfl ?_
      refine al_new (fun b => .pointer (some ⟨b, 0, none⟩)) (r_alloc Try.zeroValue47 rfl) rfl rfl rfl ?_
      intro b6
      refine al_storeAll (i := 0) rfl rfl rfl rfl Try.sizeOf47 rfl rfl .k0 rfl ?_
      refine al_end ?_
      refine aq_then ?_
      refine ac_seq ?_
      refine ac_region ?_
      refine al_q (q_fieldAddr 2 rfl Try.runUnderlying47 rfl Try.sizeOf3 (by decide) rfl) rfl rfl rfl ?_
      refine al_q (q_load (i := 0) rfl rfl rfl Try.isAgg3) rfl rfl rfl ?_
      refine al_q (q_neg rfl (by omega)) rfl rfl rfl ?_
      refine al_q (q_fieldAddr 2 rfl Try.runUnderlying47 rfl Try.sizeOf3 (by decide) rfl) rfl rfl rfl ?_
      refine al_store1 (i := 0) rfl rfl rfl rfl Try.sizeOf3 .k2 .k0 rfl ?_
      refine al_end ?_
      refine aq_then ?_
      refine ac_region ?_
      refine al_q (q_fieldAddr 1 rfl Try.runUnderlying29 rfl Try.sizeOf22 (by decide) rfl) rfl rfl rfl ?_
      refine al_q (q_load (i := 1) rfl rfl rfl Try.isAgg22) rfl rfl rfl ?_
      refine al_q (q_loadAll (i := 0) rfl rfl Try.isAgg47 Try.sizeOf47 rfl) rfl rfl rfl ?_
      refine al_new (fun b => .slice (some ⟨b, 0, none⟩) 1 1) (r_buildSlice (.cons rfl .nil) (rcm_bs_apiCoil_1_0_ _ _ _ _ _ _ _ _)) rfl rfl rfl ?_
      intro b7
      refine al_grow (z := 8) (bytes := 72) (zv := (.agg #[.string { data := #[] }, .int .i64 0, .int .i64 0, .int .i64 0, .int .i64 0, .int .i64 0, .int .i64 0, .int .i64 0])) (o := x1.2.1) (cs := x1.2.2) (vs := (mirCoil p).cells) rfl rfl (.s (.s (.s (.s (.s (.s (.s (.z)))))))) hg1 (Sor.box (j := 0) rfl rfl rfl) Try.underlying22 (by kernel_rfl) rfl (by omega) (by decide) rfl rfl (fun o_1 g_1 => ?_)
      refine ⟨_, (.s (.s (.s (.s (.s (.s (.s (.z)))))))), ?_⟩
      refine al_q (q_fieldAddr 1 rfl Try.runUnderlying29 rfl Try.sizeOf22 (by decide) rfl) rfl rfl rfl ?_
      refine al_store1 (i := 2) rfl rfl rfl rfl Try.sizeOf22 .k1 .k2 rfl ?_
      refine al_end ?_
      refine aq_inN ?_
      refine aq_then ?_
      refine ac_region ?_
      refine al_q (q_move rfl) rfl rfl rfl ?_
      refine al_q (q_add rfl rfl (by omega)) rfl rfl rfl ?_
      refine al_q (q_assign rfl) rfl rfl rfl ?_
      refine al_end ?_
      refine aq_then ?_
      skip
      refine aq_round ((x1.1 + 1, o_1, x1.2.2 ++ (mirCoil p).cells)) (by simp only; omega) ⟨by simp only; omega, g_1, by simp only; rw [hcs1, take_map_flat M.coils mirCoil CoilD.cells x1.1 p hp]⟩ ⟨rfl, rfl, rfl, rfl, rfl, rfl, rfl, trivial⟩ (fun w9 hs => (hs.tail 2 rfl))
    · have hke1 : x1.1 = R.la := by have := of_decide_eq_false h2; omega
      refine ac_exit ?_
      refine aq_thenE ?_
      refine aq_thenE ?_
      refine aq_hit ?_
      refine aq_then ?_
      refine ac_seq ?_
      refine ac_seq ?_
      refine ac_region ?_
      refine al_q (q_assign rfl) rfl rfl rfl ?_
      refine al_end ?_
      refine aq_then ?_
      refine ac_block ?_
      refine ac_loop (β := Nat × Gr × List Value) (fun x2 => x2.1 ≤ R.lb ∧ gok x2.2.1 x2.1 4 x2.2.2 ∧ x2.2.2 = ((M.shells.take x2.1).map mirShell).flatMap ShellD.cells) (fun x2 => [(2, (.pointer (some ⟨b1, 0, none⟩))), (3, (.pointer (some ⟨b2, 0, none⟩))), (4, (.pointer (some ⟨b3, 0, none⟩))), (5, (.pointer (some ⟨b4, 0, none⟩))), (6, (.int .i64 0)), (7, (.pointer (some ⟨b5, 0, none⟩))), (10, (.int .i64 (x2.1 : Int)))]) (fun _ => _) (fun x2 => (b5, .cells [.string M.name, .slice (gA x1.2.1) x1.1 (gC x1.2.1), .slice (gA x2.2.1) x2.1 (gC x2.2.1), .slice none 0 0, .int .i64 M.grid.r, .int .i64 (-(M.grid.z + (M.grid.nz - 1) * M.grid.step)), .int .i64 M.grid.nr, .int .i64 M.grid.nz, .int .i64 M.grid.step, .slice none 0 0]) :: (b4, _) :: (b3, _) :: (b2, _) :: (b1, _) :: (gt x2.2.1 x2.2.2 ++ (gt x1.2.1 x1.2.2 ++ ([])))) (fun x2 => R.lb - x2.1) (0, none, []) ⟨by simp, gok.none 4, by simp⟩ ⟨rfl, rfl, rfl, rfl, rfl, rfl, rfl, trivial⟩ (fun w9 hs => hs) (fun x2 hF2 => ?_)
      obtain ⟨hla2, hg2, hcs2⟩ := hF2
      refine ac_seq ?_
      refine ac_seq ?_
      refine ac_region ?_
      refine al_q (q_move rfl) rfl rfl rfl ?_
      refine al_q (q_fieldAddr 2 rfl Try.runUnderlying29 rfl Try.sizeOf23 (by decide) rfl) rfl rfl rfl ?_
      refine al_q (q_load (i := 4) rfl rfl rfl Try.isAgg23) rfl rfl rfl ?_
      refine al_q (q_lenS rfl Try.runUnderlying23) rfl rfl rfl ?_
      refine al_q (q_lss rfl rfl) rfl rfl rfl ?_
      refine al_end ?_
      refine aq_then ?_
      refine ac_cond rfl (fun h3 => ?_) (fun h3 => ?_)
      · have hkl : x2.1 < R.lb := by have := of_decide_eq_true h3; omega
        obtain ⟨bm1, om1, hAm1, hltm1, hgm1⟩ := hM.shells.2 (by omega)
        obtain ⟨p, hp⟩ : ∃ p, M.shells[x2.1]? = some p := ⟨_, List.getElem?_eq_getElem (by omega)⟩
        have hpz := hz2 p (List.mem_of_getElem? hp)
        refine ac_skip ?_
        refine aq_then ?_
        refine ac_seq ?_
        refine ac_block ?_
        refine ac_seq ?_
        refine ac_region ?_
        refine al_q (q_fieldAddr 2 rfl Try.runUnderlying29 rfl Try.sizeOf23 (by decide) rfl) rfl rfl rfl ?_
        refine al_q (q_load (i := 4) rfl rfl rfl Try.isAgg23) rfl rfl rfl ?_
        refine al_q (q_move rfl) rfl rfl rfl ?_
        refine al_q (q_indexAddrA (i := x2.1) (om1 + x2.1 * 4 + 0) hAm1 rfl rfl rfl (by omega) Try.runUnderlying23 Try.sizeOf70 rfl) rfl rfl rfl ?_
        refine al_q (q_loadXs (ShellD.cells p) rfl Try.isAgg70 Try.sizeOf70 (fun w9 hs j9 v9 h9 => by rw [addr_add]; exact (hs.below.cell (p := ⟨_, _, none⟩) hltm1).trans ((hgm1 x2.1 p hp) j9 v9 h9)) rfl) rfl rfl rfl ?_
        refine al_new (fun b => .pointer (some ⟨b, 0, none⟩)) (r_alloc Try.zeroValue70 rfl) rfl rfl rfl ?_
        intro b8
        refine al_storeAll (i := 0) rfl rfl rfl rfl Try.sizeOf70 rfl rfl .k0 rfl ?_
        refine al_end ?_
        refine aq_then ?_
        refine ac_seq ?_
        refine ac_region ?_
        refine al_q (q_fieldAddr 1 rfl Try.runUnderlying70 rfl Try.sizeOf3 (by decide) rfl) rfl rfl rfl ?_
        refine al_q (q_load (i := 0) rfl rfl rfl Try.isAgg3) rfl rfl rfl ?_
        refine al_q (q_neg rfl (by omega)) rfl rfl rfl ?_
        refine al_q (q_fieldAddr 1 rfl Try.runUnderlying70 rfl Try.sizeOf3 (by decide) rfl) rfl rfl rfl ?_
        refine al_store1 (i := 0) rfl rfl rfl rfl Try.sizeOf3 .k1 .k0 rfl ?_
        refine al_end ?_
        refine aq_then ?_
        refine aq_keepL [2, 3, 4, 5, 6, 7, 10, 11, 63, 64, 65, 66, 67, 70, 71, 72, 73, 74, 75, 76, 77, 78] (.cons rfl (.cons rfl (.cons rfl (.cons rfl (.cons rfl (.cons rfl (.cons rfl (.cons rfl (.cons rfl (.cons rfl (.cons rfl (.cons rfl (.cons rfl (.cons rfl (.cons rfl (.cons rfl (.cons rfl (.cons rfl (.cons rfl (.cons rfl (.cons rfl (.cons rfl .nil)))))))))))))))))))))) ?_
        refine ac_region ?_
        refine al_q (q_fieldAddr 2 rfl Try.runUnderlying29 rfl Try.sizeOf23 (by decide) rfl) rfl rfl rfl ?_
        refine al_q (q_load (i := 1) rfl rfl rfl Try.isAgg23) rfl rfl rfl ?_
        refine al_q (q_loadAll (i := 0) rfl rfl Try.isAgg70 Try.sizeOf70 rfl) rfl rfl rfl ?_
        refine al_new (fun b => .slice (some ⟨b, 0, none⟩) 1 1) (r_buildSlice (.cons rfl .nil) (rcm_bs_apiShell_1_0_ _ _ _ _)) rfl rfl rfl ?_
        intro b9
        refine al_grow (z := 4) (bytes := 32) (zv := (.agg #[.int .i64 0, .int .i64 0, .int .i64 0, .int .i64 0])) (o := x2.2.1) (cs := x2.2.2) (vs := (mirShell p).cells) rfl rfl (.s (.s (.s (.s (.s (.s (.s (.z)))))))) hg2 (Sor.box (j := 0) rfl rfl rfl) Try.underlying23 (by kernel_rfl) rfl (by omega) (by decide) rfl rfl (fun o_2 g_2 => ?_)
        refine ⟨_, (.s (.s (.s (.s (.s (.s (.s (.z)))))))), ?_⟩
        refine al_q (q_fieldAddr 2 rfl Try.runUnderlying29 rfl Try.sizeOf23 (by decide) rfl) rfl rfl rfl ?_
        refine al_store1 (i := 2) rfl rfl rfl rfl Try.sizeOf23 .k2 .k2 rfl ?_
        refine al_end ?_
        refine aq_inN ?_
        refine aq_then ?_
        refine ac_region ?_
        refine al_q (q_move rfl) rfl rfl rfl ?_
        refine al_q (q_add rfl rfl (by omega)) rfl rfl rfl ?_
        refine al_q (q_assign rfl) rfl rfl rfl ?_
        refine al_end ?_
        refine aq_then ?_
        skip
        refine aq_round ((x2.1 + 1, o_2, x2.2.2 ++ (mirShell p).cells)) (by simp only; omega) ⟨by simp only; omega, g_2, by simp only; rw [hcs2, take_map_flat M.shells mirShell ShellD.cells x2.1 p hp]⟩ ⟨rfl, rfl, rfl, rfl, rfl, rfl, rfl, trivial⟩ (fun w9 hs => (hs.tail 2 rfl))
      · have hke2 : x2.1 = R.lb := by have := of_decide_eq_false h3; omega
        refine ac_exit ?_
        refine aq_thenE ?_
        refine aq_thenE ?_
        refine aq_hit ?_
        refine aq_then ?_
        refine ac_seq ?_
        refine ac_seq ?_
        refine ac_region ?_
        refine al_q (q_assign rfl) rfl rfl rfl ?_
        refine al_end ?_
        refine aq_then ?_
        refine ac_block ?_
        refine ac_loop (β := Nat × Gr × List Value) (fun x3 => x3.1 ≤ R.lc ∧ gok x3.2.1 x3.1 2 x3.2.2 ∧ x3.2.2 = ((M.limits.take x3.1).map mirPoint).flatMap PointD.cells) (fun x3 => [(2, (.pointer (some ⟨b1, 0, none⟩))), (3, (.pointer (some ⟨b2, 0, none⟩))), (4, (.pointer (some ⟨b3, 0, none⟩))), (5, (.pointer (some ⟨b4, 0, none⟩))), (6, (.int .i64 0)), (7, (.pointer (some ⟨b5, 0, none⟩))), (12, (.int .i64 (x3.1 : Int)))]) (fun _ => _) (fun x3 => (b5, .cells [.string M.name, .slice (gA x1.2.1) x1.1 (gC x1.2.1), .slice (gA x2.2.1) x2.1 (gC x2.2.1), .slice (gA x3.2.1) x3.1 (gC x3.2.1), .int .i64 M.grid.r, .int .i64 (-(M.grid.z + (M.grid.nz - 1) * M.grid.step)), .int .i64 M.grid.nr, .int .i64 M.grid.nz, .int .i64 M.grid.step, .slice none 0 0]) :: (b4, _) :: (b3, _) :: (b2, _) :: (b1, _) :: (gt x3.2.1 x3.2.2 ++ (gt x2.2.1 x2.2.2 ++ (gt x1.2.1 x1.2.2 ++ ([]))))) (fun x3 => R.lc - x3.1) (0, none, []) ⟨by simp, gok.none 2, by simp⟩ ⟨rfl, rfl, rfl, rfl, rfl, rfl, rfl, trivial⟩ (fun w9 hs => hs) (fun x3 hF3 => ?_)
        obtain ⟨hla3, hg3, hcs3⟩ := hF3
        refine ac_seq ?_
        refine ac_seq ?_
        refine ac_region ?_
        refine al_q (q_move rfl) rfl rfl rfl ?_
        refine al_q (q_fieldAddr 3 rfl Try.runUnderlying29 rfl Try.sizeOf24 (by decide) rfl) rfl rfl rfl ?_
        refine al_q (q_load (i := 4) rfl rfl rfl Try.isAgg24) rfl rfl rfl ?_
        refine al_q (q_lenS rfl Try.runUnderlying24) rfl rfl rfl ?_
        refine al_q (q_lss rfl rfl) rfl rfl rfl ?_
        refine al_end ?_
        refine aq_then ?_
        refine ac_cond rfl (fun h4 => ?_) (fun h4 => ?_)
        · have hkl : x3.1 < R.lc := by have := of_decide_eq_true h4; omega
          obtain ⟨bm2, om2, hAm2, hltm2, hgm2⟩ := hM.limits.2 (by omega)
          obtain ⟨p, hp⟩ : ∃ p, M.limits[x3.1]? = some p := ⟨_, List.getElem?_eq_getElem (by omega)⟩
          have hpz := hz3 p (List.mem_of_getElem? hp)
          refine ac_skip ?_
          refine aq_then ?_
          refine ac_seq ?_
          refine ac_block ?_
          refine ac_drawF 19 (.s (.s (.s (.s (.s .z))))) (by kernel_rfl) (by kernel_rfl) ?_
          refine ah_take 0 (fun w9 hs => (hs.front (.s (.s (.s (.s (.s (.z)))))))) rfl rfl rfl (by kernel_rfl) (by kernel_rfl) (by kernel_rfl) (fun _ _ _ h => h) rfl (q_fieldAddr 3 rfl Try.runUnderlying29 rfl Try.sizeOf24 (by decide) rfl) ?_
          refine ah_take 1 (fun w9 hs => (hs.front (.s (.s (.s (.s (.s (.z)))))))) rfl rfl rfl (by kernel_rfl) (by kernel_rfl) (by kernel_rfl) (fun _ _ _ h => h) rfl (q_load (i := 0) rfl rfl rfl Try.isAgg24) ?_
          refine ah_take 2 (fun w9 hs => (hs.front (.s (.s (.s (.s (.s (.z)))))))) rfl rfl rfl (by kernel_rfl) (by kernel_rfl) (by kernel_rfl) (fun _ _ _ h => h) rfl (q_fieldAddr 3 rfl Try.runUnderlying29 rfl Try.sizeOf24 (by decide) rfl) ?_
          refine ah_take 3 (fun w9 hs => (hs.front (.s (.s (.s (.s (.s (.z)))))))) rfl rfl rfl (by kernel_rfl) (by kernel_rfl) (by kernel_rfl) (fun _ _ _ h => h) rfl (q_load (i := 4) rfl rfl rfl Try.isAgg24) ?_
          refine ah_take 4 (fun w9 hs => (hs.front (.s (.s (.s (.s (.s (.z)))))))) rfl rfl rfl (by kernel_rfl) (by kernel_rfl) (by kernel_rfl) (fun _ _ _ h => h) rfl (q_move rfl) ?_
          refine ah_take 5 (fun w9 hs => (hs.front (.s (.s (.s (.s (.s (.z)))))))) rfl rfl rfl (by kernel_rfl) (by kernel_rfl) (by kernel_rfl) (fun _ _ _ h => h) rfl (q_indexAddrA (i := x3.1) (om2 + x3.1 * 2 + 0) hAm2 rfl rfl rfl (by omega) Try.runUnderlying24 Try.sizeOf72 rfl) ?_
          refine ah_take 6 (fun w9 hs => (hs.front (.s (.s (.s (.s (.s (.z)))))))) rfl rfl rfl (by kernel_rfl) (by kernel_rfl) (by kernel_rfl) (fun _ _ _ h => h) rfl (q_fieldAddr (om2 + x3.1 * 2 + 0) rfl Try.runUnderlying72 rfl Try.sizeOf3 (by decide) rfl) ?_
          refine ah_take 7 (fun w9 hs => (hs.front (.s (.s (.s (.s (.s (.z)))))))) rfl rfl rfl (by kernel_rfl) (by kernel_rfl) (by kernel_rfl) (fun _ _ _ h => h) rfl (q_loadX rfl Try.isAgg3 (fun w9 hs => (hs.below.cell (p := ⟨_, _, none⟩) hltm2).trans ((hgm2 x3.1 p hp) 0 _ rfl))) ?_
          refine ah_take 8 (fun w9 hs => (hs.front (.s (.s (.s (.s (.s (.z)))))))) rfl rfl rfl (by kernel_rfl) (by kernel_rfl) (by kernel_rfl) (fun _ _ _ h => h) rfl (q_fieldAddr 3 rfl Try.runUnderlying29 rfl Try.sizeOf24 (by decide) rfl) ?_
          refine ah_take 9 (fun w9 hs => (hs.front (.s (.s (.s (.s (.s (.z)))))))) rfl rfl rfl (by kernel_rfl) (by kernel_rfl) (by kernel_rfl) (fun _ _ _ h => h) rfl (q_load (i := 4) rfl rfl rfl Try.isAgg24) ?_
          refine ah_take 10 (fun w9 hs => (hs.front (.s (.s (.s (.s (.s (.z)))))))) rfl rfl rfl (by kernel_rfl) (by kernel_rfl) (by kernel_rfl) (fun _ _ _ h => h) rfl (q_move rfl) ?_
          refine ah_take 11 (fun w9 hs => (hs.front (.s (.s (.s (.s (.s (.z)))))))) rfl rfl rfl (by kernel_rfl) (by kernel_rfl) (by kernel_rfl) (fun _ _ _ h => h) rfl (q_indexAddrA (i := x3.1) (om2 + x3.1 * 2 + 0) hAm2 rfl rfl rfl (by omega) Try.runUnderlying24 Try.sizeOf72 rfl) ?_
          refine ah_take 12 (fun w9 hs => (hs.front (.s (.s (.s (.s (.s (.z)))))))) rfl rfl rfl (by kernel_rfl) (by kernel_rfl) (by kernel_rfl) (fun _ _ _ h => h) rfl (q_fieldAddr (om2 + x3.1 * 2 + 1) rfl Try.runUnderlying72 rfl Try.sizeOf3 (by decide) rfl) ?_
          refine ah_take 13 (fun w9 hs => (hs.front (.s (.s (.s (.s (.s (.z)))))))) rfl rfl rfl (by kernel_rfl) (by kernel_rfl) (by kernel_rfl) (fun _ _ _ h => h) rfl (q_loadX rfl Try.isAgg3 (fun w9 hs => (hs.below.cell (p := ⟨_, _, none⟩) hltm2).trans ((hgm2 x3.1 p hp) 1 _ rfl))) ?_
          refine ah_take 14 (fun w9 hs => (hs.front (.s (.s (.s (.s (.s (.z)))))))) rfl rfl rfl (by kernel_rfl) (by kernel_rfl) (by kernel_rfl) (fun _ _ _ h => h) rfl (q_neg rfl (by omega)) ?_
          refine ah_take 15 (fun w9 hs => (hs.front (.s (.s (.s (.s (.s (.z)))))))) rfl rfl rfl (by kernel_rfl) (by kernel_rfl) (by kernel_rfl) (fun _ _ _ h => h) rfl (q_build (.cons rfl (.cons rfl .nil)) (rcm_bl_apiPoint_0_1 _ _ rfl rfl)) ?_
          refine ah_one 16 rfl (by kernel_rfl) (fun hok1 hcl1 => ?_)
          refine al_new (fun b => .slice (some ⟨b, 0, none⟩) 1 1) (r_buildSlice (.cons rfl .nil) (rcm_bs_apiPoint_1_0_ _ _)) rfl rfl rfl ?_
          intro b10
          refine al_end (ah_back hok1 hcl1 (fun w9 hs => ((hs.tail 1 rfl).front (.s (.s (.s (.s (.s (.z)))))))) ?_)
          refine ah_one 17 rfl (by kernel_rfl) (fun hok2 hcl2 => ?_)
          refine al_grow (z := 2) (bytes := 16) (zv := (.agg #[.int .i64 0, .int .i64 0])) (o := x3.2.1) (cs := x3.2.2) (vs := (mirPoint p).cells) rfl rfl (.s (.s (.s (.s (.s (.s (.z))))))) hg3 (Sor.box (j := 0) rfl rfl rfl) Try.underlying24 (by kernel_rfl) rfl (by omega) (by decide) rfl rfl (fun o_3 g_3 => ?_)
          refine ⟨_, (.s (.s (.s (.s (.s (.s (.z))))))), ?_⟩
          refine al_end (ah_back hok2 hcl2 (fun w9 hs => ((hs.tail 1 rfl).front (.s (.s (.s (.s (.s (.z)))))))) ?_)
          refine ah_take 18 (fun w9 hs => ((hs.tail 1 rfl).front (.s (.s (.s (.s (.s (.z)))))))) rfl rfl rfl (by kernel_rfl) (by kernel_rfl) (by kernel_rfl) (fun _ _ _ h => h) rfl (q_fieldAddr 3 rfl Try.runUnderlying29 rfl Try.sizeOf24 (by decide) rfl) ?_
          refine ah_one 19 rfl (by kernel_rfl) (fun hok3 hcl3 => ?_)
          refine al_store1 (i := 1) rfl rfl rfl rfl Try.sizeOf24 .k3 .k1 rfl ?_
          refine al_end (ah_last (by kernel_rfl) ?_)
          refine aq_inN ?_
          refine aq_then ?_
          refine ac_region ?_
          refine al_q (q_move rfl) rfl rfl rfl ?_
          refine al_q (q_add rfl rfl (by omega)) rfl rfl rfl ?_
          refine al_q (q_assign rfl) rfl rfl rfl ?_
          refine al_end ?_
          refine aq_then ?_
          skip
          refine aq_round ((x3.1 + 1, o_3, x3.2.2 ++ (mirPoint p).cells)) (by simp only; omega) ⟨by simp only; omega, g_3, by simp only; rw [hcs3, take_map_flat M.limits mirPoint PointD.cells x3.1 p hp]⟩ ⟨rfl, rfl, rfl, rfl, rfl, rfl, rfl, trivial⟩ (fun w9 hs => (hs.tail 1 rfl))
        · have hke3 : x3.1 = R.lc := by have := of_decide_eq_false h4; omega
          refine ac_exit ?_
          refine aq_thenE ?_
          refine aq_thenE ?_
          refine aq_hit ?_
          refine aq_then ?_
          refine ac_seq ?_
          refine ac_seq ?_
          refine ac_region ?_
          refine al_q (q_assign rfl) rfl rfl rfl ?_
          refine al_end ?_
          refine aq_then ?_
          refine ac_block ?_
          refine ac_loop (β := Nat × Gr × List Value) (fun x4 => x4.1 ≤ R.ld ∧ gok x4.2.1 x4.1 5 x4.2.2 ∧ x4.2.2 = ((M.sensors.take x4.1).map mirSensor).flatMap SensorD.cells) (fun x4 => [(2, (.pointer (some ⟨b1, 0, none⟩))), (3, (.pointer (some ⟨b2, 0, none⟩))), (4, (.pointer (some ⟨b3, 0, none⟩))), (5, (.pointer (some ⟨b4, 0, none⟩))), (6, (.int .i64 0)), (7, (.pointer (some ⟨b5, 0, none⟩))), (13, (.int .i64 (x4.1 : Int)))]) (fun _ => _) (fun x4 => (b5, .cells [.string M.name, .slice (gA x1.2.1) x1.1 (gC x1.2.1), .slice (gA x2.2.1) x2.1 (gC x2.2.1), .slice (gA x3.2.1) x3.1 (gC x3.2.1), .int .i64 M.grid.r, .int .i64 (-(M.grid.z + (M.grid.nz - 1) * M.grid.step)), .int .i64 M.grid.nr, .int .i64 M.grid.nz, .int .i64 M.grid.step, .slice (gA x4.2.1) x4.1 (gC x4.2.1)]) :: (b4, _) :: (b3, _) :: (b2, _) :: (b1, _) :: (gt x4.2.1 x4.2.2 ++ (gt x3.2.1 x3.2.2 ++ (gt x2.2.1 x2.2.2 ++ (gt x1.2.1 x1.2.2 ++ ([])))))) (fun x4 => R.ld - x4.1) (0, none, []) ⟨by simp, gok.none 5, by simp⟩ ⟨rfl, rfl, rfl, rfl, rfl, rfl, rfl, trivial⟩ (fun w9 hs => hs) (fun x4 hF4 => ?_)
          obtain ⟨hla4, hg4, hcs4⟩ := hF4
          refine ac_seq ?_
          refine ac_seq ?_
          refine ac_region ?_
          refine al_q (q_move rfl) rfl rfl rfl ?_
          refine al_q (q_fieldAddr 9 rfl Try.runUnderlying29 rfl Try.sizeOf27 (by decide) rfl) rfl rfl rfl ?_
          refine al_q (q_load (i := 4) rfl rfl rfl Try.isAgg27) rfl rfl rfl ?_
          refine al_q (q_lenS rfl Try.runUnderlying27) rfl rfl rfl ?_
          refine al_q (q_lss rfl rfl) rfl rfl rfl ?_
          refine al_end ?_
          refine aq_then ?_
          refine ac_cond rfl (fun h5 => ?_) (fun h5 => ?_)
          · have hkl : x4.1 < R.ld := by have := of_decide_eq_true h5; omega
            obtain ⟨bm3, om3, hAm3, hltm3, hgm3⟩ := hM.sensors.2 (by omega)
            obtain ⟨p, hp⟩ : ∃ p, M.sensors[x4.1]? = some p := ⟨_, List.getElem?_eq_getElem (by omega)⟩
            have hpz := hz4 p (List.mem_of_getElem? hp)
            refine ac_skip ?_
            refine aq_then ?_
            refine ac_seq ?_
            refine ac_block ?_
            refine ac_seq ?_
            refine ac_region ?_
            refine al_q (q_fieldAddr 9 rfl Try.runUnderlying29 rfl Try.sizeOf27 (by decide) rfl) rfl rfl rfl ?_
            refine al_q (q_load (i := 4) rfl rfl rfl Try.isAgg27) rfl rfl rfl ?_
            refine al_q (q_move rfl) rfl rfl rfl ?_
            refine al_q (q_indexAddrA (i := x4.1) (om3 + x4.1 * 5 + 0) hAm3 rfl rfl rfl (by omega) Try.runUnderlying27 Try.sizeOf74 rfl) rfl rfl rfl ?_
            refine al_q (q_loadXs (SensorD.cells p) rfl Try.isAgg74 Try.sizeOf74 (fun w9 hs j9 v9 h9 => by rw [addr_add]; exact (hs.below.cell (p := ⟨_, _, none⟩) hltm3).trans ((hgm3 x4.1 p hp) j9 v9 h9)) rfl) rfl rfl rfl ?_
            refine al_new (fun b => .pointer (some ⟨b, 0, none⟩)) (r_alloc Try.zeroValue74 rfl) rfl rfl rfl ?_
            intro b11
            refine al_storeAll (i := 0) rfl rfl rfl rfl Try.sizeOf74 rfl rfl .k0 rfl ?_
            refine al_end ?_
            refine aq_then ?_
            refine ac_seq ?_
            refine ac_region ?_
            refine al_q (q_fieldAddr 3 rfl Try.runUnderlying74 rfl Try.sizeOf3 (by decide) rfl) rfl rfl rfl ?_
            refine al_q (q_load (i := 0) rfl rfl rfl Try.isAgg3) rfl rfl rfl ?_
            refine al_q (q_neg rfl (by omega)) rfl rfl rfl ?_
            refine al_q (q_fieldAddr 3 rfl Try.runUnderlying74 rfl Try.sizeOf3 (by decide) rfl) rfl rfl rfl ?_
            refine al_store1 (i := 0) rfl rfl rfl rfl Try.sizeOf3 .k3 .k0 rfl ?_
            refine al_end ?_
            refine aq_then ?_
            refine ac_region ?_
            refine al_q (q_fieldAddr 9 rfl Try.runUnderlying29 rfl Try.sizeOf27 (by decide) rfl) rfl rfl rfl ?_
            refine al_q (q_load (i := 1) rfl rfl rfl Try.isAgg27) rfl rfl rfl ?_
            refine al_q (q_loadAll (i := 0) rfl rfl Try.isAgg74 Try.sizeOf74 rfl) rfl rfl rfl ?_
            refine al_new (fun b => .slice (some ⟨b, 0, none⟩) 1 1) (r_buildSlice (.cons rfl .nil) (rcm_bs_apiSensor_1_0_ _ _ _ _ _)) rfl rfl rfl ?_
            intro b12
            refine al_grow (z := 5) (bytes := 48) (zv := (.agg #[.string { data := #[] }, .int .i64 0, .int .i64 0, .int .i64 0, .int .i64 0])) (o := x4.2.1) (cs := x4.2.2) (vs := (mirSensor p).cells) rfl rfl (.s (.s (.s (.s (.s (.s (.s (.z)))))))) hg4 (Sor.box (j := 0) rfl rfl rfl) Try.underlying27 (by kernel_rfl) rfl (by omega) (by decide) rfl rfl (fun o_4 g_4 => ?_)
            refine ⟨_, (.s (.s (.s (.s (.s (.s (.s (.z)))))))), ?_⟩
            refine al_q (q_fieldAddr 9 rfl Try.runUnderlying29 rfl Try.sizeOf27 (by decide) rfl) rfl rfl rfl ?_
            refine al_store1 (i := 2) rfl rfl rfl rfl Try.sizeOf27 .k9 .k2 rfl ?_
            refine al_end ?_
            refine aq_inN ?_
            refine aq_then ?_
            refine ac_region ?_
            refine al_q (q_move rfl) rfl rfl rfl ?_
            refine al_q (q_add rfl rfl (by omega)) rfl rfl rfl ?_
            refine al_q (q_assign rfl) rfl rfl rfl ?_
            refine al_end ?_
            refine aq_then ?_
            skip
            refine aq_round ((x4.1 + 1, o_4, x4.2.2 ++ (mirSensor p).cells)) (by simp only; omega) ⟨by simp only; omega, g_4, by simp only; rw [hcs4, take_map_flat M.sensors mirSensor SensorD.cells x4.1 p hp]⟩ ⟨rfl, rfl, rfl, rfl, rfl, rfl, rfl, trivial⟩ (fun w9 hs => (hs.tail 2 rfl))
          · have hke4 : x4.1 = R.ld := by have := of_decide_eq_false h5; omega
            refine ac_exit ?_
            refine aq_thenE ?_
            refine aq_thenE ?_
            refine aq_hit ?_
            refine aq_then ?_
            refine ac_seq ?_
            refine aq_rot3 ?_
            refine ac_drawK 2 17 rfl (by kernel_rfl) (by kernel_rfl) ?_
            refine ah_take 0 (fun w9 hs => (hs.tail 2 rfl)) rfl rfl rfl (by kernel_rfl) (by kernel_rfl) (by kernel_rfl) (fun _ _ _ h => h) rfl (q_loadAll (i := 0) rfl rfl Try.isAgg29 Try.sizeOf29 rfl) ?_
            refine ah_take 2 (fun w9 hs => (hs.tail 2 rfl)) rfl rfl rfl (by kernel_rfl) (by kernel_rfl) (by kernel_rfl) (fun _ _ _ h => h) rfl (q_fieldAddr 0 rfl Try.runUnderlying32 rfl Try.sizeOf30 (by decide) rfl) ?_
            refine ah_take 3 (fun w9 hs => (hs.tail 2 rfl)) rfl rfl rfl (by kernel_rfl) (by kernel_rfl) (by kernel_rfl) (fun _ _ _ h => h) rfl (q_load (i := 1) rfl rfl rfl Try.isAgg30) ?_
            refine ah_take 6 (fun w9 hs => (hs.tail 2 rfl)) rfl rfl rfl (by kernel_rfl) (by kernel_rfl) (by kernel_rfl) (fun _ _ _ h => h) rfl (q_fieldAddr 1 rfl Try.runUnderlying32 rfl Try.sizeOf30 (by decide) rfl) ?_
            refine ah_take 7 (fun w9 hs => (hs.tail 2 rfl)) rfl rfl rfl (by kernel_rfl) (by kernel_rfl) (by kernel_rfl) (fun _ _ _ h => h) rfl (q_load (i := 1) rfl rfl rfl Try.isAgg30) ?_
            refine ah_take 9 (fun w9 hs => (hs.tail 2 rfl)) rfl rfl rfl (by kernel_rfl) (by kernel_rfl) (by kernel_rfl) (fun _ _ _ h => h) rfl (q_fieldAddr 4 rfl Try.runUnderlying29 rfl Try.sizeOf26 (by decide) rfl) ?_
            refine ah_take 10 (fun w9 hs => (hs.tail 2 rfl)) rfl rfl rfl (by kernel_rfl) (by kernel_rfl) (by kernel_rfl) (fun _ _ _ h => h) rfl (q_loadSub (i := 2) rfl rfl Try.isAgg26 Try.sizeOf26 .k4 .k5) ?_
            refine ah_take 11 (fun w9 hs => (hs.tail 2 rfl)) rfl rfl rfl (by kernel_rfl) (by kernel_rfl) (by kernel_rfl) (fun _ _ _ h => h) rfl (q_fieldAddr 2 rfl Try.runUnderlying32 rfl Try.sizeOf30 (by decide) rfl) ?_
            refine ah_take 12 (fun w9 hs => (hs.tail 2 rfl)) rfl rfl rfl (by kernel_rfl) (by kernel_rfl) (by kernel_rfl) (fun _ _ _ h => h) rfl (q_load (i := 1) rfl rfl rfl Try.isAgg30) ?_
            refine ah_two 1 5 rfl rfl  (by kernel_rfl) (fun hok4 hcl4 => ?_) (fun hok4 hcl4 => ?_)
            · refine al_new (fun b => .slice (some ⟨b, 0, none⟩) 0 0) (r_buildSlice .nil (rcm_bs_int_0_)) rfl rfl rfl ?_
              intro b13
              refine al_end (ah_back hok4 hcl4 (fun w9 hs => (hs.tail 3 rfl)) ?_)
              refine ah_two 4 5 rfl rfl  (by kernel_rfl) (fun hok5 hcl5 => ?_) (fun hok5 hcl5 => ?_)
              · refine al_appendS (i := 0) (z := 1) (bytes := 8) (zv := (.int .i64 0)) (xs := []) (sp := []) (vs := (C.coils.flatMap intCells)) rfl rfl (by simp) (by simp) (by omega) (by omega) rfl (Sor.list (enc := intCells) (zs := C.coils) (fun _ => rfl) (fun _ => rfl) hC.coils.1 (fun w9 hs => hC.coils.below hs.below)) Try.underlying30 (by kernel_rfl) rfl (by omega) (by decide) rfl rfl (fun b14 c_b14 sp_b14 hc_b14 hk_b14 hl_b14 => ?_)
                refine ⟨_, .k0, ?_⟩
                refine al_end (ah_back hok5 hcl5 (fun w9 hs => (hs.tail 3 rfl)) ?_)
                refine ah_one 5 rfl (by kernel_rfl) (fun hok6 hcl6 => ?_)
                refine al_new (fun b => .slice (some ⟨b, 0, none⟩) 0 0) (r_buildSlice .nil (rcm_bs_int_0_)) rfl rfl rfl ?_
                intro b15
                refine al_end (ah_back hok6 hcl6 (fun w9 hs => (hs.tail 4 rfl)) ?_)
                refine ah_one 8 rfl (by kernel_rfl) (fun hok7 hcl7 => ?_)
                refine al_appendS (i := 0) (z := 1) (bytes := 8) (zv := (.int .i64 0)) (xs := []) (sp := []) (vs := (C.shells.flatMap intCells)) rfl rfl (by simp) (by simp) (by omega) (by omega) rfl (Sor.list (enc := intCells) (zs := C.shells) (fun _ => rfl) (fun _ => rfl) hC.shells.1 (fun w9 hs => hC.shells.below hs.below)) Try.underlying30 (by kernel_rfl) rfl (by omega) (by decide) rfl rfl (fun b16 c_b16 sp_b16 hc_b16 hk_b16 hl_b16 => ?_)
                refine ⟨_, .k0, ?_⟩
                refine al_end (ah_back hok7 hcl7 (fun w9 hs => (hs.tail 4 rfl)) ?_)
                refine ah_one 13 rfl (by kernel_rfl) (fun hok8 hcl8 => ?_)
                refine al_call Try.call13 (.cons rfl (.cons rfl .nil)) rfl rfl (fun w2 hs2 => ?_)
                refine (rturned_any M.grid Q.C Q.lc Q.cc C.plasma _ (hC.plasma.below hs2.below) hs0.grid hf.plasma.1).mono ?_
                rintro e u2 ⟨A3, c3, rfl, N3, hb_2⟩
                refine ⟨_, rfl, hb_2, ?_⟩
                clear hs2
                refine al_end (ah_back hok8 hcl8 (fun w9 hs => ((hs.fewer 1 rfl).tail 4 rfl)) ?_)
                refine ah_take 14 (fun w9 hs => ((hs.fewer 1 rfl).tail 4 rfl)) rfl rfl rfl (by kernel_rfl) (by kernel_rfl) (by kernel_rfl) (fun _ _ _ h => h) rfl (q_build (.cons rfl (.cons rfl (.cons rfl .nil))) (rcm_bl_apiCurrents_0_1_2 _ _ _ rfl rfl rfl)) ?_
                refine ah_one 15 rfl (by kernel_rfl) (fun hok9 hcl9 => ?_)
                refine al_storeAll (i := 3) rfl rfl rfl rfl Try.sizeOf29 rfl rfl .k3 rfl ?_
                refine al_end (ah_back hok9 hcl9 (fun w9 hs => ((hs.fewer 1 rfl).tail 4 rfl)) ?_)
                refine ah_one 16 rfl (by kernel_rfl) (fun hok10 hcl10 => ?_)
                refine al_storeAll (i := 2) rfl rfl rfl rfl Try.sizeOf32 rfl rfl .k2 rfl ?_
                refine al_end (ah_back hok10 hcl10 (fun w9 hs => ((hs.fewer 1 rfl).tail 4 rfl)) ?_)
                refine ah_one 17 rfl (by kernel_rfl) (fun hok11 hcl11 => ?_)
                refine al_q (q_assign rfl) rfl rfl rfl ?_
                refine al_end (ah_last (by kernel_rfl) ?_)
                refine aq_then ?_
                refine aq_keepL [4, 5, 6] (.cons rfl (.cons rfl (.cons rfl .nil))) ?_
                refine ac_ret ?_
                refine retR Try.results11 (.agg (i := 3) rfl rfl Try.isAgg29 Try.sizeOf29 rfl (.agg (i := 2) rfl rfl Try.isAgg32 Try.sizeOf32 rfl (.tmp rfl .nil))) .two (fun w9 hs => ?_)
                exact ⟨⟨gA x1.2.1, gA x2.2.1, gA x3.2.1, gA x4.2.1, x1.1, gC x1.2.1, x2.1, gC x2.2.1, x3.1, gC x3.2.1, x4.1, gC x4.2.1⟩, ⟨some ⟨b14, 0, none⟩, some ⟨b16, 0, none⟩, A3, 0 + Q.la, c_b14, 0 + Q.lb, c_b16, Q.lc, c3⟩, rfl, ⟨hs.grown (enc := CoilD.cells) (o := x1.2.1) (cs := x1.2.2) (zs := M.coils.map mirCoil) (fun _ => rfl) (fun y hy => by simp [hy]) hg1 (by rw [hcs1, List.take_of_length_le (by omega)]) (by rw [List.length_map]; show _ = x1.1; omega), hs.grown (enc := ShellD.cells) (o := x2.2.1) (cs := x2.2.2) (zs := M.shells.map mirShell) (fun _ => rfl) (fun y hy => by simp [hy]) hg2 (by rw [hcs2, List.take_of_length_le (by omega)]) (by rw [List.length_map]; show _ = x2.1; omega), hs.grown (enc := PointD.cells) (o := x3.2.1) (cs := x3.2.2) (zs := M.limits.map mirPoint) (fun _ => rfl) (fun y hy => by simp [hy]) hg3 (by rw [hcs3, List.take_of_length_le (by omega)]) (by rw [List.length_map]; show _ = x3.1; omega), hs.grown (enc := SensorD.cells) (o := x4.2.1) (cs := x4.2.2) (zs := M.sensors.map mirSensor) (fun _ => rfl) (fun y hy => by simp [hy]) hg4 (by rw [hcs4, List.take_of_length_le (by omega)]) (by rw [List.length_map]; show _ = x4.1; omega)⟩, ⟨⟨isT_box (n := 1) (enc := intCells) (zs := C.coils) (fun _ => rfl) (hs.at 1 rfl) (by simp) (by simp only; omega), fun b off e => hs.new 1 rfl b off e, by simp only; omega, hk_b14⟩, ⟨isT_box (n := 1) (enc := intCells) (zs := C.shells) (fun _ => rfl) (hs.at 0 rfl) (by simp) (by simp only; omega), fun b off e => hs.new 0 rfl b off e, by simp only; omega, hk_b16⟩, hs.newT2 (.head _) N3⟩, ⟨hke1, hke2, hke3, hke4⟩, ⟨Nat.zero_add _, Nat.zero_add _, rfl⟩, hs.below⟩
              · refine al_new (fun b => .slice (some ⟨b, 0, none⟩) 0 0) (r_buildSlice .nil (rcm_bs_int_0_)) rfl rfl rfl ?_
                intro b17
                refine al_end (ah_back hok5 hcl5 (fun w9 hs => (hs.tail 4 rfl)) ?_)
                refine ah_one 4 rfl (by kernel_rfl) (fun hok12 hcl12 => ?_)
                refine al_appendS (i := 1) (z := 1) (bytes := 8) (zv := (.int .i64 0)) (xs := []) (sp := []) (vs := (C.coils.flatMap intCells)) rfl rfl (by simp) (by simp) (by omega) (by omega) rfl (Sor.list (enc := intCells) (zs := C.coils) (fun _ => rfl) (fun _ => rfl) hC.coils.1 (fun w9 hs => hC.coils.below hs.below)) Try.underlying30 (by kernel_rfl) rfl (by omega) (by decide) rfl rfl (fun b18 c_b18 sp_b18 hc_b18 hk_b18 hl_b18 => ?_)
                refine ⟨_, .k1, ?_⟩
                refine al_end (ah_back hok12 hcl12 (fun w9 hs => (hs.tail 4 rfl)) ?_)
                refine ah_one 8 rfl (by kernel_rfl) (fun hok13 hcl13 => ?_)
                refine al_appendS (i := 0) (z := 1) (bytes := 8) (zv := (.int .i64 0)) (xs := []) (sp := []) (vs := (C.shells.flatMap intCells)) rfl rfl (by simp) (by simp) (by omega) (by omega) rfl (Sor.list (enc := intCells) (zs := C.shells) (fun _ => rfl) (fun _ => rfl) hC.shells.1 (fun w9 hs => hC.shells.below hs.below)) Try.underlying30 (by kernel_rfl) rfl (by omega) (by decide) rfl rfl (fun b19 c_b19 sp_b19 hc_b19 hk_b19 hl_b19 => ?_)
                refine ⟨_, .k0, ?_⟩
                refine al_end (ah_back hok13 hcl13 (fun w9 hs => (hs.tail 4 rfl)) ?_)
                refine ah_one 13 rfl (by kernel_rfl) (fun hok14 hcl14 => ?_)
                refine al_call Try.call13 (.cons rfl (.cons rfl .nil)) rfl rfl (fun w3 hs3 => ?_)
                refine (rturned_any M.grid Q.C Q.lc Q.cc C.plasma _ (hC.plasma.below hs3.below) hs0.grid hf.plasma.1).mono ?_
                rintro e u3 ⟨A3, c3, rfl, N3, hb_3⟩
                refine ⟨_, rfl, hb_3, ?_⟩
                clear hs3
                refine al_end (ah_back hok14 hcl14 (fun w9 hs => ((hs.fewer 1 rfl).tail 4 rfl)) ?_)
                refine ah_take 14 (fun w9 hs => ((hs.fewer 1 rfl).tail 4 rfl)) rfl rfl rfl (by kernel_rfl) (by kernel_rfl) (by kernel_rfl) (fun _ _ _ h => h) rfl (q_build (.cons rfl (.cons rfl (.cons rfl .nil))) (rcm_bl_apiCurrents_0_1_2 _ _ _ rfl rfl rfl)) ?_
                refine ah_one 15 rfl (by kernel_rfl) (fun hok15 hcl15 => ?_)
                refine al_storeAll (i := 3) rfl rfl rfl rfl Try.sizeOf29 rfl rfl .k3 rfl ?_
                refine al_end (ah_back hok15 hcl15 (fun w9 hs => ((hs.fewer 1 rfl).tail 4 rfl)) ?_)
                refine ah_one 16 rfl (by kernel_rfl) (fun hok16 hcl16 => ?_)
                refine al_storeAll (i := 2) rfl rfl rfl rfl Try.sizeOf32 rfl rfl .k2 rfl ?_
                refine al_end (ah_back hok16 hcl16 (fun w9 hs => ((hs.fewer 1 rfl).tail 4 rfl)) ?_)
                refine ah_one 17 rfl (by kernel_rfl) (fun hok17 hcl17 => ?_)
                refine al_q (q_assign rfl) rfl rfl rfl ?_
                refine al_end (ah_last (by kernel_rfl) ?_)
                refine aq_then ?_
                refine ac_ret ?_
                refine retR Try.results11 (.agg (i := 3) rfl rfl Try.isAgg29 Try.sizeOf29 rfl (.agg (i := 2) rfl rfl Try.isAgg32 Try.sizeOf32 rfl (.tmp rfl .nil))) .two (fun w9 hs => ?_)
                exact ⟨⟨gA x1.2.1, gA x2.2.1, gA x3.2.1, gA x4.2.1, x1.1, gC x1.2.1, x2.1, gC x2.2.1, x3.1, gC x3.2.1, x4.1, gC x4.2.1⟩, ⟨some ⟨b18, 0, none⟩, some ⟨b19, 0, none⟩, A3, 0 + Q.la, c_b18, 0 + Q.lb, c_b19, Q.lc, c3⟩, rfl, ⟨hs.grown (enc := CoilD.cells) (o := x1.2.1) (cs := x1.2.2) (zs := M.coils.map mirCoil) (fun _ => rfl) (fun y hy => by simp [hy]) hg1 (by rw [hcs1, List.take_of_length_le (by omega)]) (by rw [List.length_map]; show _ = x1.1; omega), hs.grown (enc := ShellD.cells) (o := x2.2.1) (cs := x2.2.2) (zs := M.shells.map mirShell) (fun _ => rfl) (fun y hy => by simp [hy]) hg2 (by rw [hcs2, List.take_of_length_le (by omega)]) (by rw [List.length_map]; show _ = x2.1; omega), hs.grown (enc := PointD.cells) (o := x3.2.1) (cs := x3.2.2) (zs := M.limits.map mirPoint) (fun _ => rfl) (fun y hy => by simp [hy]) hg3 (by rw [hcs3, List.take_of_length_le (by omega)]) (by rw [List.length_map]; show _ = x3.1; omega), hs.grown (enc := SensorD.cells) (o := x4.2.1) (cs := x4.2.2) (zs := M.sensors.map mirSensor) (fun _ => rfl) (fun y hy => by simp [hy]) hg4 (by rw [hcs4, List.take_of_length_le (by omega)]) (by rw [List.length_map]; show _ = x4.1; omega)⟩, ⟨⟨isT_box (n := 1) (enc := intCells) (zs := C.coils) (fun _ => rfl) (hs.at 1 rfl) (by simp) (by simp only; omega), fun b off e => hs.new 1 rfl b off e, by simp only; omega, hk_b18⟩, ⟨isT_box (n := 1) (enc := intCells) (zs := C.shells) (fun _ => rfl) (hs.at 0 rfl) (by simp) (by simp only; omega), fun b off e => hs.new 0 rfl b off e, by simp only; omega, hk_b19⟩, hs.newT2 (.head _) N3⟩, ⟨hke1, hke2, hke3, hke4⟩, ⟨Nat.zero_add _, Nat.zero_add _, rfl⟩, hs.below⟩
            · refine al_new (fun b => .slice (some ⟨b, 0, none⟩) 0 0) (r_buildSlice .nil (rcm_bs_int_0_)) rfl rfl rfl ?_
              intro b20
              refine al_end (ah_back hok4 hcl4 (fun w9 hs => (hs.tail 3 rfl)) ?_)
              refine ah_one 1 rfl (by kernel_rfl) (fun hok18 hcl18 => ?_)
              refine al_new (fun b => .slice (some ⟨b, 0, none⟩) 0 0) (r_buildSlice .nil (rcm_bs_int_0_)) rfl rfl rfl ?_
              intro b21
              refine al_end (ah_back hok18 hcl18 (fun w9 hs => (hs.tail 4 rfl)) ?_)
              refine ah_one 4 rfl (by kernel_rfl) (fun hok19 hcl19 => ?_)
              refine al_appendS (i := 0) (z := 1) (bytes := 8) (zv := (.int .i64 0)) (xs := []) (sp := []) (vs := (C.coils.flatMap intCells)) rfl rfl (by simp) (by simp) (by omega) (by omega) rfl (Sor.list (enc := intCells) (zs := C.coils) (fun _ => rfl) (fun _ => rfl) hC.coils.1 (fun w9 hs => hC.coils.below hs.below)) Try.underlying30 (by kernel_rfl) rfl (by omega) (by decide) rfl rfl (fun b22 c_b22 sp_b22 hc_b22 hk_b22 hl_b22 => ?_)
              refine ⟨_, .k0, ?_⟩
              refine al_end (ah_back hok19 hcl19 (fun w9 hs => (hs.tail 4 rfl)) ?_)
              refine ah_one 8 rfl (by kernel_rfl) (fun hok20 hcl20 => ?_)
              refine al_appendS (i := 1) (z := 1) (bytes := 8) (zv := (.int .i64 0)) (xs := []) (sp := []) (vs := (C.shells.flatMap intCells)) rfl rfl (by simp) (by simp) (by omega) (by omega) rfl (Sor.list (enc := intCells) (zs := C.shells) (fun _ => rfl) (fun _ => rfl) hC.shells.1 (fun w9 hs => hC.shells.below hs.below)) Try.underlying30 (by kernel_rfl) rfl (by omega) (by decide) rfl rfl (fun b23 c_b23 sp_b23 hc_b23 hk_b23 hl_b23 => ?_)
              refine ⟨_, .k1, ?_⟩
              refine al_end (ah_back hok20 hcl20 (fun w9 hs => (hs.tail 4 rfl)) ?_)
              refine ah_one 13 rfl (by kernel_rfl) (fun hok21 hcl21 => ?_)
              refine al_call Try.call13 (.cons rfl (.cons rfl .nil)) rfl rfl (fun w4 hs4 => ?_)
              refine (rturned_any M.grid Q.C Q.lc Q.cc C.plasma _ (hC.plasma.below hs4.below) hs0.grid hf.plasma.1).mono ?_
              rintro e u4 ⟨A3, c3, rfl, N3, hb_4⟩
              refine ⟨_, rfl, hb_4, ?_⟩
              clear hs4
              refine al_end (ah_back hok21 hcl21 (fun w9 hs => ((hs.fewer 1 rfl).tail 4 rfl)) ?_)
              refine ah_take 14 (fun w9 hs => ((hs.fewer 1 rfl).tail 4 rfl)) rfl rfl rfl (by kernel_rfl) (by kernel_rfl) (by kernel_rfl) (fun _ _ _ h => h) rfl (q_build (.cons rfl (.cons rfl (.cons rfl .nil))) (rcm_bl_apiCurrents_0_1_2 _ _ _ rfl rfl rfl)) ?_
              refine ah_one 15 rfl (by kernel_rfl) (fun hok22 hcl22 => ?_)
              refine al_storeAll (i := 3) rfl rfl rfl rfl Try.sizeOf29 rfl rfl .k3 rfl ?_
              refine al_end (ah_back hok22 hcl22 (fun w9 hs => ((hs.fewer 1 rfl).tail 4 rfl)) ?_)
              refine ah_one 16 rfl (by kernel_rfl) (fun hok23 hcl23 => ?_)
              refine al_storeAll (i := 2) rfl rfl rfl rfl Try.sizeOf32 rfl rfl .k2 rfl ?_
              refine al_end (ah_back hok23 hcl23 (fun w9 hs => ((hs.fewer 1 rfl).tail 4 rfl)) ?_)
              refine ah_one 17 rfl (by kernel_rfl) (fun hok24 hcl24 => ?_)
              refine al_q (q_assign rfl) rfl rfl rfl ?_
              refine al_end (ah_last (by kernel_rfl) ?_)
              refine aq_then ?_
              refine ac_ret ?_
              refine retR Try.results11 (.agg (i := 3) rfl rfl Try.isAgg29 Try.sizeOf29 rfl (.agg (i := 2) rfl rfl Try.isAgg32 Try.sizeOf32 rfl (.tmp rfl .nil))) .two (fun w9 hs => ?_)
              exact ⟨⟨gA x1.2.1, gA x2.2.1, gA x3.2.1, gA x4.2.1, x1.1, gC x1.2.1, x2.1, gC x2.2.1, x3.1, gC x3.2.1, x4.1, gC x4.2.1⟩, ⟨some ⟨b22, 0, none⟩, some ⟨b23, 0, none⟩, A3, 0 + Q.la, c_b22, 0 + Q.lb, c_b23, Q.lc, c3⟩, rfl, ⟨hs.grown (enc := CoilD.cells) (o := x1.2.1) (cs := x1.2.2) (zs := M.coils.map mirCoil) (fun _ => rfl) (fun y hy => by simp [hy]) hg1 (by rw [hcs1, List.take_of_length_le (by omega)]) (by rw [List.length_map]; show _ = x1.1; omega), hs.grown (enc := ShellD.cells) (o := x2.2.1) (cs := x2.2.2) (zs := M.shells.map mirShell) (fun _ => rfl) (fun y hy => by simp [hy]) hg2 (by rw [hcs2, List.take_of_length_le (by omega)]) (by rw [List.length_map]; show _ = x2.1; omega), hs.grown (enc := PointD.cells) (o := x3.2.1) (cs := x3.2.2) (zs := M.limits.map mirPoint) (fun _ => rfl) (fun y hy => by simp [hy]) hg3 (by rw [hcs3, List.take_of_length_le (by omega)]) (by rw [List.length_map]; show _ = x3.1; omega), hs.grown (enc := SensorD.cells) (o := x4.2.1) (cs := x4.2.2) (zs := M.sensors.map mirSensor) (fun _ => rfl) (fun y hy => by simp [hy]) hg4 (by rw [hcs4, List.take_of_length_le (by omega)]) (by rw [List.length_map]; show _ = x4.1; omega)⟩, ⟨⟨isT_box (n := 1) (enc := intCells) (zs := C.coils) (fun _ => rfl) (hs.at 0 rfl) (by simp) (by simp only; omega), fun b off e => hs.new 0 rfl b off e, by simp only; omega, hk_b22⟩, ⟨isT_box (n := 1) (enc := intCells) (zs := C.shells) (fun _ => rfl) (hs.at 1 rfl) (by simp) (by simp only; omega), fun b off e => hs.new 1 rfl b off e, by simp only; omega, hk_b23⟩, hs.newT2 (.head _) N3⟩, ⟨hke1, hke2, hke3, hke4⟩, ⟨Nat.zero_add _, Nat.zero_add _, rfl⟩, hs.below⟩

end Go.Proofs.Ytkhahbnagbjbiaa
end
