import Derived.Test.YtjjajleiladbhaaGreatDoorLAD
import Derived.Test.YtjjajleiladbhaaGreatDoorLAH
import Derived.Test.YtjjajleiladbhaaGreatDoorLAN
import Derived.Test.YtjjajleiladbhaaGreatDoorLAP
import Derived.Test.YtjjajleiladbhaaGreatDoorRows
import Derived.KernelRfl
import Derived.Laws.StructEq
import Derived.ProofKit
import Derived.OpenShut
import Derived.Lib.SmallJoins
import Derived.Deep.Slices
import Derived.Carry
section
/- Package machine: Parse on the example of layer 2, over this seat's translation (written by ax_parse1.py). -/
namespace Go.Proofs.YtjjajleiladbhaaGreatDoor
set_option linter.unusedVariables false
set_option linter.unusedSimpArgs false
open Go.RowKit

theorem check_ex (R : MachR) (w : World) (hM : IsM w R exM) : Calls Tryz.prog 17 #[.agg (machCells R exM)] w (Ret (.int .i64 0) w) := by
  have h := check_any R exM w hM
  rwa [show checkC exM = 0 from by kernel_rfl] at h

set_option maxRecDepth 100000 in
theorem parse1_any (v : Value) (w : World) : CallsD Tryz.prog 98 #[v] .returning w (fun e u' w' => u' = .returning ∧ ∃ x, e = .returned x ∧ Below w.heap.size w w') := by
  refine callsD_ax (R := fun e w' => ∃ x, e = .returned x ∧ Below w.heap.size w w') (vs := [v]) Tryz.func98 rfl (fun _ _ => rfl) rfl rfl rfl rfl ?_
  refine ac_block ?_
  refine ac_seq ?_
  refine ac_region ?_
  refine al_q (q_assertNil rfl Tryz.zeroValue115 Tryz.runUnderlying115) rfl rfl rfl ?_
  refine al_q (q_extract rfl rfl) rfl rfl rfl ?_
  refine al_q (q_extract rfl rfl) rfl rfl rfl ?_
  refine al_end ?_
  refine aq_then ?_
  refine ac_condF rfl ?_
  refine ac_skip ?_
  refine aq_inN ?_
  refine retRN Tryz.results98 .nil .zero (fun w9 hs => ?_)
  exact ⟨_, rfl, hs.below⟩

set_option maxRecDepth 100000 in
theorem parse_ex (w : World) (hE : Env w) : Calls Tryz.prog 73 #[(.string ⟨#[109, 97, 99, 104, 105, 110, 101, 32, 97, 10, 99, 111, 105, 108, 32, 99, 32, 48, 32, 48, 32, 50, 32, 49, 48, 32, 53, 32, 49, 48, 48, 48, 32, 49, 10, 108, 105, 109, 105, 116, 32, 57, 32, 57, 10, 103, 114, 105, 100, 32, 51, 32, 52, 32, 49, 32, 49, 32, 49, 10]⟩)] w (fun e w' => ∃ R, e = .returned (.tuple #[.agg (machCells R exM), .int .i64 0, .int .i64 0]) ∧ IsM w' R exM ∧ NewM w R ∧ Below w.heap.size w w') := by
  refine calls_axD (vs := [(.string ⟨#[109, 97, 99, 104, 105, 110, 101, 32, 97, 10, 99, 111, 105, 108, 32, 99, 32, 48, 32, 48, 32, 50, 32, 49, 48, 32, 53, 32, 49, 48, 48, 48, 32, 49, 10, 108, 105, 109, 105, 116, 32, 57, 32, 57, 10, 103, 114, 105, 100, 32, 51, 32, 52, 32, 49, 32, 49, 32, 49, 10]⟩)]) Tryz.func73 rfl rfl ?_
  refine ac_seq ?_
  refine ac_region ?_
  refine al_new (fun b => .pointer (some ⟨b, 0, none⟩)) (r_alloc Tryz.zeroValue29 rfl) rfl rfl rfl ?_
  intro b1
  refine al_new (fun b => .pointer (some ⟨b, 0, none⟩)) (r_alloc Tryz.zeroValue3 rfl) rfl rfl rfl ?_
  intro b2
  refine al_q (q_assign rfl) rfl rfl rfl ?_
  refine al_end ?_
  refine aq_then ?_
  refine ac_seq ?_
  refine ac_seq ?_
  refine ac_region ?_
  refine al_q (q_move rfl) rfl rfl rfl ?_
  refine al_q (q_same (v' := .int .i64 60) (q_lenT rfl Tryz.runUnderlying9) rfl) rfl rfl rfl ?_
  refine al_q (q_same (v' := .bool false) (q_gtr rfl rfl) rfl) rfl rfl rfl ?_
  refine al_end ?_
  refine aq_then ?_
  refine ac_condF rfl ?_
  refine ac_skip ?_
  refine aq_then ?_
  refine ac_seq ?_
  refine ac_region ?_
  refine al_q (q_assign rfl) rfl rfl rfl ?_
  refine al_end ?_
  refine aq_then ?_
  refine ac_seq ?_
  refine ac_region ?_
  refine al_q (q_makeFunc _ _ .nil (.cons rfl .nil)) rfl rfl rfl ?_
  refine al_defer (fi := []) (ca := [(.pointer (some ⟨b2, 0, none⟩))]) rfl .nil rfl ?_
  refine al_end ?_
  refine aq_then ?_
  refine ac_seq ?_
  refine ac_region ?_
  refine al_q (q_move rfl) rfl rfl rfl ?_
  refine al_call Tryz.call99 (.cons rfl .nil) rfl rfl (fun w1 hs1 => ?_)
  refine (readText_ex _ (hE.below hs1.below)).mono ?_
  rintro e u1 ⟨R, rfl, hM, hN, hb_1⟩
  have hz := hs1.chg.size
  refine ⟨_, rfl, hb_1, ?_⟩
  clear hs1
  refine al_new (fun b => .pointer (some ⟨b, 0, none⟩)) (r_alloc Tryz.zeroValue29 rfl) rfl rfl rfl ?_
  intro b3
  refine al_storeAll (i := 0) rfl rfl rfl rfl Tryz.sizeOf29 rfl rfl .k0 rfl ?_
  refine al_end ?_
  refine aq_then ?_
  refine ac_seq ?_
  refine ac_seq ?_
  refine ac_region ?_
  refine al_q (q_loadAll (i := 0) rfl rfl Tryz.isAgg29 Tryz.sizeOf29 rfl) rfl rfl rfl ?_
  refine al_call Tryz.call17 (.cons rfl .nil) rfl rfl (fun w2 hs2 => ?_)
  refine (check_ex R _ (hs2.isM (.head _) hM hN)).mono ?_
  rintro e u2 ⟨rfl, hb_2⟩
  refine ⟨_, rfl, hb_2, ?_⟩
  clear hs2
  refine al_q (q_assign rfl) rfl rfl rfl ?_
  refine al_end ?_
  refine aq_then ?_
  refine ac_seq ?_
  refine ac_region ?_
  refine al_q (q_move rfl) rfl rfl rfl ?_
  refine al_q (q_same (v' := .bool true) (q_eql rfl rfl) rfl) rfl rfl rfl ?_
  refine al_end ?_
  refine aq_then ?_
  refine ac_condT rfl ?_
  refine ac_region ?_
  refine al_q (q_loadAll (i := 0) rfl rfl Tryz.isAgg29 Tryz.sizeOf29 rfl) rfl rfl rfl ?_
  refine al_storeAll (i := 2) rfl rfl rfl rfl Tryz.sizeOf29 rfl rfl .k2 rfl ?_
  refine al_end ?_
  refine aq_then ?_
  refine ac_seq ?_
  refine ac_region ?_
  refine al_q (q_loadAll (i := 2) rfl rfl Tryz.isAgg29 Tryz.sizeOf29 rfl) rfl rfl rfl ?_
  refine al_q (q_move rfl) rfl rfl rfl ?_
  refine al_storeAll (i := 2) rfl rfl rfl rfl Tryz.sizeOf29 rfl rfl .k2 rfl ?_
  refine al_store1 (i := 1) rfl rfl rfl rfl Tryz.sizeOf3 .k0 .k1 rfl ?_
  refine al_q (q_assign rfl) rfl rfl rfl ?_
  refine al_end ?_
  refine aq_then ?_
  refine ac_ret ?_
  refine retD Tryz.results73 (.agg (i := 2) rfl rfl Tryz.isAgg29 Tryz.sizeOf29 rfl (.cell (i := 1) rfl rfl rfl Tryz.isAgg3 (.tmp rfl .nil))) .two (fun w9 => Tryz.call98 _ w9) (fun w9 => parse1_any _ w9) (fun w9 hs => ?_)
  exact ⟨R, rfl, hs.isM (.tail _ (.head _)) hM hN, hN.mono hz, hs.below⟩

end Go.Proofs.YtjjajleiladbhaaGreatDoor
end
section
/- Layer 2: awake, over this seat's translation (written by ax_aw2.py). -/
namespace Go.Proofs.YtjjajleiladbhaaGreatDoor
set_option linter.unusedVariables false
set_option linter.unusedSimpArgs false
open Go.RowKit

def exC : CurD := ⟨[10], [], [0]⟩
theorem quiet_ex (R : MachR) (w : World) (hM : IsM w R exM) : Calls Tryz.prog 36 #[.agg (machCells R exM)] w (fun e w' => ∃ b1 b2 b3, e = .returned (.agg #[.slice (some ⟨b1, 0, none⟩) 1 1, .slice (some ⟨b2, 0, none⟩) 0 0, .slice (some ⟨b3, 0, none⟩) 1 1]) ∧ Own w [(b1, .cells [.int .i64 0]), (b2, .cells []), (b3, .cells [.int .i64 0])] w') := by
  have h := quiet_ok R exM w hM (by kernel_rfl)
  have h1 : 1 = R.la := hM.coils.1
  have h2 : 0 = R.lb := hM.shells.1
  rw [← h1, ← h2] at h
  exact h
theorem flux_ex (R : MachR) (Q : CurR) (w : World) (hM : IsM w R exM) (hC : IsC w Q exC) : Calls Tryz.prog 42 #[.agg (machCells R exM), Q.v, .agg #[.int .i64 3, .int .i64 4]] w (Ret (.tuple #[.int .i64 689640, .int .i64 0]) w) := by
  have h := flux_any R exM Q exC 3 4 w hM hC
  rwa [show fluxE exM exC 3 4 = (689640, 0) from by kernel_rfl] at h
theorem infl_ex (w : World) : Calls Tryz.prog 30 #[.agg #[.int .i64 0, .int .i64 0], .agg #[.int .i64 3, .int .i64 4]] w (Ret (.int .i64 34482) w) := by
  have h := influence_any 0 0 3 4 w
  rwa [show infl 0 0 3 4 = 34482 from by kernel_rfl] at h

theorem awk2_bl_apiPoint_0_1 (a0 a1 : Value) (ha0 : a0.oneCell' = true) (ha1 : a1.oneCell' = true) : ∀ w, (Instr.build 40 #[(0, a0), (1, a1)]).run Tryz.prog w = .ok (.agg #[a0, a1]) w := by
  have ea0 : a0.cells = #[a0] := cells_one ha0
  have ea1 : a1.cells = #[a1] := cells_one ha1
  intro w; simp [Instr.build, Instr.fill, cells_agg, Tryz.runUnderlying40, Tryz.zeroValue40, Tryz.sizeOf3, ea0, ea1]

theorem awk2_bl_apiPoint_ : ∀ w, (Instr.build 40 #[]).run Tryz.prog w = .ok (.agg #[(.int .i64 0), (.int .i64 0)]) w := by
  intro w; simp [Instr.build, Instr.fill, cells_agg, Tryz.runUnderlying40, Tryz.zeroValue40, Tryz.sizeOf3]

set_option maxRecDepth 100000 in
theorem awake2_any (w : World) (hE : Env w) : Calls Tryz.prog 19 #[] w (Ret (.bool true) w) := by
  refine calls_ax (vs := []) Tryz.func19 rfl rfl ?_
  refine ac_seq ?_
  refine ac_region ?_
  refine al_q (q_assign rfl) rfl rfl rfl ?_
  refine al_end ?_
  refine aq_then ?_
  refine ac_seq ?_
  refine ac_region ?_
  refine al_call Tryz.call73 (.cons rfl .nil) rfl rfl (fun w1 hs1 => ?_)
  refine (parse_ex _ (hE.below hs1.below)).mono ?_
  rintro e u1 ⟨R, rfl, hM, hN, hb_1⟩
  refine ⟨_, rfl, hb_1, ?_⟩
  clear hs1
  refine al_q (q_move rfl) rfl rfl rfl ?_
  refine al_q (q_extract rfl rfl) rfl rfl rfl ?_
  refine al_q (q_extract rfl rfl) rfl rfl rfl ?_
  refine al_q (q_extract rfl rfl) rfl rfl rfl ?_
  refine al_new (fun b => .pointer (some ⟨b, 0, none⟩)) (r_alloc Tryz.zeroValue29 rfl) rfl rfl rfl ?_
  intro b1
  refine al_storeAll (i := 0) rfl rfl rfl rfl Tryz.sizeOf29 rfl rfl .k0 rfl ?_
  refine al_q (q_assign rfl) rfl rfl rfl ?_
  refine al_q (q_assign rfl) rfl rfl rfl ?_
  refine al_end ?_
  refine aq_then ?_
  refine ac_seq ?_
  refine ac_region ?_
  refine al_q (q_loadAll (i := 0) rfl rfl Tryz.isAgg29 Tryz.sizeOf29 rfl) rfl rfl rfl ?_
  refine al_callS Tryz.call36 (.cons rfl .nil) rfl rfl (fun w2 hs2 => ?_)
  refine (quiet_ex R _ (hs2.isM (.head _) hM hN)).mono ?_
  rintro e u2 ⟨x1, x2, x3, rfl, hb_2⟩
  refine ⟨_, _, _, rfl, hs2.gift hb_2, ?_⟩
  refine al_new (fun b => .pointer (some ⟨b, 0, none⟩)) (r_alloc Tryz.zeroValue34 rfl) rfl rfl rfl ?_
  intro b2
  refine al_storeAll (i := 0) rfl rfl rfl rfl Tryz.sizeOf34 rfl rfl .k0 rfl ?_
  refine al_end ?_
  refine aq_then ?_
  refine ac_seq ?_
  refine ac_seq ?_
  refine ac_region ?_
  refine al_q (q_move rfl) rfl rfl rfl ?_
  refine al_q (q_same (v' := .bool false) (q_neq rfl rfl) rfl) rfl rfl rfl ?_
  refine al_q (q_move rfl) rfl rfl rfl ?_
  refine al_q (q_move rfl) rfl rfl rfl ?_
  refine al_q (q_same (v' := .bool false) (q_neq rfl rfl) rfl) rfl rfl rfl ?_
  refine al_q (q_pickF rfl rfl) rfl rfl rfl ?_
  refine al_q (q_move rfl) rfl rfl rfl ?_
  refine al_q (q_fieldAddr 0 rfl Tryz.runUnderlying34 rfl Tryz.sizeOf32 (by decide) rfl) rfl rfl rfl ?_
  refine al_q (q_load (i := 0) rfl rfl rfl Tryz.isAgg32) rfl rfl rfl ?_
  refine al_q (q_same (v' := .int .i64 1) (q_lenS rfl Tryz.runUnderlying32) rfl) rfl rfl rfl ?_
  refine al_q (q_same (v' := .bool false) (q_neq rfl rfl) rfl) rfl rfl rfl ?_
  refine al_q (q_pickF rfl rfl) rfl rfl rfl ?_
  refine al_end ?_
  refine aq_then ?_
  refine ac_condF rfl ?_
  refine ac_skip ?_
  refine aq_then ?_
  refine ac_seq ?_
  refine ac_region ?_
  refine al_q (q_fieldAddr 0 rfl Tryz.runUnderlying34 rfl Tryz.sizeOf32 (by decide) rfl) rfl rfl rfl ?_
  refine al_q (q_load (i := 0) rfl rfl rfl Tryz.isAgg32) rfl rfl rfl ?_
  refine al_q (q_indexAddr (i := 0) 0 rfl rfl rfl (by decide) Tryz.runUnderlying32 Tryz.sizeOf3 rfl) rfl rfl rfl ?_
  refine al_store1 (i := 1) rfl rfl rfl rfl Tryz.sizeOf3 .k0 .k1 rfl ?_
  refine al_end ?_
  refine aq_then ?_
  refine ac_seq ?_
  refine ac_region ?_
  refine al_q (q_loadAll (i := 4) rfl rfl Tryz.isAgg29 Tryz.sizeOf29 rfl) rfl rfl rfl ?_
  refine al_q (q_loadAll (i := 0) rfl rfl Tryz.isAgg34 Tryz.sizeOf34 rfl) rfl rfl rfl ?_
  refine al_q (q_build (.cons rfl (.cons rfl .nil)) (awk2_bl_apiPoint_0_1 _ _ rfl rfl)) rfl rfl rfl ?_
  refine al_call Tryz.call42 (.cons rfl (.cons rfl (.cons rfl .nil))) rfl rfl (fun w3 hs3 => ?_)
  have hq : IsC w3 ⟨some ⟨x1, 0, none⟩, some ⟨x2, 0, none⟩, some ⟨x3, 0, none⟩, 1, 1, 0, 0, 1, 1⟩ exC :=
    ⟨isT_box0 (n := 1) (enc := intCells) (fun _ => rfl) (hs3.at 1 rfl) rfl rfl, isT_box0 (n := 1) (enc := intCells) (fun _ => rfl) (hs3.at 2 rfl) rfl rfl, isT_box0 (n := 1) (enc := intCells) (fun _ => rfl) (hs3.at 3 rfl) rfl rfl, by simp, by simp, by simp, by simp, by simp, by simp, by simp, by simp, by simp⟩
  refine (flux_ex R _ _ (hs3.isM (.head _) hM hN) hq).mono ?_
  rintro e u3 ⟨rfl, hb_3⟩
  refine ⟨_, rfl, hb_3, ?_⟩
  clear hs3
  refine al_q (q_move rfl) rfl rfl rfl ?_
  refine al_q (q_extract rfl rfl) rfl rfl rfl ?_
  refine al_q (q_extract rfl rfl) rfl rfl rfl ?_
  refine al_q (q_assign rfl) rfl rfl rfl ?_
  refine al_q (q_assign rfl) rfl rfl rfl ?_
  refine al_end ?_
  refine aq_then ?_
  refine ac_seq ?_
  refine ac_region ?_
  refine al_q (q_move rfl) rfl rfl rfl ?_
  refine al_q (q_same (v' := .bool true) (q_eql rfl rfl) rfl) rfl rfl rfl ?_
  refine al_q (q_move rfl) rfl rfl rfl ?_
  refine al_q (q_move rfl) rfl rfl rfl ?_
  refine al_q (q_same (v' := .bool true) (q_eql rfl rfl) rfl) rfl rfl rfl ?_
  refine al_q (q_pickT rfl rfl) rfl rfl rfl ?_
  refine al_q (q_move rfl) rfl rfl rfl ?_
  refine al_q (q_build .nil (awk2_bl_apiPoint_)) rfl rfl rfl ?_
  refine al_q (q_build (.cons rfl (.cons rfl .nil)) (awk2_bl_apiPoint_0_1 _ _ rfl rfl)) rfl rfl rfl ?_
  refine al_call Tryz.call30 (.cons rfl (.cons rfl .nil)) rfl rfl (fun w4 hs4 => ?_)
  refine (infl_ex _).mono ?_
  rintro e u4 ⟨rfl, hb_4⟩
  refine ⟨_, rfl, hb_4, ?_⟩
  clear hs4
  refine al_q (q_same (v' := .bool true) (q_eql rfl rfl) rfl) rfl rfl rfl ?_
  refine al_q (q_pickT rfl rfl) rfl rfl rfl ?_
  refine al_q (q_assign rfl) rfl rfl rfl ?_
  refine al_end ?_
  refine aq_then ?_
  refine ac_ret ?_
  refine ret1 Tryz.results19 rfl (fun w9 hs => ?_)
  exact ⟨rfl, hs.below⟩

end Go.Proofs.YtjjajleiladbhaaGreatDoor
end
section
/- Layer 2: brief, over this seat's translation (written by ax_l2a.py). -/
namespace Go.Proofs.YtjjajleiladbhaaGreatDoor
set_option linter.unusedVariables false
set_option linter.unusedSimpArgs false
open Go.RowKit

def brief2 (R : MachR) (Q : CurR) : Bool := decide (R.la ≤ 40 ∧ R.lb ≤ 40 ∧ R.lc ≤ 40 ∧ R.ld ≤ 60 ∧ Q.la ≤ 100 ∧ Q.lb ≤ 100 ∧ Q.lc ≤ 200)

set_option maxRecDepth 100000 in
theorem brief2_any (R : MachR) (M : MachD) (Q : CurR) (w : World) : Calls Tryz.prog 16 #[(.agg (machCells R M)), Q.v] w (Ret (.bool (brief2 R Q)) w) := by
  refine calls_ax (vs := [(.agg (machCells R M)), Q.v]) Tryz.func16 rfl rfl ?_
  refine ac_seq ?_
  refine ac_region ?_
  refine al_new (fun b => .pointer (some ⟨b, 0, none⟩)) (r_box rfl rfl) rfl rfl rfl ?_
  intro b1
  refine al_new (fun b => .pointer (some ⟨b, 0, none⟩)) (r_box rfl rfl) rfl rfl rfl ?_
  intro b2
  refine al_q (q_assign rfl) rfl rfl rfl ?_
  refine al_end ?_
  refine aq_then ?_
  refine ac_seq ?_
  refine ac_region ?_
  refine al_q (q_fieldAddr 1 rfl Tryz.runUnderlying29 rfl Tryz.sizeOf22 (by decide) rfl) rfl rfl rfl ?_
  refine al_q (q_load (i := 1) rfl rfl rfl Tryz.isAgg22) rfl rfl rfl ?_
  refine al_q (q_lenS rfl Tryz.runUnderlying22) rfl rfl rfl ?_
  refine al_q (q_leq rfl rfl) rfl rfl rfl ?_
  refine al_q (q_move rfl) rfl rfl rfl ?_
  refine aq_split 9 rfl (fun hb1 => ?_) (fun hb1 => ?_)
  · have := of_decide_eq_true hb1
    refine al_q (q_fieldAddr 2 rfl Tryz.runUnderlying29 rfl Tryz.sizeOf23 (by decide) rfl) rfl rfl rfl ?_
    refine al_q (q_load (i := 1) rfl rfl rfl Tryz.isAgg23) rfl rfl rfl ?_
    refine al_q (q_lenS rfl Tryz.runUnderlying23) rfl rfl rfl ?_
    refine al_q (q_leq rfl rfl) rfl rfl rfl ?_
    refine al_q (q_pickT rfl rfl) rfl rfl rfl ?_
    refine al_q (q_move rfl) rfl rfl rfl ?_
    refine aq_split 15 rfl (fun hb2 => ?_) (fun hb2 => ?_)
    · have := of_decide_eq_true hb2
      refine al_q (q_fieldAddr 3 rfl Tryz.runUnderlying29 rfl Tryz.sizeOf24 (by decide) rfl) rfl rfl rfl ?_
      refine al_q (q_load (i := 1) rfl rfl rfl Tryz.isAgg24) rfl rfl rfl ?_
      refine al_q (q_lenS rfl Tryz.runUnderlying24) rfl rfl rfl ?_
      refine al_q (q_leq rfl rfl) rfl rfl rfl ?_
      refine al_q (q_pickT rfl rfl) rfl rfl rfl ?_
      refine al_q (q_move rfl) rfl rfl rfl ?_
      refine aq_split 21 rfl (fun hb3 => ?_) (fun hb3 => ?_)
      · have := of_decide_eq_true hb3
        refine al_q (q_fieldAddr 9 rfl Tryz.runUnderlying29 rfl Tryz.sizeOf27 (by decide) rfl) rfl rfl rfl ?_
        refine al_q (q_load (i := 1) rfl rfl rfl Tryz.isAgg27) rfl rfl rfl ?_
        refine al_q (q_lenS rfl Tryz.runUnderlying27) rfl rfl rfl ?_
        refine al_q (q_leq rfl rfl) rfl rfl rfl ?_
        refine al_q (q_pickT rfl rfl) rfl rfl rfl ?_
        refine al_q (q_move rfl) rfl rfl rfl ?_
        refine aq_split 27 rfl (fun hb4 => ?_) (fun hb4 => ?_)
        · have := of_decide_eq_true hb4
          refine al_q (q_fieldAddr 0 rfl Tryz.runUnderlying34 rfl Tryz.sizeOf32 (by decide) rfl) rfl rfl rfl ?_
          refine al_q (q_load (i := 0) rfl rfl rfl Tryz.isAgg32) rfl rfl rfl ?_
          refine al_q (q_lenS rfl Tryz.runUnderlying32) rfl rfl rfl ?_
          refine al_q (q_leq rfl rfl) rfl rfl rfl ?_
          refine al_q (q_pickT rfl rfl) rfl rfl rfl ?_
          refine al_q (q_move rfl) rfl rfl rfl ?_
          refine aq_split 33 rfl (fun hb5 => ?_) (fun hb5 => ?_)
          · have := of_decide_eq_true hb5
            refine al_q (q_fieldAddr 1 rfl Tryz.runUnderlying34 rfl Tryz.sizeOf32 (by decide) rfl) rfl rfl rfl ?_
            refine al_q (q_load (i := 0) rfl rfl rfl Tryz.isAgg32) rfl rfl rfl ?_
            refine al_q (q_lenS rfl Tryz.runUnderlying32) rfl rfl rfl ?_
            refine al_q (q_leq rfl rfl) rfl rfl rfl ?_
            refine al_q (q_pickT rfl rfl) rfl rfl rfl ?_
            refine al_q (q_move rfl) rfl rfl rfl ?_
            refine aq_split 39 rfl (fun hb6 => ?_) (fun hb6 => ?_)
            · have := of_decide_eq_true hb6
              refine al_q (q_fieldAddr 2 rfl Tryz.runUnderlying34 rfl Tryz.sizeOf32 (by decide) rfl) rfl rfl rfl ?_
              refine al_q (q_load (i := 0) rfl rfl rfl Tryz.isAgg32) rfl rfl rfl ?_
              refine al_q (q_lenS rfl Tryz.runUnderlying32) rfl rfl rfl ?_
              refine al_q (q_leq rfl rfl) rfl rfl rfl ?_
              refine al_q (q_pickT rfl rfl) rfl rfl rfl ?_
              refine al_q (q_assign rfl) rfl rfl rfl ?_
              refine al_end ?_
              refine aq_then ?_
              refine ac_ret ?_
              refine ret1 Tryz.results16 rfl (fun w9 hs => ?_)
              refine ⟨?_, hs.below⟩; congr 2; simp only [brief2]; first | (symm; apply decide_eq_true; omega) | (symm; apply decide_eq_false; omega) | (apply decide_eq_decide.2; omega)
            · have := of_decide_eq_false hb6
              refine al_skip rfl rfl rfl ?_
              refine al_skip rfl rfl rfl ?_
              refine al_skip rfl rfl rfl ?_
              refine al_skip rfl rfl rfl ?_
              refine al_q (q_pickF rfl rfl) rfl rfl rfl ?_
              refine al_q (q_assign rfl) rfl rfl rfl ?_
              refine al_end ?_
              refine aq_then ?_
              refine ac_ret ?_
              refine ret1 Tryz.results16 rfl (fun w9 hs => ?_)
              refine ⟨?_, hs.below⟩; congr 2; simp only [brief2]; first | (symm; apply decide_eq_true; omega) | (symm; apply decide_eq_false; omega) | (apply decide_eq_decide.2; omega)
          · have := of_decide_eq_false hb5
            refine al_skip rfl rfl rfl ?_
            refine al_skip rfl rfl rfl ?_
            refine al_skip rfl rfl rfl ?_
            refine al_skip rfl rfl rfl ?_
            refine al_q (q_pickF rfl rfl) rfl rfl rfl ?_
            refine al_q (q_move rfl) rfl rfl rfl ?_
            refine al_skip rfl rfl rfl ?_
            refine al_skip rfl rfl rfl ?_
            refine al_skip rfl rfl rfl ?_
            refine al_skip rfl rfl rfl ?_
            refine al_q (q_pickF rfl rfl) rfl rfl rfl ?_
            refine al_q (q_assign rfl) rfl rfl rfl ?_
            refine al_end ?_
            refine aq_then ?_
            refine ac_ret ?_
            refine ret1 Tryz.results16 rfl (fun w9 hs => ?_)
            refine ⟨?_, hs.below⟩; congr 2; simp only [brief2]; first | (symm; apply decide_eq_true; omega) | (symm; apply decide_eq_false; omega) | (apply decide_eq_decide.2; omega)
        · have := of_decide_eq_false hb4
          refine al_skip rfl rfl rfl ?_
          refine al_skip rfl rfl rfl ?_
          refine al_skip rfl rfl rfl ?_
          refine al_skip rfl rfl rfl ?_
          refine al_q (q_pickF rfl rfl) rfl rfl rfl ?_
          refine al_q (q_move rfl) rfl rfl rfl ?_
          refine al_skip rfl rfl rfl ?_
          refine al_skip rfl rfl rfl ?_
          refine al_skip rfl rfl rfl ?_
          refine al_skip rfl rfl rfl ?_
          refine al_q (q_pickF rfl rfl) rfl rfl rfl ?_
          refine al_q (q_move rfl) rfl rfl rfl ?_
          refine al_skip rfl rfl rfl ?_
          refine al_skip rfl rfl rfl ?_
          refine al_skip rfl rfl rfl ?_
          refine al_skip rfl rfl rfl ?_
          refine al_q (q_pickF rfl rfl) rfl rfl rfl ?_
          refine al_q (q_assign rfl) rfl rfl rfl ?_
          refine al_end ?_
          refine aq_then ?_
          refine ac_ret ?_
          refine ret1 Tryz.results16 rfl (fun w9 hs => ?_)
          refine ⟨?_, hs.below⟩; congr 2; simp only [brief2]; first | (symm; apply decide_eq_true; omega) | (symm; apply decide_eq_false; omega) | (apply decide_eq_decide.2; omega)
      · have := of_decide_eq_false hb3
        refine al_skip rfl rfl rfl ?_
        refine al_skip rfl rfl rfl ?_
        refine al_skip rfl rfl rfl ?_
        refine al_skip rfl rfl rfl ?_
        refine al_q (q_pickF rfl rfl) rfl rfl rfl ?_
        refine al_q (q_move rfl) rfl rfl rfl ?_
        refine al_skip rfl rfl rfl ?_
        refine al_skip rfl rfl rfl ?_
        refine al_skip rfl rfl rfl ?_
        refine al_skip rfl rfl rfl ?_
        refine al_q (q_pickF rfl rfl) rfl rfl rfl ?_
        refine al_q (q_move rfl) rfl rfl rfl ?_
        refine al_skip rfl rfl rfl ?_
        refine al_skip rfl rfl rfl ?_
        refine al_skip rfl rfl rfl ?_
        refine al_skip rfl rfl rfl ?_
        refine al_q (q_pickF rfl rfl) rfl rfl rfl ?_
        refine al_q (q_move rfl) rfl rfl rfl ?_
        refine al_skip rfl rfl rfl ?_
        refine al_skip rfl rfl rfl ?_
        refine al_skip rfl rfl rfl ?_
        refine al_skip rfl rfl rfl ?_
        refine al_q (q_pickF rfl rfl) rfl rfl rfl ?_
        refine al_q (q_assign rfl) rfl rfl rfl ?_
        refine al_end ?_
        refine aq_then ?_
        refine aq_keepL [4] (.cons rfl .nil) ?_
        refine aq_keepB (.drop (.drop .nil)) ?_
        refine ac_ret ?_
        refine ret1 Tryz.results16 rfl (fun w9 hs => ?_)
        refine ⟨?_, hs.below⟩; congr 2; simp only [brief2]; first | (symm; apply decide_eq_true; omega) | (symm; apply decide_eq_false; omega) | (apply decide_eq_decide.2; omega)
    · have := of_decide_eq_false hb2
      refine al_skip rfl rfl rfl ?_
      refine al_skip rfl rfl rfl ?_
      refine al_skip rfl rfl rfl ?_
      refine al_skip rfl rfl rfl ?_
      refine al_q (q_pickF rfl rfl) rfl rfl rfl ?_
      refine al_q (q_move rfl) rfl rfl rfl ?_
      refine al_skip rfl rfl rfl ?_
      refine al_skip rfl rfl rfl ?_
      refine al_skip rfl rfl rfl ?_
      refine al_skip rfl rfl rfl ?_
      refine al_q (q_pickF rfl rfl) rfl rfl rfl ?_
      refine al_q (q_move rfl) rfl rfl rfl ?_
      refine al_skip rfl rfl rfl ?_
      refine al_skip rfl rfl rfl ?_
      refine al_skip rfl rfl rfl ?_
      refine al_skip rfl rfl rfl ?_
      refine al_q (q_pickF rfl rfl) rfl rfl rfl ?_
      refine al_q (q_move rfl) rfl rfl rfl ?_
      refine al_skip rfl rfl rfl ?_
      refine al_skip rfl rfl rfl ?_
      refine al_skip rfl rfl rfl ?_
      refine al_skip rfl rfl rfl ?_
      refine al_q (q_pickF rfl rfl) rfl rfl rfl ?_
      refine al_q (q_move rfl) rfl rfl rfl ?_
      refine al_skip rfl rfl rfl ?_
      refine al_skip rfl rfl rfl ?_
      refine al_skip rfl rfl rfl ?_
      refine al_skip rfl rfl rfl ?_
      refine al_q (q_pickF rfl rfl) rfl rfl rfl ?_
      refine al_q (q_assign rfl) rfl rfl rfl ?_
      refine al_end ?_
      refine aq_then ?_
      refine ac_ret ?_
      refine ret1 Tryz.results16 rfl (fun w9 hs => ?_)
      refine ⟨?_, hs.below⟩; congr 2; simp only [brief2]; first | (symm; apply decide_eq_true; omega) | (symm; apply decide_eq_false; omega) | (apply decide_eq_decide.2; omega)
  · have := of_decide_eq_false hb1
    refine al_skip rfl rfl rfl ?_
    refine al_skip rfl rfl rfl ?_
    refine al_skip rfl rfl rfl ?_
    refine al_skip rfl rfl rfl ?_
    refine al_q (q_pickF rfl rfl) rfl rfl rfl ?_
    refine al_q (q_move rfl) rfl rfl rfl ?_
    refine al_skip rfl rfl rfl ?_
    refine al_skip rfl rfl rfl ?_
    refine al_skip rfl rfl rfl ?_
    refine al_skip rfl rfl rfl ?_
    refine al_q (q_pickF rfl rfl) rfl rfl rfl ?_
    refine al_q (q_move rfl) rfl rfl rfl ?_
    refine al_skip rfl rfl rfl ?_
    refine al_skip rfl rfl rfl ?_
    refine al_skip rfl rfl rfl ?_
    refine al_skip rfl rfl rfl ?_
    refine al_q (q_pickF rfl rfl) rfl rfl rfl ?_
    refine al_q (q_move rfl) rfl rfl rfl ?_
    refine al_skip rfl rfl rfl ?_
    refine al_skip rfl rfl rfl ?_
    refine al_skip rfl rfl rfl ?_
    refine al_skip rfl rfl rfl ?_
    refine al_q (q_pickF rfl rfl) rfl rfl rfl ?_
    refine al_q (q_move rfl) rfl rfl rfl ?_
    refine al_skip rfl rfl rfl ?_
    refine al_skip rfl rfl rfl ?_
    refine al_skip rfl rfl rfl ?_
    refine al_skip rfl rfl rfl ?_
    refine al_q (q_pickF rfl rfl) rfl rfl rfl ?_
    refine al_q (q_move rfl) rfl rfl rfl ?_
    refine al_skip rfl rfl rfl ?_
    refine al_skip rfl rfl rfl ?_
    refine al_skip rfl rfl rfl ?_
    refine al_skip rfl rfl rfl ?_
    refine al_q (q_pickF rfl rfl) rfl rfl rfl ?_
    refine al_q (q_assign rfl) rfl rfl rfl ?_
    refine al_end ?_
    refine aq_then ?_
    refine ac_ret ?_
    refine ret1 Tryz.results16 rfl (fun w9 hs => ?_)
    refine ⟨?_, hs.below⟩; congr 2; simp only [brief2]; first | (symm; apply decide_eq_true; omega) | (symm; apply decide_eq_false; omega) | (apply decide_eq_decide.2; omega)

end Go.Proofs.YtjjajleiladbhaaGreatDoor
end
section
/- The frame of the laws over spans: how an argument that is a span or a Pair is opened and shut, over this seat's translation. -/
namespace Go.Proofs.YtjjajleiladbhaaGreatDoor
set_option linter.unusedVariables false
set_option linter.unusedSimpArgs false
set_option maxRecDepth 100000
open Go.ChangeShapes Go.WideShapes Go.ChangeAt Go.RowKit Go.Joins

theorem own : ownKnob Tryz.prog.godebug = none := by kernel_rfl

theorem cells_int : Tryz.prog.cellsOf 3 = 1 := by kernel_rfl

section
variable {H : Type} {enc : TypeId × Value → H}

end
end Go.Proofs.YtjjajleiladbhaaGreatDoor
end
section
/- The frame of the laws over pairs: how an argument that is a list of items of n cells is opened, over this seat's translation. -/
namespace Go.Proofs.YtjjajleiladbhaaGreatDoor
set_option linter.unusedVariables false
set_option linter.unusedSimpArgs false
set_option maxRecDepth 100000
open Go.ChangeShapes Go.WideShapes Go.ChangeAt Go.RowKit Go.Joins Go.Deep

section
variable {H : Type} {enc : TypeId × Value → H}

/-- A list that reads is a list of items, where each item that reads is one. -/
theorem open_isT {α : Type} {E : α → List Value} {n : Nat} (h0 : ∀ x, (E x).length = n) {t e : TypeId} {W : World} {b0 : Nat} {r : Reach} {v : Value} {d : DataW H} {p : List MemPlace}
    (ht : Tryz.prog.underlying t = some (.slice e)) (hc : Tryz.prog.cellsOf e = n) (hn : 0 < n)
    (dec : ∀ (fuel : Nat) (cs : List Value) (y : DataW H × List MemPlace), DataW.trod enc Tryz.prog W 0 (fun _ => true) true fuel e cs = some y → ∃ x : α, cs = E x)
    (hv : Value.okWide Tryz.prog W r b0 t v) (h : DataW.Trod enc Tryz.prog W 0 (fun _ => true) true t v d p) :
    ∃ (A : Option Addr) (len cap : Nat) (zs : List α), v = .slice A len cap ∧ IsT n E W A len zs ∧ len ≤ maxLen ∧ len ≤ cap ∧ cap ≤ maxLen := by
  obtain ⟨a, len, cap, rfl⟩ := okWide_slice ht hv
  obtain ⟨fuel, hf⟩ := h
  rcases open_slice ht hf with ⟨hcs, hx⟩ | ⟨a', len', cap', m, k, D, Pl, hcs, hb, hl, hm, hmm, hx, hi⟩
  · have hcs : [Value.slice a len cap] = [Value.slice none 0 0] := hcs
    injection hcs with hcs _
    injection hcs with e1 e2 e3
    subst e1 e2 e3
    exact ⟨_, _, _, [], rfl, IsT.nil _ _ _ _, Nat.zero_le _, Nat.zero_le _, Nat.zero_le _⟩
  · have hcs : [Value.slice a len cap] = [Value.slice (some a') len' cap'] := hcs
    injection hcs with hcs _
    injection hcs with e1 e2 e3
    subst e1 e2 e3
    simp only [if_true] at hmm
    subst hmm
    have each : ∀ i, i < len → ∃ x : α, ∀ j, j < n → W.cell? (a'.add (i * n + j)) = (E x)[j]? := fun i hil => by
      obtain ⟨cs', h1, h2⟩ := hi i (by omega)
      obtain ⟨x, rfl⟩ := dec _ _ _ h2
      rw [hc] at h1
      obtain ⟨_, _, hcell⟩ := World.cells?_some h1
      refine ⟨x, fun j hj => ?_⟩
      have := hcell j hj
      rwa [add_add] at this
    by_cases hz : len = 0
    · subst hz
      exact ⟨_, _, _, [], rfl, IsT.nil _ _ _ _, Nat.zero_le _, Nat.zero_le _, hm⟩
    · obtain ⟨x0, _⟩ := each 0 (by omega)
      haveI : Inhabited α := ⟨x0⟩
      obtain ⟨z, hz'⟩ := choose_lt each
      refine ⟨_, _, _, (List.range len).map z, rfl, ⟨by simp, fun _ => ?_⟩, Nat.le_trans hl hm, hl, hm⟩
      have c0 := hz' 0 (by omega) 0 hn
      obtain ⟨v0, hv0⟩ : ∃ v0, (E (z 0))[0]? = some v0 := ⟨_, List.getElem?_eq_getElem (by rw [h0]; exact hn)⟩
      rw [hv0] at c0
      have hlt := World.block_lt_of_cell? W _ c0
      have hsp := World.cell?_spot c0
      obtain ⟨b, off, spot⟩ := a'
      have hspot : spot = none := by simpa [Addr.add] using hsp
      subst hspot
      rw [block_add] at hlt
      refine ⟨b, off, rfl, hlt, fun j x hx i v hv => ?_⟩
      have hj : j < len := by
        have := (List.getElem?_eq_some_iff.1 hx).1
        simpa using this
      have hx' : x = z j := by
        rw [List.getElem?_map, List.getElem?_range hj] at hx
        simpa using hx.symm
      subst hx'
      have hin : i < n := by
        have := (List.getElem?_eq_some_iff.1 hv).1
        rwa [h0] at this
      have := hz' j hj i hin
      rw [add_plain, hv] at this
      rw [← this]
      congr 2
      omega

end
end Go.Proofs.YtjjajleiladbhaaGreatDoor
end
section
/- The frame of the laws over machines: how arguments that are a machine, a list of faults, a list of spans are opened and shut, over this seat's translation (written by mk_opn.py). -/
namespace Go.Proofs.YtjjajleiladbhaaGreatDoor
set_option linter.unusedVariables false
set_option linter.unusedSimpArgs false
set_option maxRecDepth 100000
open Go.ChangeShapes Go.WideShapes Go.ChangeAt Go.RowKit Go.Joins Go.Deep

theorem cells_string : Tryz.prog.cellsOf 9 = 1 := by kernel_rfl

section
variable {H : Type} {enc : TypeId × Value → H}

/-- open_isT, from a reading of cells. -/
theorem open_isTc {α : Type} {E : α → List Value} {n : Nat} (h0 : ∀ x, (E x).length = n) {t e : TypeId} {W : World} {fuel : Nat} {cs : List Value} {y : DataW H × List MemPlace}
    (ht : Tryz.prog.underlying t = some (.slice e)) (hc : Tryz.prog.cellsOf e = n) (hn : 0 < n)
    (dec : ∀ (fuel : Nat) (cs : List Value) (y : DataW H × List MemPlace), DataW.trod enc Tryz.prog W 0 (fun _ => true) true fuel e cs = some y → ∃ x : α, cs = E x)
    (hf : DataW.trod enc Tryz.prog W 0 (fun _ => true) true fuel t cs = some y) :
    ∃ (A : Option Addr) (len cap : Nat) (zs : List α), cs = [.slice A len cap] ∧ IsT n E W A len zs ∧ len ≤ cap ∧ cap ≤ maxLen := by
  rcases open_slice ht hf with ⟨hcs, hx⟩ | ⟨a', len, cap, m, k, D, Pl, hcs, hb, hl, hm, hmm, hx, hi⟩
  · exact ⟨_, _, _, [], hcs, IsT.nil _ _ _ _, Nat.zero_le _, Nat.zero_le _⟩
  · simp only [if_true] at hmm
    subst hmm
    subst hcs
    have each : ∀ i, i < len → ∃ x : α, ∀ j, j < n → W.cell? (a'.add (i * n + j)) = (E x)[j]? := fun i hil => by
      obtain ⟨cs', h1, h2⟩ := hi i (by omega)
      obtain ⟨x, rfl⟩ := dec _ _ _ h2
      rw [hc] at h1
      obtain ⟨_, _, hcell⟩ := World.cells?_some h1
      refine ⟨x, fun j hj => ?_⟩
      have := hcell j hj
      rwa [add_add] at this
    by_cases hz : len = 0
    · subst hz
      exact ⟨_, _, _, [], rfl, IsT.nil _ _ _ _, Nat.zero_le _, hm⟩
    · obtain ⟨x0, _⟩ := each 0 (by omega)
      haveI : Inhabited α := ⟨x0⟩
      obtain ⟨z, hz'⟩ := choose_lt each
      refine ⟨_, _, _, (List.range len).map z, rfl, ⟨by simp, fun _ => ?_⟩, hl, hm⟩
      have c0 := hz' 0 (by omega) 0 hn
      obtain ⟨v0, hv0⟩ : ∃ v0, (E (z 0))[0]? = some v0 := ⟨_, List.getElem?_eq_getElem (by rw [h0]; exact hn)⟩
      rw [hv0] at c0
      have hlt := World.block_lt_of_cell? W _ c0
      have hsp := World.cell?_spot c0
      obtain ⟨b, off, spot⟩ := a'
      have hspot : spot = none := by simpa [Addr.add] using hsp
      subst hspot
      rw [block_add] at hlt
      refine ⟨b, off, rfl, hlt, fun j x hx i v hv => ?_⟩
      have hj : j < len := by
        have := (List.getElem?_eq_some_iff.1 hx).1
        simpa using this
      have hx' : x = z j := by
        rw [List.getElem?_map, List.getElem?_range hj] at hx
        simpa using hx.symm
      subst hx'
      have hin : i < n := by
        have := (List.getElem?_eq_some_iff.1 hv).1
        rwa [h0] at this
      have := hz' j hj i hin
      rw [add_plain, hv] at this
      rw [← this]
      congr 2
      omega

theorem dec_Coil {W : World} {base : Nat} {spare : Nat → Bool} {held : Bool} (fuel : Nat) (cs : List Value) (y : DataW H × List MemPlace)
    (h : DataW.trod enc Tryz.prog W base spare held fuel 75 cs = some y) : ∃ x : CoilD, cs = x.cells := by
  obtain ⟨xs, n, -, -, hl, hlen, hf⟩ := DataW.trod_struct Tryz.underlying75 h
  rw [show Tryz.prog.cellsOf 75 = 8 by kernel_rfl] at hl
  match xs, hlen with
  | [y0, y1, y2, y3, y4, y5, y6, y7], _ =>
    match cs, hl with
    | [c0, c1, c2, c3, c4, c5, c6, c7], _ =>
      obtain ⟨a0, e0, -, -⟩ := DataW.trod_string Tryz.underlying9 ((hf 0 _ rfl).trans (rfl : _ = some y0))
      obtain ⟨a1, e1, -, -⟩ := DataW.trod_int Tryz.underlying3 ((hf 1 _ rfl).trans (rfl : _ = some y1))
      obtain ⟨a2, e2, -, -⟩ := DataW.trod_int Tryz.underlying3 ((hf 2 _ rfl).trans (rfl : _ = some y2))
      obtain ⟨a3, e3, -, -⟩ := DataW.trod_int Tryz.underlying3 ((hf 3 _ rfl).trans (rfl : _ = some y3))
      obtain ⟨a4, e4, -, -⟩ := DataW.trod_int Tryz.underlying3 ((hf 4 _ rfl).trans (rfl : _ = some y4))
      obtain ⟨a5, e5, -, -⟩ := DataW.trod_int Tryz.underlying3 ((hf 5 _ rfl).trans (rfl : _ = some y5))
      obtain ⟨a6, e6, -, -⟩ := DataW.trod_int Tryz.underlying3 ((hf 6 _ rfl).trans (rfl : _ = some y6))
      obtain ⟨a7, e7, -, -⟩ := DataW.trod_int Tryz.underlying3 ((hf 7 _ rfl).trans (rfl : _ = some y7))
      simp [cells_int, cells_string] at e0
      simp [cells_int, cells_string] at e1
      simp [cells_int, cells_string] at e2
      simp [cells_int, cells_string] at e3
      simp [cells_int, cells_string] at e4
      simp [cells_int, cells_string] at e5
      simp [cells_int, cells_string] at e6
      simp [cells_int, cells_string] at e7
      subst e0 e1 e2 e3 e4 e5 e6 e7
      exact ⟨⟨a0, a1, a2, a3, a4, a5, a6, a7⟩, rfl⟩

theorem dec_Shell {W : World} {base : Nat} {spare : Nat → Bool} {held : Bool} (fuel : Nat) (cs : List Value) (y : DataW H × List MemPlace)
    (h : DataW.trod enc Tryz.prog W base spare held fuel 79 cs = some y) : ∃ x : ShellD, cs = x.cells := by
  obtain ⟨xs, n, -, -, hl, hlen, hf⟩ := DataW.trod_struct Tryz.underlying79 h
  rw [show Tryz.prog.cellsOf 79 = 4 by kernel_rfl] at hl
  match xs, hlen with
  | [y0, y1, y2, y3], _ =>
    match cs, hl with
    | [c0, c1, c2, c3], _ =>
      obtain ⟨a0, e0, -, -⟩ := DataW.trod_int Tryz.underlying3 ((hf 0 _ rfl).trans (rfl : _ = some y0))
      obtain ⟨a1, e1, -, -⟩ := DataW.trod_int Tryz.underlying3 ((hf 1 _ rfl).trans (rfl : _ = some y1))
      obtain ⟨a2, e2, -, -⟩ := DataW.trod_int Tryz.underlying3 ((hf 2 _ rfl).trans (rfl : _ = some y2))
      obtain ⟨a3, e3, -, -⟩ := DataW.trod_int Tryz.underlying3 ((hf 3 _ rfl).trans (rfl : _ = some y3))
      simp [cells_int, cells_string] at e0
      simp [cells_int, cells_string] at e1
      simp [cells_int, cells_string] at e2
      simp [cells_int, cells_string] at e3
      subst e0 e1 e2 e3
      exact ⟨⟨a0, a1, a2, a3⟩, rfl⟩

theorem dec_Point {W : World} {base : Nat} {spare : Nat → Bool} {held : Bool} (fuel : Nat) (cs : List Value) (y : DataW H × List MemPlace)
    (h : DataW.trod enc Tryz.prog W base spare held fuel 40 cs = some y) : ∃ x : PointD, cs = x.cells := by
  obtain ⟨xs, n, -, -, hl, hlen, hf⟩ := DataW.trod_struct Tryz.underlying40 h
  rw [show Tryz.prog.cellsOf 40 = 2 by kernel_rfl] at hl
  match xs, hlen with
  | [y0, y1], _ =>
    match cs, hl with
    | [c0, c1], _ =>
      obtain ⟨a0, e0, -, -⟩ := DataW.trod_int Tryz.underlying3 ((hf 0 _ rfl).trans (rfl : _ = some y0))
      obtain ⟨a1, e1, -, -⟩ := DataW.trod_int Tryz.underlying3 ((hf 1 _ rfl).trans (rfl : _ = some y1))
      simp [cells_int, cells_string] at e0
      simp [cells_int, cells_string] at e1
      subst e0 e1
      exact ⟨⟨a0, a1⟩, rfl⟩

theorem dec_Sensor {W : World} {base : Nat} {spare : Nat → Bool} {held : Bool} (fuel : Nat) (cs : List Value) (y : DataW H × List MemPlace)
    (h : DataW.trod enc Tryz.prog W base spare held fuel 85 cs = some y) : ∃ x : SensorD, cs = x.cells := by
  obtain ⟨xs, n, -, -, hl, hlen, hf⟩ := DataW.trod_struct Tryz.underlying85 h
  rw [show Tryz.prog.cellsOf 85 = 5 by kernel_rfl] at hl
  match xs, hlen with
  | [y0, y1, y2, y3, y4], _ =>
    match cs, hl with
    | [c0, c1, c2, c3, c4], _ =>
      obtain ⟨a0, e0, -, -⟩ := DataW.trod_string Tryz.underlying9 ((hf 0 _ rfl).trans (rfl : _ = some y0))
      obtain ⟨a1, e1, -, -⟩ := DataW.trod_int Tryz.underlying3 ((hf 1 _ rfl).trans (rfl : _ = some y1))
      obtain ⟨a2, e2, -, -⟩ := DataW.trod_int Tryz.underlying3 ((hf 2 _ rfl).trans (rfl : _ = some y2))
      obtain ⟨a3, e3, -, -⟩ := DataW.trod_int Tryz.underlying3 ((hf 3 _ rfl).trans (rfl : _ = some y3))
      obtain ⟨a4, e4, -, -⟩ := DataW.trod_int Tryz.underlying3 ((hf 4 _ rfl).trans (rfl : _ = some y4))
      simp [cells_int, cells_string] at e0
      simp [cells_int, cells_string] at e1
      simp [cells_int, cells_string] at e2
      simp [cells_int, cells_string] at e3
      simp [cells_int, cells_string] at e4
      subst e0 e1 e2 e3 e4
      exact ⟨⟨a0, a1, a2, a3, a4⟩, rfl⟩

/-- A machine that reads: its lists, whatever their lengths. -/
structure OpM (w : World) (R : MachR) (M : MachD) : Prop where
  coils : IsT 8 CoilD.cells w R.A R.la M.coils
  shells : IsT 4 ShellD.cells w R.B R.lb M.shells
  limits : IsT 2 PointD.cells w R.C R.lc M.limits
  sensors : IsT 5 SensorD.cells w R.D R.ld M.sensors
  la : R.la ≤ R.ca
  lb : R.lb ≤ R.cb
  lc : R.lc ≤ R.cc
  ld : R.ld ≤ R.cd
  ca : R.ca ≤ 9223372036854775807
  cb : R.cb ≤ 9223372036854775807
  cc : R.cc ≤ 9223372036854775807
  cd : R.cd ≤ 9223372036854775807
theorem OpM.isM {w : World} {R : MachR} {M : MachD} (h : OpM w R M) (ka : R.la ≤ 1000000000000000) (kb : R.lb ≤ 1000000000000000) (kc : R.lc ≤ 1000000000000000) (kd : R.ld ≤ 1000000000000000) : IsM w R M :=
  ⟨h.coils, h.shells, h.limits, h.sensors, h.la, h.lb, h.lc, h.ld, h.ca, h.cb, h.cc, h.cd, ka, kb, kc, kd⟩

theorem open_machine {W : World} {b0 : Nat} {r : Reach} {v : Value} {d : DataW H} {p : List MemPlace}
    (hv : Value.okWide Tryz.prog W r b0 29 v) (h : DataW.Trod enc Tryz.prog W 0 (fun _ => true) true 29 v d p) :
    ∃ (R : MachR) (M : MachD), v = .agg (machCells R M) ∧ OpM W R M := by
  obtain ⟨⟨cs⟩, rfl, hsz⟩ := okWide_struct Tryz.underlying29 hv
  obtain ⟨fuel, hf0⟩ := h
  have hf1 : DataW.trod enc Tryz.prog W 0 (fun _ => true) true fuel 29 cs = some (d, p) := hf0
  obtain ⟨xs, n, -, -, hl, hlen, hf⟩ := DataW.trod_struct Tryz.underlying29 hf1
  rw [show Tryz.prog.cellsOf 29 = 10 by kernel_rfl] at hl
  match xs, hlen with
  | [y0, y1, y2, y3, y4, y5], _ =>
    match cs, hl with
    | [c0, c1, c2, c3, c4, c5, c6, c7, c8, c9], _ =>
      obtain ⟨name, e0, -, -⟩ := DataW.trod_string Tryz.underlying9 ((hf 0 _ rfl).trans (rfl : _ = some y0))
      obtain ⟨A, la, ca, coils, e1, h1, k1, m1⟩ := open_isTc (n := 8) (E := CoilD.cells) (fun _ => rfl) Tryz.underlying22 (by kernel_rfl) (by decide) dec_Coil ((hf 1 _ rfl).trans (rfl : _ = some y1))
      obtain ⟨B, lb, cb, shells, e2, h2, k2, m2⟩ := open_isTc (n := 4) (E := ShellD.cells) (fun _ => rfl) Tryz.underlying23 (by kernel_rfl) (by decide) dec_Shell ((hf 2 _ rfl).trans (rfl : _ = some y2))
      obtain ⟨C, lc, cc, limits, e3, h3, k3, m3⟩ := open_isTc (n := 2) (E := PointD.cells) (fun _ => rfl) Tryz.underlying24 (by kernel_rfl) (by decide) dec_Point ((hf 3 _ rfl).trans (rfl : _ = some y3))
      obtain ⟨D, ld, cd, sensors, e5, h5, k5, m5⟩ := open_isTc (n := 5) (E := SensorD.cells) (fun _ => rfl) Tryz.underlying27 (by kernel_rfl) (by decide) dec_Sensor ((hf 5 _ rfl).trans (rfl : _ = some y5))
      obtain ⟨gs, gn, -, -, gl, glen, gf⟩ := DataW.trod_struct Tryz.underlying26 ((hf 4 _ rfl).trans (rfl : _ = some y4))
      match gs, glen with
      | [z0, z1, z2, z3, z4], _ =>
        obtain ⟨a0, f0, -, -⟩ := DataW.trod_int Tryz.underlying3 ((gf 0 _ rfl).trans (rfl : _ = some z0))
        obtain ⟨a1, f1, -, -⟩ := DataW.trod_int Tryz.underlying3 ((gf 1 _ rfl).trans (rfl : _ = some z1))
        obtain ⟨a2, f2, -, -⟩ := DataW.trod_int Tryz.underlying3 ((gf 2 _ rfl).trans (rfl : _ = some z2))
        obtain ⟨a3, f3, -, -⟩ := DataW.trod_int Tryz.underlying3 ((gf 3 _ rfl).trans (rfl : _ = some z3))
        obtain ⟨a4, f4, -, -⟩ := DataW.trod_int Tryz.underlying3 ((gf 4 _ rfl).trans (rfl : _ = some z4))
        have cg : Tryz.prog.cellsOf 26 = 5 := by kernel_rfl
        have cs1 : Tryz.prog.cellsOf 22 = 1 := by kernel_rfl
        have cs2 : Tryz.prog.cellsOf 23 = 1 := by kernel_rfl
        have cs3 : Tryz.prog.cellsOf 24 = 1 := by kernel_rfl
        have cs5 : Tryz.prog.cellsOf 27 = 1 := by kernel_rfl
        simp [cells_int, cells_string, cg, cs1, cs2, cs3, cs5] at e0 e1 e2 e3 e5 f0 f1 f2 f3 f4
        subst e0 e1 e2 e3 e5 f0 f1 f2 f3 f4
        unfold maxLen at m1 m2 m3 m5
        exact ⟨⟨A, B, C, D, la, ca, lb, cb, lc, cc, ld, cd⟩, ⟨name, coils, shells, limits, ⟨a0, a1, a2, a3, a4⟩, sensors⟩, rfl, h1, h2, h3, h5, k1, k2, k3, k5, m1, m2, m3, m5⟩

theorem shut_machine {W W' : World} {v : Value} {d : DataW H} {p : List MemPlace} (h : DataW.Trod enc Tryz.prog W 0 (fun _ => true) true 29 v d p) (hb : Below W.heap.size W W') (hlt : ∀ x ∈ p, x.block < W.heap.size) :
    DataW.Trod enc Tryz.prog W' 0 (fun b => decide (b < W.heap.size)) true 29 v d p :=
  Below.trod (by kernel_rfl) (by kernel_rfl) (of_decide_eq_true (by kernel_rfl)) h hb hlt

end
end Go.Proofs.YtjjajleiladbhaaGreatDoor
end
section
/- The frame of the laws over currents and spots: how such arguments are opened and shut, over this seat's translation. -/
namespace Go.Proofs.YtjjajleiladbhaaGreatDoor
set_option linter.unusedVariables false
set_option linter.unusedSimpArgs false
set_option maxRecDepth 100000
open Go.ChangeShapes Go.WideShapes Go.ChangeAt Go.RowKit Go.Joins Go.Deep

section
variable {H : Type} {enc : TypeId × Value → H}

end
end Go.Proofs.YtjjajleiladbhaaGreatDoor
end
section
/- Layer 2: what a law that is awake begins with, over this seat's translation (written by ax_lw.py). -/
namespace Go.Proofs.YtjjajleiladbhaaGreatDoor
set_option linter.unusedVariables false
set_option linter.unusedSimpArgs false
open Go.RowKit

theorem brief2_iff {R : MachR} {Q : CurR} : brief2 R Q = true ↔ R.la ≤ 40 ∧ R.lb ≤ 40 ∧ R.lc ≤ 40 ∧ R.ld ≤ 60 ∧ Q.la ≤ 100 ∧ Q.lb ≤ 100 ∧ Q.lc ≤ 200 := by
  unfold brief2; exact decide_eq_true_iff

end Go.Proofs.YtjjajleiladbhaaGreatDoor
end
