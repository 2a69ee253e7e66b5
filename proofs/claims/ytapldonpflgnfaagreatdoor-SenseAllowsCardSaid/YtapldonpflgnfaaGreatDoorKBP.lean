import Derived.Test.YtapldonpflgnfaaGreatDoorKAA
import Derived.Test.YtapldonpflgnfaaGreatDoorKAK
import Derived.Test.YtapldonpflgnfaaGreatDoorKBH
import Derived.Test.YtapldonpflgnfaaGreatDoorKBM
import Derived.Test.YtapldonpflgnfaaGreatDoorKBN
import Derived.Test.YtapldonpflgnfaaGreatDoorKBO
import Derived.Test.YtapldonpflgnfaaGreatDoorRows
import Derived.KernelRfl
import Derived.Laws.StructEq
import Derived.ProofKit
import Derived.OpenShut
import Derived.Lib.SmallJoins
import Derived.Deep.Slices
import Derived.Carry
namespace Go.Proofs.YtapldonpflgnfaaGreatDoor
set_option linter.unusedVariables false
set_option linter.unusedSimpArgs false
section
open Go.RowKit Go.Shelf
end
section
open Go.RowKit
theorem agZ_len (M : MachD) (C : CurD) (zs : List SpanD) (cell cur : Int) : (agZ M C zs cell cur).length ≤ zs.length := by
  unfold agZ
  split
  · rename_i he
    split
    · have h1 := (explB_iff.1 he).2.1
      have h2 := agU_len (clL M (bgL M C) zs cell) cur (clL M (bgL M C) zs cell).length
      rw [clL_len] at h2
      unfold agL
      unfold agU at h2
      rw [clL_len]; omega
    · simp
  · simp
theorem rsame_true (A B : Option Addr) (la ca lb cb : Nat) (xs : List Int) (w : World) (h1 : IsT 1 intCells w A la xs) (h2 : IsT 1 intCells w B lb xs) (l1 : la ≤ 1000000000000000) (l2 : lb ≤ 1000000000000000) : Calls Tryz.prog 14 #[.slice A la ca, .slice B lb cb] w (Ret (.bool true) w) := by
  have h := rsame_any A B la ca lb cb xs xs w h1 h2 l1 l2
  rw [decide_eq_true rfl] at h
  exact h
set_option maxRecDepth 100000 in
theorem light9_any (R : MachR) (M : MachD) (Q : CurR) (F : Option Addr) (nf cf : Nat) (w : World) : Calls Tryz.prog 8 #[(.agg #[.string M.name, .slice R.A R.la R.ca, .slice R.B R.lb R.cb, .slice R.C R.lc R.cc, .int .i64 M.grid.r, .int .i64 M.grid.z, .int .i64 M.grid.nr, .int .i64 M.grid.nz, .int .i64 M.grid.step, .slice R.D R.ld R.cd, .slice Q.A Q.la Q.ca, .slice Q.B Q.lb Q.cb, .slice Q.C Q.lc Q.cc, .slice F nf cf])] w (Ret (.bool (briefB R.la R.lb R.lc R.ld Q.la Q.lb Q.lc nf)) w) := by
  refine calls_ax (vs := [(.agg #[.string M.name, .slice R.A R.la R.ca, .slice R.B R.lb R.cb, .slice R.C R.lc R.cc, .int .i64 M.grid.r, .int .i64 M.grid.z, .int .i64 M.grid.nr, .int .i64 M.grid.nz, .int .i64 M.grid.step, .slice R.D R.ld R.cd, .slice Q.A Q.la Q.ca, .slice Q.B Q.lb Q.cb, .slice Q.C Q.lc Q.cc, .slice F nf cf])]) Tryz.func8 rfl rfl ?_
  refine ac_seq (ac_region ?_)
  refine al_new (fun b => .pointer (some ⟨b, 0, none⟩)) (r_box rfl rfl) rfl rfl rfl ?_
  intro b1
  refine al_p (q_assign rfl) ?_
  refine al_end (aq_then ?_)
  refine ac_seq (ac_region ?_)
  refine al_p (q_fieldAddr 0 rfl Tryz.runUnderlying35 rfl Tryz.sizeOf29 (by decide) rfl) ?_
  refine al_p (q_loadSub (i := 0) rfl rfl Tryz.isAgg29 Tryz.sizeOf29 .k0 .k10) ?_
  refine al_p (q_fieldAddr 10 rfl Tryz.runUnderlying35 rfl Tryz.sizeOf32 (by decide) rfl) ?_
  refine al_p (q_loadSub (i := 0) rfl rfl Tryz.isAgg32 Tryz.sizeOf32 .k10 .k3) ?_
  refine al_p (q_fieldAddr 13 rfl Tryz.runUnderlying35 rfl Tryz.sizeOf33 (by decide) rfl) ?_
  refine al_p (q_load (i := 0) rfl rfl rfl Tryz.isAgg33) ?_
  refine al_call Tryz.call23 (.cons rfl (.cons rfl (.cons rfl .nil))) rfl rfl (fun w1 hs1 => ?_)
  refine (brief_any M.name R.A R.B R.C R.D R.la R.ca R.lb R.cb R.lc R.cc R.ld R.cd M.grid.r M.grid.z M.grid.nr M.grid.nz M.grid.step Q.A Q.B Q.C F Q.la Q.ca Q.lb Q.cb Q.lc Q.cc nf cf _).mono ?_
  rintro e u1 ⟨rfl, hb_1⟩
  refine ⟨_, rfl, hb_1, ?_⟩
  clear hs1
  refine al_p (q_assign rfl) ?_
  refine al_end (aq_then ?_)
  refine ac_ret ?_
  refine ret1 Tryz.results8 rfl (fun w9 hs => ?_)
  exact ⟨rfl, hs.below⟩
set_option maxRecDepth 100000 in
theorem sxe_eq_neq_apiSpan (a0 b0 : Int) (a1 b1 : Int) : ∀ w, (binOp .neq 41 (.agg #[.int .i64 a0, .int .i64 a1]) (.agg #[.int .i64 b0, .int .i64 b1])).run Tryz.prog w = .ok (.bool (!decide (a0 = b0 ∧ a1 = b1))) w := by
  intro w
  have e : binOp .neq 41 (.agg #[.int .i64 a0, .int .i64 a1]) (.agg #[.int .i64 b0, .int .i64 b1]) = (do pure (.bool (!(← Op.equal 41 (.agg #[.int .i64 a0, .int .i64 a1]) (.agg #[.int .i64 b0, .int .i64 b1])))) : Sem Value) := rfl
  have h : ∀ w, (Op.equal 41 (.agg #[.int .i64 a0, .int .i64 a1]) (.agg #[.int .i64 b0, .int .i64 b1])).run Tryz.prog w = .ok (decide (a0 = b0 ∧ a1 = b1)) w := by
    intro w
    show (Op.equalIn 10000 41 _ _).run _ w = _
    rw [run_equalIn_struct w 9999 41 _ _ (by kernel_rfl) (by kernel_rfl)]
    simp [Program.fieldsOf, Tryz.underlying41, Op.eqFields, go_sem, Tryz.underlying3, Tryz.isAgg3, Tryz.sizeOf3, str_eq]
    by_cases h0 : a0 = b0 <;> by_cases h1 : a1 = b1 <;> simp [h0, h1]
  rw [e]; simp [h]
set_option maxRecDepth 100000 in
theorem allows_lit (R : MachR) (M : MachD) (Q : CurR) (C : CurD) (F : Option Addr) (nf cf : Nat) (zs : List SpanD) (s cell cur : Int) (w : World) (i0 : -9223372036854775808 ≤ s) (i1 : s ≤ 9223372036854775807) (hM0 : R.la ≤ 1000000000000000 → R.lb ≤ 1000000000000000 → R.lc ≤ 1000000000000000 → R.ld ≤ 1000000000000000 → IsM w R M) (hC0 : Q.la ≤ 1000000000000000 → Q.lb ≤ 1000000000000000 → Q.lc ≤ 1000000000000000 → IsC w Q C) (hF : IsT 2 SpanD.cells w F nf zs) : Calls Tryz.prog 3 #[(.agg #[.string M.name, .slice R.A R.la R.ca, .slice R.B R.lb R.cb, .slice R.C R.lc R.cc, .int .i64 M.grid.r, .int .i64 M.grid.z, .int .i64 M.grid.nr, .int .i64 M.grid.nz, .int .i64 M.grid.step, .slice R.D R.ld R.cd, .slice Q.A Q.la Q.ca, .slice Q.B Q.lb Q.cb, .slice Q.C Q.lc Q.cc, .slice F nf cf]), (.agg #[.int .i64 s, .int .i64 cell, .int .i64 cur])] w (Ret (.bool true) w) := by
  refine calls_ax (vs := [(.agg #[.string M.name, .slice R.A R.la R.ca, .slice R.B R.lb R.cb, .slice R.C R.lc R.cc, .int .i64 M.grid.r, .int .i64 M.grid.z, .int .i64 M.grid.nr, .int .i64 M.grid.nz, .int .i64 M.grid.step, .slice R.D R.ld R.cd, .slice Q.A Q.la Q.ca, .slice Q.B Q.lb Q.cb, .slice Q.C Q.lc Q.cc, .slice F nf cf]), (.agg #[.int .i64 s, .int .i64 cell, .int .i64 cur])]) Tryz.func3 rfl rfl ?_
  refine ac_seq (ac_region ?_)
  refine al_new (fun b => .pointer (some ⟨b, 0, none⟩)) (r_box rfl rfl) rfl rfl rfl ?_
  intro b1
  refine al_new (fun b => .pointer (some ⟨b, 0, none⟩)) (r_box rfl rfl) rfl rfl rfl ?_
  intro b2
  refine al_p (q_assign rfl) ?_
  refine al_end (aq_then ?_)
  refine ac_seq ?_
  refine ac_seq (ac_region ?_)
  refine al_p (q_loadAll (i := 1) rfl rfl Tryz.isAgg35 Tryz.sizeOf35 rfl) ?_
  refine al_call Tryz.call8 (.cons rfl .nil) rfl rfl (fun w1 hs1 => ?_)
  refine (light9_any R M Q F nf cf _).mono ?_
  rintro e u1 ⟨rfl, hb_1⟩
  refine ⟨_, rfl, hb_1, ?_⟩
  clear hs1
  refine al_p (q_not rfl) ?_
  refine al_end (aq_then ?_)
  refine ac_cond rfl (fun h1 => ?_) (fun h1 => ?_)
  · skip
    refine ac_seq (ac_region ?_)
    refine al_call Tryz.call9 .nil rfl rfl (fun w2 hs2 => ?_)
    refine (awake_any _).mono ?_
    rintro e u2 ⟨rfl, hb_2⟩
    refine ⟨_, rfl, hb_2, ?_⟩
    clear hs2
    refine al_p (q_assign rfl) ?_
    refine al_end (aq_then ?_)
    refine ac_ret ?_
    refine aq_thenR ?_
    refine ret1 Tryz.results3 rfl (fun w9 hs => ?_)
    exact ⟨rfl, hs.below⟩
  · obtain ⟨u1, u2, u3, u4, u5, u6, u7, u8⟩ := brief_bd (show briefB R.la R.lb R.lc R.ld Q.la Q.lb Q.lc nf = true by simpa using h1)
    have hM := hM0 (by omega) (by omega) (by omega) (by omega)
    have hC := hC0 (by omega) (by omega) (by omega)
    have hn : nf ≤ 1000000000000000 := by omega
    refine ac_skip ?_
    refine aq_then ?_
    refine ac_seq (ac_region ?_)
    refine al_p (q_fieldAddr 0 rfl Tryz.runUnderlying35 rfl Tryz.sizeOf29 (by decide) rfl) ?_
    refine al_p (q_loadSub (i := 1) rfl rfl Tryz.isAgg29 Tryz.sizeOf29 .k0 .k10) ?_
    refine al_p (q_fieldAddr 10 rfl Tryz.runUnderlying35 rfl Tryz.sizeOf32 (by decide) rfl) ?_
    refine al_p (q_loadSub (i := 1) rfl rfl Tryz.isAgg32 Tryz.sizeOf32 .k10 .k3) ?_
    refine al_p (q_fieldAddr 13 rfl Tryz.runUnderlying35 rfl Tryz.sizeOf33 (by decide) rfl) ?_
    refine al_p (q_load (i := 1) rfl rfl rfl Tryz.isAgg33) ?_
    refine al_p (q_fieldAddr 0 rfl Tryz.runUnderlying37 rfl Tryz.sizeOf3 (by decide) rfl) ?_
    refine al_p (q_load (i := 0) rfl rfl rfl Tryz.isAgg3) ?_
    refine al_p (q_fieldAddr 1 rfl Tryz.runUnderlying37 rfl Tryz.sizeOf3 (by decide) rfl) ?_
    refine al_p (q_load (i := 0) rfl rfl rfl Tryz.isAgg3) ?_
    refine al_call Tryz.call10 (.cons rfl (.cons rfl (.cons rfl (.cons rfl (.cons rfl .nil))))) rfl rfl (fun w3 hs3 => ?_)
    refine (callowed9_any R M Q C F nf cf zs s cell _ (hM.below hs3.below) (hC.below hs3.below) (hF.below hs3.below) hn i0 i1).mono ?_
    rintro e u3 ⟨rfl, hb_3⟩
    refine ⟨_, rfl, hb_3, ?_⟩
    clear hs3
    refine al_p (q_move rfl) ?_
    refine al_p (q_extract rfl rfl) ?_
    refine al_p (q_extract rfl rfl) ?_
    refine al_new (fun b => .pointer (some ⟨b, 0, none⟩)) (r_alloc Tryz.zeroValue41 rfl) rfl rfl rfl ?_
    intro b3
    refine al_storeAll (i := 0) rfl rfl rfl rfl Tryz.sizeOf41 rfl rfl .k0 rfl ?_
    refine al_p (q_assign rfl) ?_
    refine al_end (aq_then ?_)
    refine ac_seq (ac_region ?_)
    refine al_p (q_fieldAddr 0 rfl Tryz.runUnderlying35 rfl Tryz.sizeOf29 (by decide) rfl) ?_
    refine al_p (q_loadSub (i := 2) rfl rfl Tryz.isAgg29 Tryz.sizeOf29 .k0 .k10) ?_
    refine al_p (q_fieldAddr 10 rfl Tryz.runUnderlying35 rfl Tryz.sizeOf32 (by decide) rfl) ?_
    refine al_p (q_loadSub (i := 2) rfl rfl Tryz.isAgg32 Tryz.sizeOf32 .k10 .k3) ?_
    refine al_p (q_fieldAddr 13 rfl Tryz.runUnderlying35 rfl Tryz.sizeOf33 (by decide) rfl) ?_
    refine al_p (q_load (i := 2) rfl rfl rfl Tryz.isAgg33) ?_
    refine al_p (q_fieldAddr 0 rfl Tryz.runUnderlying37 rfl Tryz.sizeOf3 (by decide) rfl) ?_
    refine al_p (q_load (i := 1) rfl rfl rfl Tryz.isAgg3) ?_
    refine al_p (q_fieldAddr 1 rfl Tryz.runUnderlying37 rfl Tryz.sizeOf3 (by decide) rfl) ?_
    refine al_p (q_load (i := 1) rfl rfl rfl Tryz.isAgg3) ?_
    refine al_call Tryz.call11 (.cons rfl (.cons rfl (.cons rfl (.cons rfl (.cons rfl .nil))))) rfl rfl (fun w4 hs4 => ?_)
    refine (rAllowed4_any R M Q C F nf cf zs s cell _ (hM.below hs4.below) (hC.below hs4.below) (hF.below hs4.below) hn).mono ?_
    rintro e u4 ⟨rfl, hb_4⟩
    refine ⟨_, rfl, hb_4, ?_⟩
    clear hs4
    refine al_p (q_move rfl) ?_
    refine al_p (q_extract rfl rfl) ?_
    refine al_p (q_extract rfl rfl) ?_
    refine al_new (fun b => .pointer (some ⟨b, 0, none⟩)) (r_alloc Tryz.zeroValue41 rfl) rfl rfl rfl ?_
    intro b4
    refine al_storeAll (i := 0) rfl rfl rfl rfl Tryz.sizeOf41 rfl rfl .k0 rfl ?_
    refine al_p (q_assign rfl) ?_
    refine al_end (aq_then ?_)
    refine ac_seq ?_
    refine ac_seq (ac_region ?_)
    refine al_p (q_loadAll (i := 1) rfl rfl Tryz.isAgg41 Tryz.sizeOf41 rfl) ?_
    refine al_p (q_loadAll (i := 0) rfl rfl Tryz.isAgg41 Tryz.sizeOf41 rfl) ?_
    refine al_p (q_same (v' := .bool false) (q_cmpS rfl rfl (by kernel_rfl) (sxe_eq_neq_apiSpan _ _ _ _)) (by simp)) ?_
    refine al_p (q_move rfl) ?_
    refine al_p (q_move rfl) ?_
    refine al_p (q_move rfl) ?_
    refine al_p (q_same (v' := .bool false) (q_neq rfl rfl) (by simp)) ?_
    refine al_p (q_pickF rfl rfl) ?_
    refine al_end (aq_then ?_)
    refine ac_condF rfl ?_
    refine ac_skip ?_
    refine aq_then ?_
    refine ac_seq (ac_region ?_)
    refine al_p (q_fieldAddr 0 rfl Tryz.runUnderlying35 rfl Tryz.sizeOf29 (by decide) rfl) ?_
    refine al_p (q_loadSub (i := 3) rfl rfl Tryz.isAgg29 Tryz.sizeOf29 .k0 .k10) ?_
    refine al_p (q_fieldAddr 10 rfl Tryz.runUnderlying35 rfl Tryz.sizeOf32 (by decide) rfl) ?_
    refine al_p (q_loadSub (i := 3) rfl rfl Tryz.isAgg32 Tryz.sizeOf32 .k10 .k3) ?_
    refine al_p (q_fieldAddr 13 rfl Tryz.runUnderlying35 rfl Tryz.sizeOf33 (by decide) rfl) ?_
    refine al_p (q_load (i := 3) rfl rfl rfl Tryz.isAgg33) ?_
    refine al_p (q_fieldAddr 1 rfl Tryz.runUnderlying37 rfl Tryz.sizeOf3 (by decide) rfl) ?_
    refine al_p (q_load (i := 2) rfl rfl rfl Tryz.isAgg3) ?_
    refine al_p (q_fieldAddr 2 rfl Tryz.runUnderlying37 rfl Tryz.sizeOf3 (by decide) rfl) ?_
    refine al_p (q_load (i := 2) rfl rfl rfl Tryz.isAgg3) ?_
    refine al_call Tryz.call12 (.cons rfl (.cons rfl (.cons rfl (.cons rfl (.cons rfl .nil))))) rfl rfl (fun w5 hs5 => ?_)
    refine (cagr9_any R M Q C F nf cf zs cell cur _ (hM.below hs5.below) (hC.below hs5.below) (hF.below hs5.below) hn).mono ?_
    rintro e u5 ⟨A_l, n_l, c_l, rfl, N_l, hb_5⟩
    refine ⟨_, rfl, hb_5, ?_⟩
    clear hs5
    refine al_p (q_move rfl) ?_
    refine al_p (q_extract rfl rfl) ?_
    refine al_p (q_extract rfl rfl) ?_
    refine al_p (q_assign rfl) ?_
    refine al_p (q_assign rfl) ?_
    refine al_end (aq_then ?_)
    refine ac_seq (ac_region ?_)
    refine al_p (q_fieldAddr 0 rfl Tryz.runUnderlying35 rfl Tryz.sizeOf29 (by decide) rfl) ?_
    refine al_p (q_loadSub (i := 3) rfl rfl Tryz.isAgg29 Tryz.sizeOf29 .k0 .k10) ?_
    refine al_p (q_fieldAddr 10 rfl Tryz.runUnderlying35 rfl Tryz.sizeOf32 (by decide) rfl) ?_
    refine al_p (q_loadSub (i := 3) rfl rfl Tryz.isAgg32 Tryz.sizeOf32 .k10 .k3) ?_
    refine al_p (q_fieldAddr 13 rfl Tryz.runUnderlying35 rfl Tryz.sizeOf33 (by decide) rfl) ?_
    refine al_p (q_load (i := 3) rfl rfl rfl Tryz.isAgg33) ?_
    refine al_p (q_fieldAddr 1 rfl Tryz.runUnderlying37 rfl Tryz.sizeOf3 (by decide) rfl) ?_
    refine al_p (q_load (i := 2) rfl rfl rfl Tryz.isAgg3) ?_
    refine al_p (q_fieldAddr 2 rfl Tryz.runUnderlying37 rfl Tryz.sizeOf3 (by decide) rfl) ?_
    refine al_p (q_load (i := 2) rfl rfl rfl Tryz.isAgg3) ?_
    refine al_call Tryz.call13 (.cons rfl (.cons rfl (.cons rfl (.cons rfl (.cons rfl .nil))))) rfl rfl (fun w6 hs6 => ?_)
    refine (rAgr4_any R M Q C F nf cf zs cell cur _ (hM.below hs6.below) (hC.below hs6.below) (hF.below hs6.below) hn).mono ?_
    rintro e u6 ⟨A_k, n_k, c_k, rfl, N_k, hb_6⟩
    refine ⟨_, rfl, hb_6, ?_⟩
    clear hs6
    refine al_p (q_move rfl) ?_
    refine al_p (q_extract rfl rfl) ?_
    refine al_p (q_extract rfl rfl) ?_
    refine al_p (q_assign rfl) ?_
    refine al_p (q_assign rfl) ?_
    refine al_end (aq_then ?_)
    refine aq_keepL [4, 9, 10, 11, 12] (.cons rfl (.cons rfl (.cons rfl (.cons rfl (.cons rfl .nil))))) ?_
    refine ac_seq (ac_region ?_)
    refine al_p (q_move rfl) ?_
    refine al_p (q_move rfl) ?_
    refine al_p (q_same (v' := .bool true) (q_eql rfl rfl) (by simp)) ?_
    refine al_p (q_move rfl) ?_
    refine al_p (q_move rfl) ?_
    refine al_p (q_move rfl) ?_
    refine al_call Tryz.call14 (.cons rfl (.cons rfl .nil)) rfl rfl (fun w7 hs7 => ?_)
    have hil := (hs7.newT (.tail _ (.head _)) N_l)
    have hik := (hs7.newT (.head _) N_k)
    have hl1 := agZ_len M C zs cell cur
    have hl2 := hil.1
    have hl3 := hik.1
    have hz9 : zs.length = nf := hF.1
    refine (rsame_true A_l A_k n_l c_l n_k c_k (agZ M C zs cell cur) _ hil hik (by omega) (by omega)).mono ?_
    rintro e u7 ⟨rfl, hb_7⟩
    refine ⟨_, rfl, hb_7, ?_⟩
    clear hs7
    refine al_p (q_pickT rfl rfl) ?_
    refine al_p (q_move rfl) ?_
    refine al_call Tryz.call9 .nil rfl rfl (fun w8 hs8 => ?_)
    refine (awake_any _).mono ?_
    rintro e u8 ⟨rfl, hb_8⟩
    refine ⟨_, rfl, hb_8, ?_⟩
    clear hs8
    refine al_p (q_pickT rfl rfl) ?_
    refine al_p (q_assign rfl) ?_
    refine al_end (aq_then ?_)
    refine ac_ret ?_
    refine ret1 Tryz.results3 rfl (fun w9 hs => ?_)
    exact ⟨rfl, hs.below⟩
theorem allows_walk (R : MachR) (M : MachD) (Q : CurR) (C : CurD) (F : Option Addr) (nf cf : Nat) (zs : List SpanD) (s cell cur : Int) (w : World) (i0 : -9223372036854775808 ≤ s) (i1 : s ≤ 9223372036854775807) (hM0 : R.la ≤ 1000000000000000 → R.lb ≤ 1000000000000000 → R.lc ≤ 1000000000000000 → R.ld ≤ 1000000000000000 → IsM w R M) (hC0 : Q.la ≤ 1000000000000000 → Q.lb ≤ 1000000000000000 → Q.lc ≤ 1000000000000000 → IsC w Q C) (hF : IsT 2 SpanD.cells w F nf zs) : Calls Tryz.prog 3 #[.agg (machCells R M ++ #[.slice Q.A Q.la Q.ca, .slice Q.B Q.lb Q.cb, .slice Q.C Q.lc Q.cc, .slice F nf cf]), .agg #[.int .i64 s, .int .i64 cell, .int .i64 cur]] w (Ret (.bool true) w) := allows_lit R M Q C F nf cf zs s cell cur w i0 i1 hM0 hC0 hF
end
section
set_option maxRecDepth 100000
open Go.ChangeShapes Go.WideShapes Go.ChangeAt Go.RowKit Go.Joins
theorem own : ownKnob Tryz.prog.godebug = none := by kernel_rfl
theorem cells_int : Tryz.prog.cellsOf 3 = 1 := by kernel_rfl
section
variable {H : Type} {enc : TypeId × Value → H}
end
end
section
set_option maxRecDepth 100000
open Go.ChangeShapes Go.WideShapes Go.ChangeAt Go.RowKit Go.Joins Go.Deep
section
variable {H : Type} {enc : TypeId × Value → H}
theorem open_isT {α : Type} {E : α → List Value} {n : Nat} (h0 : ∀ x, (E x).length = n) {t e : TypeId} {W : World} {b0 : Nat} {r : Reach} {v : Value} {d : DataW H} {p : List MemPlace}
    (ht : Tryz.prog.underlying t = some (.slice e)) (hc : Tryz.prog.cellsOf e = n) (hn : 0 < n)
    (dec : ∀ (fuel : Nat) (cs : List Value) (y : DataW H × List MemPlace), DataW.trod enc Tryz.prog W 0 (fun _ => true) true fuel e cs = some y → ∃ x : α, cs = E x)
    (hv : Value.okWide Tryz.prog W r b0 t v) (h : DataW.Trod enc Tryz.prog W 0 (fun _ => true) true t v d p) :
    ∃ (A : Option Addr) (len cap : Nat) (zs : List α), v = .slice A len cap ∧ IsT n E W A len zs ∧ len ≤ maxLen ∧ len ≤ cap ∧ cap ≤ maxLen := by
  obtain ⟨a, len, cap, rfl⟩ := okWide_slice ht hv
  obtain ⟨fuel, hf⟩ := h
  rcases open_slice ht hf with ⟨hcs, hx⟩ | ⟨a', len', cap', m, k, D, Pl, hcs, hb, hl, hm, hmm, hx, hi⟩
  · have hcs : [Value.slice a len cap] = [Value.slice none 0 0] := hcs
    injection hcs with hcs _
    injection hcs with e1 e2 e3
    subst e1 e2 e3
    exact ⟨_, _, _, [], rfl, IsT.nil _ _ _ _, Nat.zero_le _, Nat.zero_le _, Nat.zero_le _⟩
  · have hcs : [Value.slice a len cap] = [Value.slice (some a') len' cap'] := hcs
    injection hcs with hcs _
    injection hcs with e1 e2 e3
    subst e1 e2 e3
    simp only [if_true] at hmm
    subst hmm
    have each : ∀ i, i < len → ∃ x : α, ∀ j, j < n → W.cell? (a'.add (i * n + j)) = (E x)[j]? := fun i hil => by
      obtain ⟨cs', h1, h2⟩ := hi i (by omega)
      obtain ⟨x, rfl⟩ := dec _ _ _ h2
      rw [hc] at h1
      obtain ⟨_, _, hcell⟩ := World.cells?_some h1
      refine ⟨x, fun j hj => ?_⟩
      have := hcell j hj
      rwa [add_add] at this
    by_cases hz : len = 0
    · subst hz
      exact ⟨_, _, _, [], rfl, IsT.nil _ _ _ _, Nat.zero_le _, Nat.zero_le _, hm⟩
    · obtain ⟨x0, _⟩ := each 0 (by omega)
      haveI : Inhabited α := ⟨x0⟩
      obtain ⟨z, hz'⟩ := choose_lt each
      refine ⟨_, _, _, (List.range len).map z, rfl, ⟨by simp, fun _ => ?_⟩, Nat.le_trans hl hm, hl, hm⟩
      have c0 := hz' 0 (by omega) 0 hn
      obtain ⟨v0, hv0⟩ : ∃ v0, (E (z 0))[0]? = some v0 := ⟨_, List.getElem?_eq_getElem (by rw [h0]; exact hn)⟩
      rw [hv0] at c0
      have hlt := World.block_lt_of_cell? W _ c0
      have hsp := World.cell?_spot c0
      obtain ⟨b, off, spot⟩ := a'
      have hspot : spot = none := by simpa [Addr.add] using hsp
      subst hspot
      rw [block_add] at hlt
      refine ⟨b, off, rfl, hlt, fun j x hx i v hv => ?_⟩
      have hj : j < len := by
        have := (List.getElem?_eq_some_iff.1 hx).1
        simpa using this
      have hx' : x = z j := by
        rw [List.getElem?_map, List.getElem?_range hj] at hx
        simpa using hx.symm
      subst hx'
      have hin : i < n := by
        have := (List.getElem?_eq_some_iff.1 hv).1
        rwa [h0] at this
      have := hz' j hj i hin
      rw [add_plain, hv] at this
      rw [← this]
      congr 2
      omega
end
end
end Go.Proofs.YtapldonpflgnfaaGreatDoor
